/- The evaluator, part D2: states are told anew, so that what is handed on is short. -/
import Derived.Test.YtphhepnldndbhaaGreatDoorGr04
import Derived.Test.YtphhepnldndbhaaGreatDoorGr03
import Derived.Laws.Externs
import Derived.Lib.Bytealg
import Derived.ChangeKeysEq
import Derived.Lib.MakeNoZero
set_option linter.unusedVariables false
namespace Go.Proofs.YtphhepnldndbhaaGreatDoor.Sx
open Go
variable {β : Type}

def forceN (n : Nat) (k : Nat → β) : β := match n with | 0 => k 0 | m + 1 => k (m + 1)
theorem forceN_eq (n : Nat) (k : Nat → β) : forceN n k = k n := by cases n <;> rfl
mutual
def forceV : AV → (AV → β) → β
  | .agg cs, k => forceVL cs fun cs => k (.agg cs)
  | .tuple cs, k => forceVL cs fun cs => k (.tuple cs)
  | .func f as cs, k => forceVL as fun as => forceVL cs fun cs => k (.func f as cs)
  | .iface t v, k => forceV v fun v => k (.iface t v)
  | .ptr nm off, k => forceN nm fun nm => k (.ptr nm off)
  | .slice nm off l c, k => forceN nm fun nm => k (.slice nm off l c)
  | .vec nm l, k => forceN nm fun nm => k (.vec nm l)
  | .dsl nm l, k => forceN nm fun nm => k (.dsl nm l)
  | .dptr nm l, k => forceN nm fun nm => k (.dptr nm l)
  | .rptr nm w i j, k => forceN nm fun nm => k (.rptr nm w i j)
  | .vsl nm w i j, k => forceN nm fun nm => k (.vsl nm w i j)
  | .mapp nm, k => forceN nm fun nm => k (.mapp nm)
  | .gptr nm l, k => forceN nm fun nm => k (.gptr nm l)
  | .bool b, k => k (.bool b)
  | .int kd n, k => k (.int kd n)
  | .str s, k => k (.str s)
  | .nilptr, k => k .nilptr
  | .nilslice, k => k .nilslice
  | .nilfunc, k => k .nilfunc
  | .nilmap, k => k .nilmap
  | .niliface, k => k .niliface
  | .bad, k => k .bad
def forceVL : List AV → (List AV → β) → β
  | [], k => k []
  | v :: vs, k => forceV v fun v => forceVL vs fun vs => k (v :: vs)
end
mutual
theorem forceV_eq : ∀ (v : AV) (k : AV → β), forceV v k = k v
  | .agg cs, k => by rw [forceV, forceVL_eq]
  | .tuple cs, k => by rw [forceV, forceVL_eq]
  | .func f as cs, k => by rw [forceV, forceVL_eq, forceVL_eq]
  | .iface t v, k => by rw [forceV, forceV_eq]
  | .ptr nm off, k => by rw [forceV, forceN_eq]
  | .slice nm off l c, k => by rw [forceV, forceN_eq]
  | .vec nm l, k => by rw [forceV, forceN_eq]
  | .dsl nm l, k => by rw [forceV, forceN_eq]
  | .dptr nm l, k => by rw [forceV, forceN_eq]
  | .rptr nm w i j, k => by rw [forceV, forceN_eq]
  | .vsl nm w i j, k => by rw [forceV, forceN_eq]
  | .mapp nm, k => by rw [forceV, forceN_eq]
  | .gptr nm l, k => by rw [forceV, forceN_eq]
  | .bool b, k => by rw [forceV]
  | .int kd n, k => by rw [forceV]
  | .str s, k => by rw [forceV]
  | .nilptr, k => by rw [forceV]
  | .nilslice, k => by rw [forceV]
  | .nilfunc, k => by rw [forceV]
  | .nilmap, k => by rw [forceV]
  | .niliface, k => by rw [forceV]
  | .bad, k => by rw [forceV]
theorem forceVL_eq : ∀ (vs : List AV) (k : List AV → β), forceVL vs k = k vs
  | [], k => by rw [forceVL]
  | v :: vs, k => by rw [forceVL, forceV_eq, forceVL_eq]
end
def forceO : PObj → (PObj → β) → β
  | .raw (.cells cs t), k => forceVL cs fun cs => k (.raw (.cells cs t))
  | .raw (.vec cs t sz), k => forceVL cs fun cs => k (.raw (.vec cs t sz))
  | .raw (.ro off cs), k => forceVL cs fun cs => k (.raw (.ro off cs))
  | .raw (.flat m cs), k => forceVL cs fun cs => k (.raw (.flat m cs))
  | .raw (.flatR m sh rows), k => k (.raw (.flatR m sh rows))
  | .raw (.flatN sh rows), k => k (.raw (.flatN sh rows))
  | .raw (.iter s p), k => k (.raw (.iter s p))
  | .raw (.shut cs t sz), k => forceVL cs fun cs => k (.raw (.shut cs t sz))
  | .raw (.mapS n ks), k => k (.raw (.mapS n ks))
  | .raw (.loopR up n ix cs ps asg body), k => forceVL cs fun cs => k (.raw (.loopR up n ix cs ps asg body))
  | .raw .dead, k => k (.raw .dead)
  | .vecI kd l t, k => k (.vecI kd l t)
  | .arrI kd l t, k => k (.arrI kd l t)
  | .vecB l t, k => k (.vecB l t)
  | .arrB l t, k => k (.arrB l t)
  | .shutB l t, k => k (.shutB l t)
  | .vecR sh rows t, k => k (.vecR sh rows t)
  | .arrT l t, k => k (.arrT l t)
  | .flatI m l, k => k (.flatI m l)
  | .flatU m l, k => k (.flatU m l)
theorem forceO_eq (o : PObj) (k : PObj → β) : forceO o k = k o := by
  cases o with
  | raw o => cases o <;> simp only [forceO, forceVL_eq]
  | _ => rfl
def forceSl : List (Option AV) → (List (Option AV) → β) → β
  | [], k => k []
  | none :: vs, k => forceSl vs fun vs => k (none :: vs)
  | some v :: vs, k => forceV v fun v => forceSl vs fun vs => k (some v :: vs)
theorem forceSl_eq : ∀ (vs : List (Option AV)) (k : List (Option AV) → β), forceSl vs k = k vs
  | [], k => rfl
  | none :: vs, k => by rw [forceSl, forceSl_eq vs]
  | some v :: vs, k => by rw [forceSl, forceV_eq, forceSl_eq vs]
def forceM : List (Option PObj) → (List (Option PObj) → β) → β
  | [], k => k []
  | none :: vs, k => forceM vs fun vs => k (none :: vs)
  | some v :: vs, k => forceO v fun v => forceM vs fun vs => k (some v :: vs)
theorem forceM_eq : ∀ (vs : List (Option PObj)) (k : List (Option PObj) → β), forceM vs k = k vs
  | [], k => rfl
  | none :: vs, k => by rw [forceM, forceM_eq vs]
  | some v :: vs, k => by rw [forceM, forceO_eq, forceM_eq vs]
def forcePL : List PObj → (List PObj → β) → β
  | [], k => k []
  | v :: vs, k => forceO v fun v => forcePL vs fun vs => k (v :: vs)
theorem forcePL_eq : ∀ (vs : List PObj) (k : List PObj → β), forcePL vs k = k vs
  | [], k => rfl
  | v :: vs, k => by rw [forcePL, forceO_eq, forcePL_eq vs]
def forceS (s : PState) (k : PState → β) : β := forceSl s.slots fun sl => forceM s.mem fun m => k ⟨sl, m⟩
theorem forceS_eq (s : PState) (k : PState → β) : forceS s k = k s := by rw [forceS, forceSl_eq, forceM_eq]

end Go.Proofs.YtphhepnldndbhaaGreatDoor.Sx

/- The evaluator, part D3: in which order the operations of a region may come, told fast. -/
set_option linter.unusedVariables false
namespace Go.Proofs.YtphhepnldndbhaaGreatDoor.Sx
open Go
variable {P : Program}

def maskOf (M : List Nat) (d : List Nat) : Nat := d.foldl (fun m k => m ||| (1 <<< k) ||| M.getD k 0) 0
def ancM : List (List Nat) → List Nat → List Nat
  | [], acc => acc
  | d :: ds, acc => ancM ds (acc ++ [maskOf acc d])
/-- Each mask is what the edges and the masks of what lies ahead make. -/
def maskOK (ops : Array Oper) (M : List Nat) : Bool :=
  Nat.beq M.length ops.size && (List.range ops.size).all fun i => Nat.beq (M.getD i 0) (maskOf M (directI ops i)) && (directI ops i).all fun k => Nat.blt k i
def pairsF (ops : Array Oper) (M : List Nat) (LG : Nat → Foot) : Bool :=
  (List.range ops.size).all fun i => (List.range i).all fun k => (M.getD i 0).testBit k || indepI ops LG k i
def orderF (P : Program) (ops : Array Oper) (fs : List Foot) : Bool :=
  let M := ancM (ops.toList.map direct) []
  P.follows .mixedOrders && maskOK ops M && pairsF ops M (fun i => fs.getD i .no)

theorem maskOf_testBit (M : List Nat) (m : Nat) : ∀ (d : List Nat) (a : Nat), (d.foldl (fun m k => m ||| (1 <<< k) ||| M.getD k 0) a).testBit m = (a.testBit m || d.any fun k => decide (k = m) || (M.getD k 0).testBit m)
  | [], a => by simp
  | k :: d, a => by
    rw [List.foldl_cons, maskOf_testBit M m d, Nat.testBit_or, Nat.testBit_or, Nat.one_shiftLeft, Nat.testBit_two_pow, List.any_cons, Bool.or_assoc, Bool.or_assoc, Bool.or_assoc]

def ancL (n : Nat) (M : List Nat) : List (List Nat) := M.map fun x => (List.range n).filter fun k => x.testBit k
theorem ancL_get {n : Nat} {M : List Nat} {i : Nat} (h : i < M.length) : (ancL n M).getD i [] = (List.range n).filter fun k => (M.getD i 0).testBit k := by
  simp [ancL, List.getD, h]

theorem orderF_sound {ops : Array Oper} {fs : List Foot} (h : orderF P ops fs = true) : ∃ A, P.follows .mixedOrders = true ∧ ancOK ops A = true ∧ pairsOK ops A (fun i => fs.getD i .no) = true := by
  simp only [orderF, Bool.and_eq_true] at h
  obtain ⟨⟨h1, h2⟩, h3⟩ := h
  generalize ancM (ops.toList.map direct) [] = M at h2 h3
  simp only [maskOK, Bool.and_eq_true] at h2
  obtain ⟨hl, h2⟩ := h2
  have hl := beqT.1 hl
  refine ⟨ancL ops.size M, h1, ?_, ?_⟩
  · unfold ancOK
    refine List.all_eq_true.2 fun i hi => ?_
    have hi' : i < ops.size := List.mem_range.1 hi
    have h2i := List.all_eq_true.1 h2 i hi
    simp only [Bool.and_eq_true] at h2i
    obtain ⟨g1, g2⟩ := h2i
    have g1 := beqT.1 g1
    simp only [Bool.and_eq_true]
    refine ⟨List.all_eq_true.2 fun k hk => ?_, List.all_eq_true.2 fun m hm => ?_⟩
    · have := bltT.1 (List.all_eq_true.1 g2 k hk); simpa using this
    · rw [ancL_get (by omega), List.mem_filter, List.mem_range] at hm
      obtain ⟨hm1, hm2⟩ := hm
      rw [g1, maskOf, maskOf_testBit, Nat.zero_testBit, Bool.false_or, List.any_eq_true] at hm2
      obtain ⟨k, hk, hk2⟩ := hm2
      simp only [Bool.or_eq_true, decide_eq_true_eq] at hk2 ⊢
      rcases hk2 with rfl | hk2
      · exact .inl (by simpa using hk)
      · refine .inr (List.any_eq_true.2 ⟨k, hk, ?_⟩)
        have hki := bltT.1 (List.all_eq_true.1 g2 k hk)
        rw [ancL_get (by omega), List.contains_iff_mem, List.mem_filter, List.mem_range]
        exact ⟨hm1, hk2⟩
  · unfold pairsOK
    unfold pairsF at h3
    refine List.all_eq_true.2 fun i hi => List.all_eq_true.2 fun k hk => ?_
    have := List.all_eq_true.1 (List.all_eq_true.1 h3 i hi) k hk
    have hi' : i < ops.size := List.mem_range.1 hi
    have hk' : k < i := List.mem_range.1 hk
    rw [ancL_get (by omega)]
    simp only [Bool.or_eq_true] at this ⊢
    rcases this with h | h
    · refine .inl ?_
      rw [List.contains_iff_mem, List.mem_filter, List.mem_range]
      exact ⟨by omega, h⟩
    · exact .inr h

end Go.Proofs.YtphhepnldndbhaaGreatDoor.Sx

/- The symbolic executor, part U1: ranges over functions, and their rounds. -/
set_option linter.unusedSimpArgs false
set_option linter.unusedVariables false
namespace Go.Proofs.YtphhepnldndbhaaGreatDoor.Sx
open Go
variable {P : Program}

theorem Rel.alloc0 {w0 w : World} {M : Nat → Prop} {E : Env} {s : AState} {a : Act} (h : Rel w0 M E s a w) (x : Obj) : Rel w0 M E s a (w.alloc x) := by
  have hp : (w.alloc x).heap = w.heap.push x := rfl
  exact {
    size := h.size, slots := h.slots
    defers := h.defers.keep fun D hD => (push_old hp (Array.getElem?_eq_some_iff.1 hD).1).trans hD
    fresh := h.fresh
    mem := fun n o hn => by
      obtain ⟨b, c, hE, hob, hm⟩ := h.mem n o hn
      refine ⟨b, c, hE, ?_, hm⟩
      cases hl : o.live with
      | true => exact hob.block (fun h1 h2 => push_old hp (hob.lt h1 h2)) fun h1 k hk => push_old hp (hob.ltN h1 hk)
      | false => cases o <;> simp [AObj.live] at hl; trivial
    apart := h.apart
    frame := fun k hk hM => (push_old hp (Nat.lt_of_lt_of_le hk h.grow)).trans (h.frame k hk hM)
    grow := Nat.le_trans h.grow (by rw [hp]; simp)
    os := h.os, tape := h.tape, output := h.output, glob := h.glob, nest := h.nest }

/-- A mark for the rounds' deferred calls. -/
theorem Rel.mark {w0 w : World} {M : Nat → Prop} {E : Env} {s : AState} {a : Act} (h : Rel w0 M E s a w) :
    Rel w0 M E s { a with defers := { target := .collected w.heap.size, args := #[] } :: a.defers } (w.alloc (.deferred (some []))) := by
  have h' := h.alloc0 (.deferred (some []))
  have hp : (w.alloc (.deferred (some []))).heap = w.heap.push (.deferred (some [])) := rfl
  exact { h' with
    defers := ⟨fun d hd => by
      rcases List.mem_cons.1 hd with rfl | hd
      · exact ⟨_, rfl, h.grow, push_new hp⟩
      · exact h'.defers.1 d hd, List.pairwise_cons.2 ⟨fun d hd e => by
        obtain ⟨D, rfl, _, hD⟩ := h.defers.1 d hd
        have := (Array.getElem?_eq_some_iff.1 hD).1
        simp only [Target.collected.injEq] at e
        omega, h'.defers.2⟩⟩ }

/-- A new block with a name. -/
theorem Rel.name {w0 w : World} {M : Nat → Prop} {E : Env} {s : AState} {a : Act} {k : Nat} {x : Obj} {o : AObj} {c : Cap} (h : Rel w0 M E s a w) (hk : s.mem[k]? = some none) (ho : ObjR (E.set k (w.heap.size, c)) (w.alloc x) w.heap.size c o) (hc : c.bare := by exact Cap.bare_of fun _ _ => rfl) :
    Rel w0 M (E.set k (w.heap.size, c)) { s with mem := s.mem.set k (some o) } a (w.alloc x) := by
  have := h.step (F := ⟨[], [], [k]⟩) (cs := []) (upd := []) (new := [o]) (Eff.push (w' := w.alloc x) (obj := x) rfl rfl rfl rfl (h.fresh k hk) ho (fun e => absurd rfl e) hc) rfl (by simp) (.inl rfl) (fun n hn => by simp at hn; subst hn; exact hk) (fun n hn => by cases hn) rfl (.inl rfl) (fun n hn => by cases hn)
  simpa [setMem] using this

/-- A block that is owned holds something else. -/
theorem Rel.turn {w0 w : World} {M : Nat → Prop} {E : Env} {s : AState} {a : Act} {nm l : Nat} {c : Cap} {o o1 : AObj} (h : Rel w0 M E s a w) (hn : s.mem[nm]? = some (some o)) (ho : o.owned = true) (hE : E nm = some (l, c)) (x : Obj)
    (hob : ObjR E (w.putObj l x) l c o1) (hu : updOK [o1] [o] = true) : Rel w0 M E { s with mem := s.mem.set nm (some o1) } a (w.putObj l x) := by
  have hup : Upd l w (w.putObj l x) := ⟨fun k hk => World.putObj_heap_other hk, World.putObj_size, rfl, rfl, rfl⟩
  have := h.step (F := ⟨[nm], [nm], []⟩) (cs := [o]) (upd := [o1]) (new := []) (Eff.write hE hob hup) (by simp [objs, hn]) (by simp) (.inr (by simp)) (fun n hn => by cases hn) (fun n hn => hn) rfl (.inr hu) (fun n hn' o' ho' => by simp at hn'; subst hn'; rw [hn] at ho'; cases ho'; exact ho)
  simpa [setMem] using this

/-- One slot more. -/
theorem Rel.more {w0 w : World} {M : Nat → Prop} {E : Env} {s : AState} {a : Act} {v : AV} {x : Value} (h : Rel w0 M E s a w) (hd : den E v = some x) : Rel w0 M E { s with slots := s.slots ++ [some v] } { a with tmps := a.tmps.push x } w :=
  { h with
    size := by simp [h.size]
    slots := fun t u ht => by
      rcases Nat.lt_or_ge t s.slots.length with g | g
      · rw [List.getElem?_append_left g] at ht
        obtain ⟨y, hy, hdy⟩ := h.slots t u ht
        exact ⟨y, by rw [Array.getElem?_push, if_neg (by have := h.size; omega)]; exact hy, hdy⟩
      · rw [List.getElem?_append_right g] at ht
        have : t = s.slots.length := by
          have := (List.getElem?_eq_some_iff.1 ht).1
          simp at this; omega
        subst this
        simp at ht; subst ht
        exact ⟨x, by rw [← h.size]; simp, hd⟩ }
/-- And one less. -/
theorem Rel.less {w0 w : World} {M : Nat → Prop} {E : Env} {s : AState} {sl : List (Option AV)} {v : Option AV} {tm : Array Value} {x : Value} {ds : List Deferred} (h : Rel w0 M E { s with slots := sl ++ [v] } ⟨tm.push x, ds⟩ w) : Rel w0 M E { s with slots := sl } ⟨tm, ds⟩ w :=
  have hs : tm.size = sl.length := by have := h.size; simp at this; exact this
  { h with
    size := hs
    slots := fun t u ht => by
      have g : t < sl.length := (List.getElem?_eq_some_iff.1 ht).1
      obtain ⟨y, hy, hdy⟩ := h.slots t u (by show (sl ++ [v])[t]? = _; rw [List.getElem?_append_left g]; exact ht)
      refine ⟨y, ?_, hdy⟩
      have hy : (tm.push x)[t]? = some y := hy
      rwa [Array.getElem?_push, if_neg (by omega)] at hy }

/-- The slots that are told, with their places. -/
def known (keep : Nat → Bool) : Nat → List (Option AV) → List Nat × List AV
  | _, [] => ([], [])
  | i, some v :: vs => match keep i with
    | true => (i :: (known keep (i + 1) vs).1, v :: (known keep (i + 1) vs).2)
    | false => known keep (i + 1) vs
  | i, none :: vs => known keep (i + 1) vs
theorem known_den {keep : Nat → Bool} {w0 w : World} {M : Nat → Prop} {E : Env} {s : AState} {a : Act} (h : Rel w0 M E s a w) : ∀ (vs : List (Option AV)) (i : Nat), (∀ j v, vs[j]? = some v → s.slots[i + j]? = some v) →
    ∃ xs, denL E (known keep i vs).2 = some xs ∧ ∀ (j t : Nat) (x : Value), (known keep i vs).1[j]? = some t → xs[j]? = some x → a.tmps[t]? = some x
  | [], i, _ => ⟨[], rfl, fun j t x h => by simp [known] at h⟩
  | none :: vs, i, hv => by
    obtain ⟨xs, h1, h2⟩ := known_den h vs (i + 1) (fun j v hj => by have := hv (j + 1) v (by simpa using hj); rwa [show i + (j + 1) = i + 1 + j by omega] at this)
    exact ⟨xs, h1, h2⟩
  | some v :: vs, i, hv => by
    obtain ⟨xs, h1, h2⟩ := known_den h vs (i + 1) (fun j v hj => by have := hv (j + 1) v (by simpa using hj); rwa [show i + (j + 1) = i + 1 + j by omega] at this)
    obtain ⟨x, hx, hd⟩ := h.slots i v (by have := hv 0 _ rfl; simpa using this)
    simp only [known]
    cases keep i with
    | false => exact ⟨xs, h1, h2⟩
    | true =>
      refine ⟨x :: xs, denL_cons.2 ⟨x, xs, hd, h1, rfl⟩, fun j t y hj hy => ?_⟩
      cases j with
      | zero => simp at hj; subst hj; simp at hy; subst hy; exact hx
      | succ j => exact h2 j t y (by simpa using hj) (by simpa using hy)

/-- The slots with which a round begins. -/
def roundSlots (n : Nat) (ix : List Nat) (cs : List AV) : List (Option AV) := (ix.zip cs).foldl (fun l p => l.set p.1 (some p.2)) (List.replicate n none)
def setParams : List (Option AV) → List Tmp → List AV → List (Option AV)
  | sl, p :: ps, v :: vs => setParams (sl.set p (some v)) ps vs
  | sl, _, _ => sl

theorem roundSlots_get {E : Env} {T : Array Value} {n : Nat} : ∀ (ix : List Nat) (cs : List AV) (xs : List Value) (l : List (Option AV)), denL E cs = some xs → (∀ (i t : Nat) (x : Value), ix[i]? = some t → xs[i]? = some x → T[t]? = some x) →
    (∀ (t : Nat) (v : AV), l[t]? = some (some v) → ∃ x, T[t]? = some x ∧ den E v = some x) → (∀ (t : Nat) (v : AV), ((ix.zip cs).foldl (fun l p => l.set p.1 (some p.2)) l)[t]? = some (some v) → ∃ x, T[t]? = some x ∧ den E v = some x)
  | [], _, _, l, _, _, h => by simpa using h
  | _ :: _, [], _, l, _, _, h => by simpa using h
  | i :: ix, c :: cs, xs, l, hd, hT, h => by
    obtain ⟨x, ys, hx, hy, rfl⟩ := denL_cons.1 hd
    simp only [List.zip_cons_cons, List.foldl_cons]
    refine roundSlots_get (n := n) ix cs ys _ hy (fun j t z hj hz => hT (j + 1) t z (by simpa using hj) (by simpa using hz)) fun t v ht => ?_
    rw [List.getElem?_set] at ht
    split at ht
    · rename_i e; subst e
      split at ht
      · cases ht; exact ⟨x, hT 0 i x rfl rfl, hx⟩
      · cases ht
    · exact h t v ht
theorem foldl_set_length : ∀ (ps : List (Nat × AV)) (l : List (Option AV)), (ps.foldl (fun l p => l.set p.1 (some p.2)) l).length = l.length
  | [], l => rfl
  | p :: ps, l => by simp [foldl_set_length ps]
theorem setParams_length : ∀ (ps : List Tmp) (vs : List AV) (l : List (Option AV)), (setParams l ps vs).length = l.length
  | [], _, l => by simp [setParams]
  | _ :: _, [], l => by simp [setParams]
  | p :: ps, v :: vs, l => by simp [setParams, setParams_length ps vs]
theorem setParams_get {E : Env} : ∀ (ps : List Tmp) (vs : List AV) (ys : List Value) (l : List (Option AV)) (T : Array Value), denL E vs = some ys → ps.length = vs.length → T.size = l.length →
    (∀ (t : Nat) (v : AV), l[t]? = some (some v) → ∃ x, T[t]? = some x ∧ den E v = some x) → (∀ (t : Nat) (v : AV), (setParams l ps vs)[t]? = some (some v) → ∃ x, ((ps.zip ys).foldl (fun t (p : Tmp × Value) => t.setIfInBounds p.1 p.2) T)[t]? = some x ∧ den E v = some x) ∧ ((ps.zip ys).foldl (fun t (p : Tmp × Value) => t.setIfInBounds p.1 p.2) T).size = l.length
  | [], [], ys, l, T, _, _, hs, h => by simpa [setParams] using ⟨h, hs⟩
  | [], _ :: _, _, _, _, _, h, _, _ => by simp at h
  | _ :: _, [], _, _, _, _, h, _, _ => by simp at h
  | p :: ps, v :: vs, ys, l, T, hd, hl, hs, h => by
    obtain ⟨x, zs, hx, hz, rfl⟩ := denL_cons.1 hd
    simp only [setParams, List.zip_cons_cons, List.foldl_cons]
    have := setParams_get ps vs zs (l.set p (some v)) (T.setIfInBounds p x) hz (by simpa using hl) (by simpa using hs) (fun t u ht => by
      rw [List.getElem?_set] at ht
      split at ht
      · rename_i e; subst e
        split at ht
        · rename_i hlt; cases ht; exact ⟨x, by rw [Array.getElem?_setIfInBounds_self_of_lt (by omega)], hx⟩
        · cases ht
      · rename_i e
        obtain ⟨y, hy, hdy⟩ := h t u ht
        exact ⟨y, by rw [Array.getElem?_setIfInBounds_ne e]; exact hy, hdy⟩)
    simpa using this

end Go.Proofs.YtphhepnldndbhaaGreatDoor.Sx

/- The symbolic executor, part U2: a range over a function, and a round of it, are sound. -/
set_option linter.unusedSimpArgs false
set_option linter.unusedVariables false
namespace Go.Proofs.YtphhepnldndbhaaGreatDoor.Sx
open Go
variable {P : Program}

/-- The one call of a range over a function: the function to which rounds are handed stands in slot T. -/
def rangeOp (f : Operand) (T : Nat) : Oper := { dst := none, op := .call { callee := .value f, args := #[.tmp T], argTypes := #[] }, type := 0, pos := "", after := #[], guard := none }

theorem astep_range {h : Hint} {f : Operand} {T : Nat} {s : AState} {st : Step} (hst : astep P #[] h (rangeOp f T) s = some st) : st.st.slots = s.slots := by
  unfold astep at hst
  simp only [guardA, rangeOp] at hst
  split at hst
  · cases hst
  · split at hst
    · cases hst
    · split at hst
      · cases hst
      · split at hst
        · split at hst
          · cases hst
          · split at hst
            · cases hst; rfl
            · cases hst
        · cases hst

theorem range_end {u : LSt} {w0 w3 : World} {M : Nat → Prop} {E' : Env} {st : AState} {sl : List (Option AV)} {v : AV} {tm : Array Value} {x : Value} {ds : List Deferred} {nm l n' : Nat} {c : Cap} {ix' : List Nat} {cs' : List AV} {ps' : List Tmp} {asg' body' : Code}
    (h3 : Rel w0 M E' st ⟨tm.push x, ds⟩ w3) (hss : st.slots = sl ++ [some v]) (hl : st.mem[nm]? = some (some (.loopR u n' ix' cs' ps' asg' body'))) (hE : E' nm = some (l, c)) :
    ∃ r : Loop, w3.heap[l]? = some (.loop r) ∧ r.state = u.st ∧ r.pending = u.pend ∧ Rel w0 M E' ⟨sl, st.mem.set nm (some .dead)⟩ ⟨tm, ds⟩ (w3.putObj l (.loop { r with state := .exhausted })) := by
  obtain ⟨b, c', hb, hob', _⟩ := h3.mem nm _ hl
  rw [hE] at hb; cases hb
  obtain ⟨ys, r, hys, hheap, hst', hpend, _⟩ := hob'
  refine ⟨r, hheap, hst', hpend, ?_⟩
  have h4 := h3.turn (o1 := .dead) hl rfl hE (.loop { r with state := .exhausted }) True.intro rfl
  refine Rel.less (s := ⟨[], st.mem.set nm (some .dead)⟩) (v := some v) (x := x) ?_
  rw [← hss]
  exact h4

set_option maxHeartbeats 1000000 in
/-- How a range over a function is left. -/
def LSt.ex : LSt → Option Ex
  | .ready => some .normal
  | .done (.exit i) => some (.exit i)
  | .done .ret => some .ret
  | _ => none
theorem tri_range {u : LSt} {e : Ex} (hu : u.ex = some e) {f : Operand} {ps : Array Tmp} {asg body asg' body' : Code} {s : AState} {g : FuncId} {caps cs cs' : List AV} {keep : Nat → Bool} {nm n' K : Nat} {ix ix' : List Nat} {ps' : List Tmp} {h : Hint} {st : Step} (hev : s.ev f = some (.func g [] caps)) (hg : g ≠ yF)
    (hent : ∀ args w, (callFunc g args).run P w = .ok (.enter g args) w) (hnm : s.mem[nm]? = some none) (hkn : known keep 0 s.slots = (ix, cs))
    (hst : astep P #[] h (rangeOp f s.slots.length) ⟨s.slots ++ [some (.func yF [.ptr nm 0] [])], s.mem.set nm (some (.loopR .ready s.slots.length ix cs ps.toList asg body))⟩ = some st) (hob : AllP st.obl)
    (hl : st.st.mem[nm]? = some (some (.loopR u n' ix' cs' ps' asg' body'))) : Tri P (.rangeFunc f ps asg body) s e ⟨s.slots, st.st.mem.set nm (some .dead)⟩ K := by
  intro ro w0 M E a w hro hR
  obtain rfl : ro = none := hro.resolve_right (by simp [noRange])
  refine wpIn_rangeFunc ?_
  intro fn hfn
  obtain ⟨rec, hrec⟩ : ∃ rec : Loop, rec = { state := .ready, pending := none, fn, tmps := a.tmps, params := ps, assign := asg, body, defers := w.heap.size } := ⟨_, rfl⟩
  have r1 := hR.mark
  have hE : E nm = none := hR.fresh nm hnm
  obtain ⟨W0, hW0⟩ : ∃ W0, W0 = w.alloc (.deferred (some [])) := ⟨_, rfl⟩
  have hsz : W0.heap.size = w.heap.size + 1 := by rw [hW0]; simp
  obtain ⟨W1, hW1⟩ : ∃ W1, W1 = W0.alloc (.loop rec) := ⟨_, rfl⟩
  have hpush : W1.heap = W0.heap.push (.loop rec) := by rw [hW1]; rfl
  rw [← hW0] at r1
  obtain ⟨xs, hxs, hT⟩ := known_den hR s.slots 0 (fun j v hj => by simpa using hj)
  rw [hkn] at hxs hT
  have r2 := r1.name (k := nm) (x := .loop rec) (o := .loopR .ready s.slots.length ix cs ps.toList asg body) (c := 0) hnm
    ⟨xs, rec, denL_mono (Env.le.set hE) _ _ hxs, push_new rfl, by rw [hrec]; rfl, by rw [hrec]; rfl, by rw [hrec], by rw [hrec], by rw [hrec], by rw [hrec]; exact hR.size, fun i t x hi hx => by rw [hrec]; exact hT i t x hi hx⟩
  rw [← hW1] at r2
  obtain ⟨E1, hE1⟩ : ∃ E1, E1 = E.set nm (W0.heap.size, 0) := ⟨_, rfl⟩
  rw [← hE1] at r2
  have hE1n : E1 nm = some (W0.heap.size, 0) := by rw [hE1]; exact Env.set_same E nm _
  have r3 := r2.more (v := .func yF [.ptr nm 0] []) (x := .func (.yield W0.heap.size) #[] #[]) (by simp [den, yfOf, hE1n])
  have hfv := hR.ev hev
  obtain ⟨lb, hlb⟩ : ∃ lb, a.eval f = .func (.func g) #[] lb := by
    simp only [den, if_neg hg, denL] at hfv
    split at hfv
    · rename_i ys zs hy hz; cases hy; exact ⟨zs.toArray, (Option.some.inj hfv).symm⟩
    · cases hfv
  have hfv2 : ({ tmps := a.tmps.push (.func (.yield W0.heap.size) #[] #[]), defers := { target := .collected w.heap.size, args := #[] } :: a.defers } : Act).eval f = .func (.func g) #[] lb := by
    rw [← hlb]
    cases f with
    | tmp t =>
      have ht : t < s.slots.length := by
        simp only [AState.ev, Option.join_eq_some_iff] at hev
        exact (List.getElem?_eq_some_iff.1 hev).1
      simp only [Act.eval, Array.getD_eq_getD_getElem?]
      rw [Array.getElem?_push, if_neg (by intro e; have h1 : (t : Nat) < a.tmps.size := by { rw [hR.size]; exact ht }; exact absurd e (Nat.ne_of_lt h1))]
    | const c => rfl
    | global c => rfl
    | func c => rfl
  have key := astep_sound (ro := none) (Q := fun _ _ _ => False) (next := fun a' w' => ∃ E', Env.le E1 E' ∧ Rel w0 M E' st.st a' w') hst hob r3 (fun E' a' w' hle h' => ⟨E', hle, h'⟩)
  have hwant : Region.wanted (rangeOp f s.slots.length) (yielded #[] (a.tmps.push (.func (.yield W0.heap.size) #[] #[]))) = true := rfl
  simp only at key
  rw [if_pos hwant] at key
  have key := key.2
  have hexec : ((rangeOp f s.slots.length).semAt (WR none).round ({ tmps := a.tmps.push (.func (.yield W0.heap.size) #[] #[]), defers := { target := .collected w.heap.size, args := #[] } :: a.defers } : Act).eval).run P W1 = .ok (.enter g (#[.func (.yield W0.heap.size) #[] #[]] ++ lb)) W1 := by
    rw [show (WR none).round = none from rfl, Oper.semAt_none]
    have h1 := resolve_value (P := P) (w := W1) (c := { callee := .value f, args := #[.tmp s.slots.length], argTypes := #[] }) (ty := 0) rfl hfv2
    simp only [execOp, rangeOp]
    refine h1.trans ?_
    have hx : (#[Operand.tmp s.slots.length].map ({ tmps := a.tmps.push (.func (.yield W0.heap.size) #[] #[]), defers := { target := .collected w.heap.size, args := #[] } :: a.defers } : Act).eval) = #[.func (.yield W0.heap.size) #[] #[]] := by
      simp [Act.eval, ← hR.size]
    rw [hx, hent]
    simp
  rw [hexec, Oper.uponIn_enter] at key
  refine ⟨W0.heap.size, [{ target := .collected w.heap.size, args := #[] }], W1, { target := .fn (.func g) lb, args := #[.func (.yield W0.heap.size) #[] #[]] }, W1, g, #[.func (.yield W0.heap.size) #[] #[]] ++ lb, W1, ?_, ?_, ?_, ?_, fun e => (by simp [WR, Fence.wide] at e), ?_⟩
  · rw [show (WR none).round = none from rfl, run_enterLoop_outer, hW1, hrec, hW0]
    simp
  · simp only [resolve, hlb]
    simp [go_sem]
  · intro f' hf'; exact True.intro
  · simp [invoke, go_sem, hent]
  · refine CallsIn.mono key.2 ?_
    rintro e w3 he
    cases e with
    | panicked ch => exact he.elim
    | outgrown => obtain ⟨_, _, hf⟩ := he; exact hf.elim
    | returned v =>
      obtain ⟨E', hle, h3⟩ := he
      obtain ⟨r, hheap, hst', hpend, h5⟩ := range_end h3 (astep_range hst) hl (hle _ _ hE1n)
      refine ⟨u.pend, w3.putObj W0.heap.size (.loop { r with state := .exhausted }), ?_, ?_⟩
      · rw [run_endLoop hheap (by rw [hst']; cases u <;> first | (simp [LSt.st]; done) | cases hu), hpend]
      · have fin : ∃ E'', Env.leK K E E'' ∧ Rel w0 M E'' ⟨s.slots, st.st.mem.set nm (some .dead)⟩ { tmps := a.tmps, defers := { target := .collected w.heap.size, args := #[] } :: a.defers } (w3.putObj W0.heap.size (.loop { r with state := .exhausted })) := ⟨E', fun n p _ hn => hle n p (by
          rw [hE1, Env.set_other E _ (by rintro rfl; rw [hE] at hn; cases hn)]; exact hn), h5⟩
        cases u with
        | ready => cases hu; exact ⟨rfl, fin⟩
        | busy => cases hu
        | done j => cases j <;> first | (cases hu; done) | (cases hu; exact wpIn_exit ⟨rfl, fin⟩) | (cases hu; exact wpIn_ret ⟨rfl, fin⟩)

end Go.Proofs.YtphhepnldndbhaaGreatDoor.Sx

/- The symbolic executor, part U3: a round of a range over a function, as a call's contract. -/
set_option linter.unusedSimpArgs false
set_option linter.unusedVariables false
namespace Go.Proofs.YtphhepnldndbhaaGreatDoor.Sx
open Go
variable {P : Program}

/-- The state in which a round begins. -/
def roundStart (n : Nat) (ix : List Nat) (cs : List AV) (ps : List Tmp) (vals : List AV) (pre : List AObj) (k : Nat) : AState :=
  ⟨setParams (roundSlots n ix cs) ps vals, pre.map (fun o => some o.lent) ++ List.replicate k none⟩

theorem zip_foldl_toArray (ps : List Tmp) (ys : List Value) (T : Array Value) : ((ps.toArray.zip ys.toArray).foldl (fun t (p : Tmp × Value) => t.setIfInBounds p.1 p.2) T) = ((ps.zip ys).foldl (fun t (p : Tmp × Value) => t.setIfInBounds p.1 p.2) T) := by
  rw [← Array.foldl_toList]
  simp

theorem turn_ready {w0 w : World} {M : Nat → Prop} {E : Env} {s : AState} {a : Act} {nm l n : Nat} {c : Cap} {ix : List Nat} {cs : List AV} {ps : List Tmp} {asg body : Code} (b b' : LSt) (h : Rel w0 M E s a w) (hn : s.mem[nm]? = some (some (.loopR b n ix cs ps asg body))) (hE : E nm = some (l, c)) :
    ∃ r : Loop, w.heap[l]? = some (.loop r) ∧ r.state = b.st ∧ r.pending = b.pend ∧ Rel w0 M E { s with mem := s.mem.set nm (some (.loopR b' n ix cs ps asg body)) } a (w.putObj l (.loop { r with state := b'.st, pending := b'.pend })) := by
  obtain ⟨b1, c', hb, hob, _⟩ := h.mem nm _ hn
  rw [hE] at hb; cases hb
  obtain ⟨ys, r, hys, hheap, hst, hpend, h1, h2, h3, h4, h5⟩ := hob
  refine ⟨r, hheap, hst, hpend, ?_⟩
  exact h.turn (o1 := .loopR b' n ix cs ps asg body) hn rfl hE _ ⟨ys, { r with state := b'.st, pending := b'.pend }, hys, World.putObj_heap_same (Array.getElem?_eq_some_iff.1 hheap).1, rfl, rfl, h1, h2, h3, h4, h5⟩ rfl

theorem round_rel {w : World} {E : Env} {vals : List AV} {ys : List Value} {pre : List AObj} {n NF : Nat} {ix : List Nat} {cs : List AV} {ps : List Tmp} {r : Loop} {xs : List Value} (hp : PreR E w pre) (hv : denL E vals = some ys) (hlen : ps.length = vals.length) (hps : r.params = ps.toArray) (hn : r.tmps.size = n)
    (hcs : denL E cs = some xs) (hT : ∀ (i t : Nat) (x : Value), ix[i]? = some t → xs[i]? = some x → r.tmps[t]? = some x) :
    Rel w (fun b => ∃ (n : Nat) (o : AObj) (c : Cap), pre[n]? = some o ∧ o.owned = true ∧ E n = some (b, c)) E (roundStart n ix cs ps vals pre NF) { tmps := roundTmps r ys, defers := [] } w := by
  have h0 := start_rel (args := []) (xs := []) (ntmps := 0) (k := NF) rfl hp
  have hl : (roundSlots n ix cs).length = n := by simp [roundSlots, foldl_set_length]
  have hg := roundSlots_get (E := E) (T := r.tmps) (n := n) ix cs xs (List.replicate n none) hcs hT (fun t v h => by
    rw [List.getElem?_replicate] at h; split at h <;> simp at h)
  obtain ⟨g1, g2⟩ := setParams_get ps vals ys (roundSlots n ix cs) r.tmps hv hlen (by rw [hl, hn]) hg
  have hT' : roundTmps r ys = (ps.zip ys).foldl (fun t (p : Tmp × Value) => t.setIfInBounds p.1 p.2) r.tmps := by
    rw [roundTmps, hps]; exact zip_foldl_toArray ps ys r.tmps
  exact { h0 with
    size := by rw [hT', g2]; simp [roundStart, setParams_length]
    slots := fun t v h => by rw [hT']; exact g1 t v h
    defers := DefOK.nil _ _ }

/-- The record behind a round that is left so. -/
def LSt.of : Ex → LSt
  | .normal => .ready
  | .exit i => .done (.exit i)
  | .ret => .done .ret
theorem meets_round {e2 : Ex} {vals : List AV} {pre post : List AObj} {nm n n1 n2 NF : Nat} {ix ix1 ix2 : List Nat} {cs cs1 cs2 : List AV} {ps ps1 ps2 : List Tmp} {asg body asg1 body1 asg2 body2 : Code} {s1 s2 t : AState} {rn : List Nat} {hs : List Hint} {ob ob2 : List Prop}
    (hpre : pre[nm]? = some (.loopR .ready n ix cs ps asg body)) (hlen : ps.length = vals.length) (hna : noRange asg = true) (hnb : noRange body = true)
    (t1 : Tri P asg (roundStart n ix cs ps vals pre NF) .normal s1 pre.length) (hs1 : s1.mem[nm]? = some (some (.loopR .ready n1 ix1 cs1 ps1 asg1 body1)))
    (t2 : Tri P body { s1 with mem := s1.mem.set nm (some (.loopR .busy n1 ix1 cs1 ps1 asg1 body1)) } e2 s2 pre.length) (hs2 : s2.mem[nm]? = some (some (.loopR .busy n2 ix2 cs2 ps2 asg2 body2)))
    (hren : renA rn pre.length { s2 with mem := s2.mem.set nm (some (.loopR (.of e2) n2 ix2 cs2 ps2 asg2 body2)) } t = some ob) (hob : AllP ob) (hfin : finA P [] hs t pre.length (.tuple []) post = some ob2) (hob2 : AllP ob2)
    (hpq : ((pre.zip post).all fun p => !p.1.owned || p.2.owned || !p.2.live) = true) : Meets P yF (.ptr nm 0 :: vals) pre (.bool (LSt.of e2).pend.isNone) post := by
  intro w E xs hx hp
  obtain ⟨x, ys, hx1, hys, rfl⟩ := denL_cons.1 hx
  obtain ⟨b, c, hE, rfl⟩ := ptr_den hx1
  obtain ⟨b', c', hE', hob'⟩ := hp.objs nm _ hpre
  rw [hE] at hE'; cases hE'
  obtain ⟨zs, r, hzs, hheap, hst, hpend, h1, h2, h3, h4, h5⟩ := hob'
  have hnm : nm < pre.length := (List.getElem?_eq_some_iff.1 hpre).1
  unfold Does
  rw [if_pos rfl]
  refine ⟨b, r, ys, rfl, hheap, ?_, fun ro => ?_⟩
  · rw [h1, denL_length hys]; simpa using hlen.symm
  · refine roundIn_of_wpIn (F := WR ro) True.intro ?_
    have h0 := round_rel (NF := NF) hp hys hlen h1 h4 hzs h5
    rw [h2, h3]
    refine wpIn_mono (t1 (some b) w _ E _ w (.inr hna) h0) ?_
    rintro e a1 w1 ⟨rfl, E1, hle1, r1⟩
    have hE1 := hle1 nm _ hnm hE
    obtain ⟨q1, hq1, hqs1, hqp1, r2⟩ := turn_ready .ready .busy r1 hs1 hE1
    refine ⟨_, run_beginRound hq1 hqs1, ?_⟩
    have e1 : ({ q1 with state := LSt.busy.st, pending := LSt.busy.pend } : Loop) = { q1 with state := .busy } := by
      cases q1; simp only [LSt.pend] at hqp1; subst hqp1; rfl
    rw [e1] at r2
    refine wpIn_mono (t2 (some b) w _ E1 a1 _ (.inr hnb) r2) ?_
    rintro e a2 w3 ⟨rfl, E2, hle2, r3⟩
    have hE2 := hle2 nm _ hnm hE1
    obtain ⟨q2, hq2, hqs2, hqp2, r4⟩ := turn_ready .busy (.of e2) r3 hs2 hE2
    have fin : ∀ j : Option Code, j = (LSt.of e2).pend → (Instr.endRound b j).run P w3 = .ok (.bool j.isNone) (w3.putObj b (.loop { q2 with state := (LSt.of e2).st, pending := (LSt.of e2).pend })) := by
      rintro j rfl
      rw [run_endRound _ hq2]
      cases e2 <;> rfl
    obtain ⟨r5, hk⟩ := r4.ren hren hob
    obtain ⟨ob1, vs, hr, k1, k2, E'', hd2, hpost⟩ := post_core hfin hob2 hpq hp (fun n p hn he => by simp [hk n hn, hle2 n p hn (hle1 n p hn he)]) r5
    cases e2 with
    | normal => exact ⟨_, _, fin none rfl, E'', .bool true, rfl, rfl, hpost⟩
    | exit i => exact ⟨_, _, fin (some (.exit i)) rfl, E'', .bool false, rfl, rfl, hpost⟩
    | ret => exact ⟨_, _, fin (some .ret) rfl, E'', .bool false, rfl, rfl, hpost⟩

end Go.Proofs.YtphhepnldndbhaaGreatDoor.Sx

/- The evaluator, part E: regions and code, with what follows handed on. -/
set_option linter.unusedVariables false
set_option linter.unusedSimpArgs false
namespace Go.Proofs.YtphhepnldndbhaaGreatDoor.Sx
open Go
variable {P : Program} {R : Type}

/-- How calls are answered. -/
abbrev Hd (R : Type) := FuncId → List AV → List PObj → (AV → List PObj → Option R) → Option R
def HOK (P : Program) (H : Hd R) : Prop := ∀ f args pre k r, H f args pre k = some r → ∃ res post, Meets P f args (pre.map PObj.toA) res (post.map PObj.toA) ∧ k res post = some r

def setP (mem : List (Option PObj)) : List Nat → List PObj → List (Option PObj)
  | n :: ns, o :: os => setP (mem.set n (some o)) ns os
  | _, _ => mem
theorem memA_setP : ∀ (ns : List Nat) (os : List PObj) (mem : List (Option PObj)), memA (setP mem ns os) = setMem (memA mem) ns (os.map PObj.toA)
  | [], os, mem => by simp [setP, setMem]
  | n :: ns, [], mem => by simp [setP, setMem]
  | n :: ns, o :: os, mem => by
    simp only [setP, List.map_cons, setMem]
    rw [memA_setP ns os]
    congr 1
    simp [memA, List.map_set]

/-- Slots whose truth must be told ahead of an operation. -/
def litTmps (ops : Array Oper) (o : Oper) : List Nat :=
  (match o.guard with
    | some (j, _) => match (ops[j]?).bind (·.dst) with | some d => [d] | none => []
    | none => []) ++
  (match o.op with
    | .pick (.tmp t) _ _ => [t]
    | _ => [])

def PState.setSlot (s : PState) (d : Nat) (v : AV) : PState := ⟨s.slots.set d (some v), s.mem⟩
def withLits : List Nat → PState → (PState → Option R) → Option R
  | [], s, k => k s
  | d :: ds, s, k => match (s.slots[d]?).join with
    | some (.bool b) => bcond b (withLits ds (s.setSlot d (.bool true)) k) (withLits ds (s.setSlot d (.bool false)) k)
    | _ => withLits ds s k

theorem setSlot_same {s : PState} {d : Nat} {v : AV} (h : (s.slots[d]?).join = some v) : s.setSlot d v = s := by
  simp only [Option.join_eq_some_iff] at h
  cases s with
  | mk sl m =>
    simp only [PState.setSlot, PState.mk.injEq, and_true]
    obtain ⟨h1, h2⟩ := List.getElem?_eq_some_iff.1 h
    rw [← h2, List.set_getElem_self]
theorem withLits_sound {k : PState → Option R} {r : R} : ∀ (ds : List Nat) (s : PState), withLits ds s k = some r → k s = some r
  | [], s, h => h
  | d :: ds, s, h => by
    simp only [withLits] at h
    split at h
    · rename_i b hb
      cases b with
      | true => simp only [bcond] at h; rw [setSlot_same hb] at h; exact withLits_sound ds s h
      | false => simp only [bcond] at h; rw [setSlot_same hb] at h; exact withLits_sound ds s h
    · exact withLits_sound ds s h

def altE (P : Program) (ops : Array Oper) (o : Oper) (s : PState) (k : Foot → PState → Option R) : Alt → Option R
  | .ok chk h upd new => bcond chk (match astep P ops h o s.toA with
      | some st => k st.foot ⟨st.st.slots, setP (if st.foot.ws.isEmpty then s.mem else setP s.mem st.foot.rd upd) st.foot.al new⟩
      | none => none) none
  | .br b x y => bcond b (altE P ops o s k x) (altE P ops o s k y)

/-- What a step did. -/
def Did (P : Program) (ops : Array Oper) (o : Oper) (s : PState) (k : Foot → PState → Option R) (r : R) : Prop :=
  ∃ h st s', astep P ops h o s.toA = some st ∧ AllP st.obl ∧ s'.toA = st.st ∧ k st.foot s' = some r

theorem callA_none {h : Hint} {o : Op} {vals : List AV} {cs : List AObj} (hc : h.call = none) : callA h P o vals cs = none := by
  unfold callA; split
  · rename_i e; rw [hc] at e; cases e
  · rfl

theorem altE_sound {ops : Array Oper} {o : Oper} {s : PState} {k : Foot → PState → Option R} {r : R} {vals : List AV} (hg : guardA ops o s.toA = some true) (hv : evs s.toA o.op.operands.toList = some vals) :
    ∀ (a : Alt), AltOK P o.op vals s.mem a → altE P ops o s k a = some r → Did P ops o s k r
  | .br b x y, ha, h => by
    cases b with
    | true => exact altE_sound hg hv x (ha.1 rfl) h
    | false => exact altE_sound hg hv y (ha.2 rfl) h
  | .ok chk h upd new, ha, hh => by
    cases chk with
    | false => simp [altE, bcond] at hh
    | true =>
      simp only [altE, bcond] at hh
      split at hh
      · rename_i st hst
        obtain ⟨hc, ha⟩ := ha rfl
        have hst0 := hst
        unfold astep at hst
        rw [hg] at hst
        simp only [hv] at hst
        split at hst
        · cases hst
        · rename_i F hF
          split at hst
          · cases hst
          · rename_i cs hcs
            split at hst
            · rw [callA_none hc] at hst
              simp only at hst
              split at hst
              · cases hst
              · rename_i q hq
                split at hst
                · have hq' : act P h o.op vals cs = some q := hq
                  obtain ⟨a1, a2, a3⟩ := ha F cs q hF hcs hq'
                  cases hst
                  refine ⟨h, _, _, hst0, a1, ?_, hh⟩
                  simp only [PState.toA]
                  congr 1
                  rw [memA_setP, a3]
                  congr 1
                  split
                  · rfl
                  · rename_i hw
                    rw [memA_setP, a2 (by intro e; rw [e] at hw; exact hw rfl)]
                · cases hst
            · cases hst
      · cases hh

def freeNs : Nat → List (Option PObj) → List Nat
  | _, [] => []
  | i, none :: m => i :: freeNs (i + 1) m
  | i, some _ :: m => freeNs (i + 1) m

def updP (ren : List Nat) : List PObj → List PObj → List PObj → List PObj
  | c :: cs, p :: pre, q :: post => (if p.toA.owned then q.ren ren else c) :: updP ren cs pre post
  | _, _, _ => []
theorem updP_toA {ren : List Nat} : ∀ (cs pre post : List PObj), (updP ren cs pre post).map PObj.toA = updOf ren (cs.map PObj.toA) (pre.map PObj.toA) (post.map PObj.toA)
  | [], _, _ => by simp [updP, updOf]
  | _ :: _, [], _ => by simp [updP, updOf]
  | _ :: _, _ :: _, [] => by simp [updP, updOf]
  | c :: cs, p :: pre, q :: post => by
    simp only [updP, List.map_cons, updOf, updP_toA cs pre post]
    congr 1
    split
    · exact PObj.ren_toA _ _
    · rfl

def objsP (mem : List (Option PObj)) (ns : List Nat) : List PObj := ns.filterMap fun n => lookP mem n
theorem fits_take {mem : List (Option PObj)} {r x : List Nat} : ∀ (ns : List Nat) (os : List PObj), takeObjs mem r ns = some os → AllP (fitsOf (r ++ x) ((objsP mem ns).map PObj.toA) (os.map PObj.toA))
  | [], os, h => by simp [takeObjs] at h; subst h; trivial
  | m :: ns, os, h => by
    simp only [takeObjs] at h
    split at h
    · rename_i o ho
      split at h
      · rename_i hs
        simp only [Option.map_eq_some_iff] at h
        obtain ⟨os', h', rfl⟩ := h
        simp only [objsP, List.filterMap_cons, ho, List.map_cons, fitsOf]
        exact ⟨Fits.of_eq (PObj.ren_unren hs).symm, fits_take ns os' h'⟩
      · cases h
    · cases h

def callE (H : Hd R) (P : Program) (ops : Array Oper) (o : Oper) (s : PState) (f : FuncId) (first args caps : List AV) (k : Foot → PState → Option R) : Option R :=
  let full := first ++ args ++ caps
  let r0 := reach s.mem 1000 (namesL full) []
  if subN r0 (namesL full) then
    match takeObjs s.mem r0 r0 with
    | some pre =>
      H f (unrenL r0 full) pre fun res post =>
        let ren := r0 ++ (freeNs 0 s.mem).take (post.length - pre.length)
        match astep P ops { call := some ⟨ren, unrenL r0 full, pre.map PObj.toA, res, post.map PObj.toA⟩ } o s.toA with
        | some st => k st.foot ⟨st.st.slots, setP (if st.foot.ws.isEmpty then s.mem else setP s.mem st.foot.rd (updP ren (objsP s.mem r0) pre post)) st.foot.al ((post.drop pre.length).map (PObj.ren ren))⟩
        | none => none
    | none => none
  else none

theorem act_call_none {h : Hint} {c : Call} {vals : List AV} {cs : List AObj} {v : Operand} (hc : c.callee = .value v) : act P h (.call c) vals cs = none := by
  cases vals <;> simp [act, hc]

theorem callE_sound {H : Hd R} (hH : HOK P H) {ops : Array Oper} {o : Oper} {c : Call} {v : Operand} {s : PState} {f : FuncId} {first args caps : List AV} {k : Foot → PState → Option R} {r : R} (ho : o.op = .call c) (hc : c.callee = .value v) (hg : guardA ops o s.toA = some true) (hv : evs s.toA o.op.operands.toList = some (.func f first caps :: args)) (h : callE H P ops o s f first args caps k = some r) : Did P ops o s k r := by
  unfold callE at h
  simp only at h
  generalize hr0 : reach s.mem 1000 (namesL (first ++ args ++ caps)) [] = r0 at h
  split at h
  · rename_i hsub
    split at h
    · rename_i pre hpre
      obtain ⟨res, post, hm, hk⟩ := hH _ _ _ _ _ h
      generalize hren : r0 ++ (freeNs 0 s.mem).take (post.length - pre.length) = ren at hk
      split at hk
      · rename_i st hst
        have hst0 := hst
        unfold astep at hst
        rw [hg] at hst
        simp only [hv] at hst
        split at hst
        · cases hst
        · rename_i F hF
          split at hst
          · cases hst
          · rename_i cs hcs
            split at hst
            · simp only [ho, act_call_none hc] at hst
              split at hst
              · cases hst
              · rename_i q hq
                have hq2 : callA { call := some ⟨ren, unrenL r0 (first ++ args ++ caps), pre.map PObj.toA, res, post.map PObj.toA⟩ } P (.call c) (.func f first caps :: args) cs = some q := by
                  split at hq
                  · rename_i q' hq'; cases hq; exact hq'
                  · cases hq
                split at hst
                · simp only [callA, hc] at hq2
                  split at hq2
                  · rename_i hcond
                    simp only [Bool.and_eq_true, beq_iff_eq, decide_eq_true_eq] at hcond
                    obtain ⟨⟨⟨⟨c1, c2⟩, c3⟩, c4⟩, c5⟩ := hcond
                    have hlen := (takeObjs_spec r0 pre hpre).1
                    have hrd : F.rd = r0 := by
                      rw [ho] at hF
                      simp only [foot, hc, Option.some.injEq] at hF
                      rw [← hF, ← hren]
                      simp [hlen]
                    rw [hrd] at hcs
                    have hcs' : cs = (objsP s.mem r0).map PObj.toA := objs_names _ _ hcs
                    cases hst
                    cases hq2
                    refine ⟨_, _, _, hst0, ?_, ?_, hk⟩
                    · refine ⟨?_, hm, ?_⟩
                      · rw [← hren, renL_unren _ hsub]
                      · rw [hcs', ← hren]; exact fits_take r0 pre hpre
                    · simp only [PState.toA]
                      congr 1
                      rw [memA_setP]
                      congr 1
                      · split
                        · rfl
                        · rw [memA_setP, updP_toA, hcs']
                      · simp only [List.map_map, List.map_drop, List.length_map]
                        congr 1
                        apply List.map_congr_left
                        intro x _
                        exact PObj.ren_toA _ _
                  · cases hq2
                · cases hst
            · cases hst
      · cases hk
    · cases h
  · cases h

theorem callFunc_enter {f : FuncId} {fn : Func} (hf : P.funcs[f]? = some fn) (hb : fn.body.isSome = true) (hn : (fn.name == "runtime.NumGoroutine") = false) : ∀ args w, (callFunc f args).run P w = .ok (.enter f args) w := by
  intro args w
  have hb' : fn.body.isNone = false := by cases h : fn.body with | none => rw [h] at hb; cases hb | some b => rfl
  simp only [callFunc, Sem.run_bind, run_program, Result.andThen_ok, hf, hn, hb', Bool.false_eq_true, if_false, Sem.run_pure]

/-- Does a piece of code use a slot? -/
def usesO (n : Nat) : Operand → Bool
  | .tmp t => Nat.beq t n
  | _ => false
def usesC (n : Nat) : Code → Bool
  | .region _ ops _ => ops.toList.any fun o => o.op.operands.toList.any (usesO n)
  | .seq a b => usesC n a || usesC n b
  | .cond c a b => usesO n c || usesC n a || usesC n b
  | .block _ b => usesC n b
  | .loop b => usesC n b
  | .scope b => usesC n b
  | _ => false
def knownP (s : PState) (asg body : Code) : List Nat × List AV := known (fun n => usesC n asg || usesC n body) 0 s.slots
/-- A range over a function: its record is laid; the function is called, with it; the record is dropped. -/
def rangeE (H : Hd R) (P : Program) (s : PState) (f : Operand) (ps : Array Tmp) (asg body : Code) (k : Ex → PState → Option R) : Option R :=
  match s.toA.ev f with
  | some (.func g [] caps) =>
    match P.funcs[g]?, s.mem[frn s.mem]? with
    | some fn, some none =>
      if fn.body.isSome && !Nat.beq g yF && !(fn.name == "runtime.NumGoroutine") then
        callE H P #[] (rangeOp f s.slots.length) ⟨s.slots ++ [some (.func yF [.ptr (frn s.mem) 0] [])], s.mem.set (frn s.mem) (some (.raw (.loopR .ready s.slots.length (knownP s asg body).1 (knownP s asg body).2 ps.toList asg body)))⟩ g [] [.func yF [.ptr (frn s.mem) 0] []] caps fun _ s2 =>
          match lookP s2.mem (frn s.mem) with
          | some (.raw (.loopR u _ _ _ _ _ _)) => match u.ex with
            | some e => k e ⟨s.slots, s2.mem.set (frn s.mem) (some (.raw .dead))⟩
            | none => none
          | _ => none
      else none
    | _, _ => none
  | _ => none

theorem memA_set (m : List (Option PObj)) (n : Nat) (o : PObj) : memA (m.set n (some o)) = (memA m).set n (some o.toA) := by simp [memA, List.map_set]
theorem ev_more {s : AState} {x : Operand} {v : AV} {u : Option AV} {m : List (Option AObj)} (h : s.ev x = some v) : AState.ev ⟨s.slots ++ [u], m⟩ x = some v := by
  cases x with
  | tmp t =>
    simp only [AState.ev, Option.join_eq_some_iff] at h ⊢
    rw [List.getElem?_append_left (List.getElem?_eq_some_iff.1 h).1]; exact h
  | const c => exact h
  | global c => exact h
  | func c => exact h
theorem rangeE_sound {H : Hd R} (hH : HOK P H) {s : PState} {f : Operand} {ps : Array Tmp} {asg body : Code} {k : Ex → PState → Option R} {r : R} {K : Nat} (h : rangeE H P s f ps asg body k = some r) :
    ∃ (e : Ex) (s' : PState), Tri P (.rangeFunc f ps asg body) s.toA e s'.toA K ∧ k e s' = some r := by
  unfold rangeE at h
  split at h
  · rename_i g caps hev
    split at h
    · rename_i fn hf hnm
      split at h
      · rename_i hc
        simp only [Bool.and_eq_true, Bool.not_eq_true'] at hc
        obtain ⟨⟨hb, hg⟩, hn⟩ := hc
        have hg : g ≠ yF := fun e => by rw [e, Nat.beq_refl] at hg; cases hg
        have hslot : AState.ev (PState.toA ⟨s.slots ++ [some (.func yF [.ptr (frn s.mem) 0] [])], s.mem.set (frn s.mem) (some (.raw (.loopR .ready s.slots.length (knownP s asg body).1 (knownP s asg body).2 ps.toList asg body)))⟩) (.tmp s.slots.length) = some (.func yF [.ptr (frn s.mem) 0] []) := by
          simp [AState.ev, PState.toA]
        have hev' : AState.ev (PState.toA ⟨s.slots ++ [some (.func yF [.ptr (frn s.mem) 0] [])], s.mem.set (frn s.mem) (some (.raw (.loopR .ready s.slots.length (knownP s asg body).1 (knownP s asg body).2 ps.toList asg body)))⟩) f = some (.func g [] caps) := ev_more hev
        obtain ⟨hh, st, s2, h1, h2, h3, h4⟩ := callE_sound hH (o := rangeOp f s.slots.length) (c := { callee := .value f, args := #[.tmp s.slots.length], argTypes := #[] }) (v := f) rfl rfl rfl (by
          simp only [rangeOp, Op.operands, Call.operands]
          show evs _ [f, .tmp s.slots.length] = _
          simp only [evs, hev', hslot]) h
        simp only at h4
        split at h4
        · rename_i u n' ix' cs' ps' asg' body' hl
          cases hu : u.ex with
          | none => rw [hu] at h4; cases h4
          | some e =>
          rw [hu] at h4
          refine ⟨e, _, ?_, h4⟩
          have hl' : s2.toA.mem[frn s.mem]? = some (some (.loopR u n' ix' cs' ps' asg' body')) := by
            simp only [lookP, Option.join_eq_some_iff] at hl
            simp only [PState.toA]; rw [memA_get, hl]; rfl
          rw [h3] at hl'
          have hst : astep P #[] hh (rangeOp f s.toA.slots.length) ⟨s.toA.slots ++ [some (.func yF [.ptr (frn s.mem) 0] [])], s.toA.mem.set (frn s.mem) (some (.loopR .ready s.toA.slots.length (knownP s asg body).1 (knownP s asg body).2 ps.toList asg body))⟩ = some st := by
            have := h1
            simp only [PState.toA, memA_set] at this ⊢
            exact this
          have := tri_range (K := K) hu hev hg (callFunc_enter hf hb hn) (by simp only [PState.toA]; rw [memA_get, hnm]; rfl) rfl hst h2 hl'
          rw [← h3] at this
          simp only [PState.toA, memA_set] at this ⊢
          exact this
        · cases h4
      · cases h
    · cases h
  · cases h

def opE (H : Hd R) (P : Program) (ops : Array Oper) (o : Oper) (s : PState) (k : Foot → PState → Option R) : Option R :=
  match guardA ops o s.toA with
  | none => none
  | some false => k .no ⟨(s.toA.put o.dst (.tuple [])).slots, s.mem⟩
  | some true =>
    match evs s.toA o.op.operands.toList with
    | none => none
    | some vals =>
      match o.op with
      | .call c => match c.callee, vals with
        | .value _, .func f first caps :: args => callE H P ops o s f first args caps k
        | .value _, _ => none
        | _, _ => match pact P (.call c) vals s.mem with
          | some a => altE P ops o s k a
          | none => none
      | op => match pact P op vals s.mem with
        | some a => altE P ops o s k a
        | none => none

theorem opE_sound {H : Hd R} (hH : HOK P H) {ops : Array Oper} {o : Oper} {s : PState} {k : Foot → PState → Option R} {r : R} (h : opE H P ops o s k = some r) : Did P ops o s k r := by
  unfold opE at h
  split at h
  · cases h
  · rename_i hg
    refine ⟨{}, ⟨[], .no, s.toA.put o.dst (.tuple [])⟩, _, by unfold astep; rw [hg], trivial, ?_, h⟩
    simp only [PState.toA]
    cases o.dst <;> rfl
  · rename_i hg
    split at h
    · cases h
    · rename_i vals hv
      split at h
      · rename_i c ho
        split at h
        · rename_i v f first caps args hc
          exact callE_sound hH ho hc hg hv h
        · cases h
        · split at h
          · rename_i a ha
            exact altE_sound hg hv a (by rw [ho]; exact pact_sound ha) h
          · cases h
      · rename_i op ho _
        split at h
        · rename_i a ha
          exact altE_sound hg hv a (by exact pact_sound ha) h
        · cases h

/-- An open index into a slice of few cells: told by cases. -/
def splitN (d : Nat) (kk : IntKind) (n : Int) (s : PState) (k : PState → Option R) : Nat → Option R
  | 0 => none
  | m + 1 => bcond (n == (m : Int)) (k (s.setSlot d (.int kk m))) (splitN d kk n s k m)
def idxOf (o : Oper) (s : PState) : Option (Nat × IntKind × Int × Nat) :=
  match o.op with
  | .indexAddr _ x (.tmp d) => match s.toA.ev x, (s.slots[d]?).join with
    | some (.slice _ _ len _), some (.int kk n) => if Nat.ble len 3 then some (d, kk, n, len) else none
    | _, _ => none
  | _ => none
def withIdx (o : Oper) (s : PState) (k : PState → Option R) : Option R :=
  match idxOf o s with
  | some (d, kk, n, len) => splitN d kk n s k len
  | none => k s
theorem splitN_sound {d : Nat} {kk : IntKind} {n : Int} {s : PState} {k : PState → Option R} {r : R} (hs : (s.slots[d]?).join = some (.int kk n)) : ∀ m, splitN d kk n s k m = some r → k s = some r
  | 0, h => by cases h
  | m + 1, h => by
    unfold splitN at h
    cases hn : n == (m : Int) with
    | true =>
      rw [hn] at h
      have e : n = (m : Int) := beq_iff_eq.1 hn
      simp only [bcond] at h
      rw [← e, setSlot_same hs] at h; exact h
    | false => rw [hn] at h; exact splitN_sound hs m h
theorem withIdx_sound {o : Oper} {s : PState} {k : PState → Option R} {r : R} (h : withIdx o s k = some r) : k s = some r := by
  unfold withIdx at h
  split at h
  · rename_i d kk n len hi
    unfold idxOf at hi
    split at hi
    · split at hi
      · rename_i hs
        split at hi
        · cases hi; exact splitN_sound hs _ h
        · cases hi
      · cases hi
    · cases hi
  · exact h
def opsE (H : Hd R) (P : Program) (ops : Array Oper) : List Nat → PState → List Foot → (List Foot → PState → Option R) → Option R
  | [], s, fs, k => k fs.reverse s
  | i :: L, s, fs, k =>
    match ops[i]? with
    | none => none
    | some o => withLits (litTmps ops o) s fun s => withIdx o s fun s => opE H P ops o s fun F s' => opsE H P ops L s' (F :: fs) k

theorem runOps_congr {ops : Array Oper} {h h' : Nat → Hint} : ∀ (L : List Nat) (s : AState), (∀ j ∈ L, h j = h' j) → runOps P ops h L s = runOps P ops h' L s
  | [], s, _ => rfl
  | i :: L, s, hh => by
    simp only [runOps]
    rw [hh i (by simp)]
    cases ops[i]? with
    | none => rfl
    | some o =>
      simp only
      cases astep P ops (h' i) o s with
      | none => rfl
      | some st => simp only; rw [runOps_congr L st.st fun j hj => hh j (by simp [hj])]

theorem opsE_sound {H : Hd R} (hH : HOK P H) {ops : Array Oper} {k : List Foot → PState → Option R} {r : R} : ∀ (L : List Nat) (s : PState) (fs : List Foot), L.Nodup → opsE H P ops L s fs k = some r →
    ∃ (hint : Nat → Hint) (ob : List Prop) (fs' : List Foot) (s' : PState), runOps P ops hint L s.toA = some (ob, fs', s'.toA) ∧ AllP ob ∧ k (fs.reverse ++ fs') s' = some r
  | [], s, fs, _, h => ⟨fun _ => {}, [], [], s, rfl, trivial, by simpa [opsE] using h⟩
  | i :: L, s, fs, hnd, h => by
    simp only [opsE] at h
    split at h
    · cases h
    · rename_i o ho
      have h := withIdx_sound (withLits_sound _ _ h)
      obtain ⟨hn, st, s1, h1, h2, h3, h4⟩ := opE_sound hH h
      obtain ⟨hnd1, hnd2⟩ := List.nodup_cons.1 hnd
      obtain ⟨hint, ob, fs', s', k1, k2, k3⟩ := opsE_sound hH L s1 _ hnd2 h4
      refine ⟨fun j => if j = i then hn else hint j, st.obl ++ ob, st.foot :: fs', s', ?_, allP_append.2 ⟨h2, k2⟩, by simpa using k3⟩
      simp only [runOps, ho, if_true, h1]
      rw [← h3, runOps_congr (h' := hint) L _ (fun j hj => by rw [if_neg]; rintro rfl; exact hnd1 hj), k1]

/-- The loop: so many rounds as there may be. -/
def iter (body : PState → (Ex → PState → Option R) → Option R) (gc : PState → Option PState) : Nat → PState → (Ex → PState → Option R) → Option R
  | 0, _, _ => none
  | n + 1, s, k => body s fun ex s' => match ex with
    | .normal => match gc s' with
      | some t => forceS t fun t => iter body gc n t k
      | none => none
    | e => k e s'

/-- The first region of a loop's body: the loop's name. -/
def headReg : Code → Option Nat
  | .region id _ _ => some id
  | .seq a b => match headReg a with | some i => some i | none => headReg b
  | .cond _ a b => match headReg a with | some i => some i | none => headReg b
  | .block _ c => headReg c
  | .loop c => headReg c
  | .scope c => headReg c
  | _ => none

/-- What a loop comes to: how it is left, in what state: by conditions. -/
inductive LAns where
  | out (ex : Ex) (s : PState)
  | fail
  | br (b : Bool) (x y : LAns)
def LAns.run (k : Ex → PState → Option R) : LAns → Option R
  | .out ex s => forceS s fun s => k ex s
  | .fail => none
  | .br b x y => bcond b (x.run k) (y.run k)
def LAns.chk (b : Bool) (x : LAns) : LAns := .br b x .fail
def LAnsOK (P : Program) (x : Code) (K : Nat) (t : PState) : LAns → Prop
  | .out ex s => Tri P (.loop x) t.toA ex s.toA K
  | .fail => True
  | .br b u v => (b = true → LAnsOK P x K t u) ∧ (b = false → LAnsOK P x K t v)
theorem LAns.sound {x : Code} {K : Nat} {t : PState} {k : Ex → PState → Option R} {r : R} : ∀ (a : LAns), LAnsOK P x K t a → a.run k = some r → ∃ ex s, Tri P (.loop x) t.toA ex s.toA K ∧ k ex s = some r
  | .out ex s, h, e => ⟨ex, s, h, by simpa only [LAns.run, forceS_eq] using e⟩
  | .fail, h, e => by cases e
  | .br b u v, h, e => by
    cases b with
    | true => exact LAns.sound u (h.1 rfl) e
    | false => exact LAns.sound v (h.2 rfl) e
/-- Of a function's loops, by their first regions: the slots that they keep, and what they come to. -/
structure Lv where
  keep : Nat → Option (List Nat) := fun _ => none
  ent : Nat → Option (Nat → PState → LAns) := fun _ => none
/-- The loops of a piece of code: their bodies. -/
def loopBodies : Code → List Code
  | .seq a b => loopBodies a ++ loopBodies b
  | .cond _ a b => loopBodies a ++ loopBodies b
  | .block _ c => loopBodies c
  | .loop c => c :: loopBodies c
  | .scope c => loopBodies c
  | _ => []
def entOf (lv : Lv) (c : Code) : Option (Nat → PState → LAns) :=
  match headReg c with
  | some i => lv.ent i
  | none => none
def LoopsOK (P : Program) (lv : Lv) (K : Nat) (c : Code) : Prop := ∀ x ∈ loopBodies c, ∀ id e, headReg x = some id → lv.ent id = some e → ∀ t, LAnsOK P x K t (e K t)

/-- What a loop keeps of its slots: all, if nothing is told. -/
def keepOf (lv : Lv) (c : Code) : Nat → Bool :=
  match headReg c with
  | some i => match lv.keep i with
    | some l => fun n => hasN l n
    | none => fun _ => true
  | none => fun _ => true

def slotNames (keep : Nat → Bool) : Nat → List (Option AV) → List Nat
  | _, [] => []
  | i, some v :: vs => if keep i then v.names ++ slotNames keep (i + 1) vs else slotNames keep (i + 1) vs
  | i, none :: vs => slotNames keep (i + 1) vs

def gcL (K NF : Nat) (keep : Nat → Bool) (s : PState) : Option PState :=
  compact K NF (reach s.mem 1000 (List.range K ++ slotNames keep 0 s.slots) []) keep s

def code (H : Hd R) (P : Program) (lv : Lv) (K NF m : Nat) : Code → PState → (Ex → PState → Option R) → Option R
  | .skip, s, k => k .normal s
  | .label _, s, k => k .normal s
  | .ret, s, k => k .ret s
  | .exit id, s, k => k (.exit id) s
  | .region _ ops draw, s, k => opsE H P ops (List.range ops.size) s [] fun fs s' => bcond (!draw || orderF P ops fs) (forceS s' fun s' => k .normal s') none
  | .seq x y, s, k => code H P lv K NF m x s fun ex s' => match ex with
    | .normal => code H P lv K NF m y s' k
    | e => k e s'
  | .cond c x y, s, k => match c with
    | .tmp t => match (s.slots[t]?).join with
      | some (.bool b) => bcond b (code H P lv K NF m x (s.setSlot t (.bool true)) k) (code H P lv K NF m y (s.setSlot t (.bool false)) k)
      | _ => none
    | .const (.bool b) => bcond b (code H P lv K NF m x s k) (code H P lv K NF m y s k)
    | _ => none
  | .block id x, s, k => code H P lv K NF m x s fun ex s' => match ex with
    | .exit j => k (if Nat.beq j id then .normal else .exit j) s'
    | e => k e s'
  | .loop x, s, k => match gcL K NF (keepOf lv x) s with
    | some t => forceS t fun t => match entOf lv x with
      | some e => (e K t).run k
      | none => iter (fun s k => code H P lv K NF m x s k) (gcL K NF (keepOf lv x)) m t k
    | none => none
  | .rangeFunc f ps asg body, s, k => rangeE H P s f ps asg body k
  | .scope c, s, k => code H P lv K NF m c s k
  | _, _, _ => none

theorem tri_region {ops : Array Oper} {id : Nat} {draw : Bool} {hint : Nat → Hint} {s s' : AState} {ob : List Prop} {fs : List Foot} {K : Nat} (hr : runOps P ops hint (List.range ops.size) s = some (ob, fs, s')) (hob : AllP ob) (hd : (!draw || orderF P ops fs) = true) : Tri P (.region id ops draw) s .normal s' K := by
  intro ro w0 M E a w hro hR
  have hlen := runOps_length _ _ _ _ _ hr
  have runs := runs_of_runOps (LG := fun i => fs.getD i .no) _ _ _ _ _ hr hob (fun j => by
    by_cases hj : j < ops.size
    · have hj' : j < fs.length := by simpa [hlen] using hj
      simp [hj, hj', List.getD]
    · have hj' : ¬ j < fs.length := by simpa [hlen] using hj
      rw [List.getElem?_eq_none (by omega), List.getElem?_eq_none (by simp; omega)]; rfl)
  cases draw with
  | false => exact region_text runs hR fun E' a' w' hle h' => ⟨rfl, E', hle.toK, h'⟩
  | true =>
    simp only [Bool.not_true, Bool.false_or] at hd
    obtain ⟨A, d1, d2, d3⟩ := orderF_sound hd
    exact region_draw d1 d2 d3 runs hR fun E' a' w' hle h' => ⟨rfl, E', hle.toK, h'⟩

theorem iter_sound {body : PState → (Ex → PState → Option R) → Option R} {x : Code} {K NF : Nat} {keep : Nat → Bool} (hb : ∀ s k r, body s k = some r → ∃ ex s', Tri P x s.toA ex s'.toA K ∧ k ex s' = some r) {k : Ex → PState → Option R} {r : R} :
    ∀ (n : Nat) (s : PState), iter body (gcL K NF keep) n s k = some r → ∃ ex s', k ex s' = some r ∧ ∀ (ro : Option Nat) (w0 : World) (M : Nat → Prop) (E0 E : Env) (a : Act) (w : World), (ro = none ∨ noRange x = true) → Env.leK K E0 E → Rel w0 M E s.toA a w → Code.roundsIn (WR ro) 0 P x (fun e a' w' => e = ex.to ∧ ∃ E', Env.leK K E0 E' ∧ Rel w0 M E' s'.toA a' w') n a w
  | 0, s, h => by simp [iter] at h
  | n + 1, s, h => by
    simp only [iter] at h
    obtain ⟨ex1, s1, ht, h⟩ := hb _ _ _ h
    split at h
    · split at h
      · rename_i t hgc
        rw [forceS_eq] at h
        obtain ⟨ex, s', hk, hr⟩ := iter_sound hb n t h
        refine ⟨ex, s', hk, fun ro w0 M E0 E a w hro hle hR => ?_⟩
        rw [roundsIn_succ]
        refine wpIn_mono (ht ro w0 M E a w hro hR) ?_
        rintro e a' w' ⟨rfl, E', hle', h'⟩
        obtain ⟨ob, hren, hob⟩ := compact_ren hgc
        obtain ⟨g1, g2⟩ := h'.ren hren hob
        exact hr ro w0 M E0 _ a' w' hro (fun m p hm hE => by simp [g2 m hm, hle' m p hm (hle m p hm hE)]) g1
      · cases h
    · rename_i hne
      refine ⟨ex1, s1, h, fun ro w0 M E0 E a w hro hle hR => ?_⟩
      rw [roundsIn_succ]
      refine wpIn_mono (ht ro w0 M E a w hro hR) ?_
      rintro e a' w' ⟨rfl, E', hle', h'⟩
      cases ex1 with
      | normal => exact absurd rfl hne
      | exit id => exact ⟨rfl, E', hle.trans hle', h'⟩
      | ret => exact ⟨rfl, E', hle.trans hle', h'⟩

/-- CODE THAT IS EVALUATED RUNS SO. -/
theorem code_sound {H : Hd R} (hH : HOK P H) {lv : Lv} {K NF m : Nat} : ∀ (c : Code) (hl : LoopsOK P lv K c) (s : PState) (k : Ex → PState → Option R) (r : R), code H P lv K NF m c s k = some r → ∃ ex s', Tri P c s.toA ex s'.toA K ∧ k ex s' = some r
  | .skip, hl, s, k, r, h => ⟨.normal, s, fun ro w0 M E a w hro hR => wpIn_skip ⟨rfl, E, .refl _ _, hR⟩, h⟩
  | .label l, hl, s, k, r, h => ⟨.normal, s, fun ro w0 M E a w hro hR => wpIn_label ⟨rfl, E, .refl _ _, hR⟩, h⟩
  | .ret, hl, s, k, r, h => ⟨.ret, s, fun ro w0 M E a w hro hR => wpIn_ret ⟨rfl, E, .refl _ _, hR⟩, h⟩
  | .exit id, hl, s, k, r, h => ⟨.exit id, s, fun ro w0 M E a w hro hR => wpIn_exit ⟨rfl, E, .refl _ _, hR⟩, h⟩
  | .region id ops draw, hl, s, k, r, h => by
    simp only [code] at h
    obtain ⟨hint, ob, fs, s', h1, h2, h3⟩ := opsE_sound hH _ _ _ List.nodup_range h
    cases hd : (!draw || orderF P ops ([].reverse ++ fs)) with
    | true => rw [hd, forceS_eq] at h3; exact ⟨.normal, s', tri_region h1 h2 (by simpa using hd), h3⟩
    | false => rw [hd] at h3; cases h3
  | .seq x y, hl, s, k, r, h => by
    have hlx : LoopsOK P lv K x := fun z hz => hl z (List.mem_append_left _ hz)
    have hly : LoopsOK P lv K y := fun z hz => hl z (List.mem_append_right _ hz)
    simp only [code] at h
    obtain ⟨ex, s1, t1, h⟩ := code_sound hH x (hlx) s _ r h
    split at h
    · obtain ⟨ex2, s2, t2, h⟩ := code_sound hH y (hly) s1 _ r h
      refine ⟨ex2, s2, fun ro w0 M E a w hro hR => wpIn_seq (wpIn_mono (t1 ro w0 M E a w (no_left hro) hR) ?_), h⟩
      rintro e a' w' ⟨rfl, E', hle, h'⟩
      refine wpIn_mono (t2 ro w0 M E' a' w' (no_right hro) h') ?_
      rintro e2 a2 w2 ⟨rfl, E2, hle2, h2⟩
      exact ⟨rfl, E2, hle.trans hle2, h2⟩
    · rename_i hne
      refine ⟨ex, s1, fun ro w0 M E a w hro hR => wpIn_seq (wpIn_mono (t1 ro w0 M E a w (no_left hro) hR) ?_), h⟩
      rintro e a' w' ⟨rfl, E', hle, h'⟩
      cases ex with
      | normal => exact absurd rfl hne
      | exit id => exact ⟨rfl, E', hle, h'⟩
      | ret => exact ⟨rfl, E', hle, h'⟩
  | .cond c x y, hl, s, k, r, h => by
    have hlx : LoopsOK P lv K x := fun z hz => hl z (List.mem_append_left _ hz)
    have hly : LoopsOK P lv K y := fun z hz => hl z (List.mem_append_right _ hz)
    simp only [code] at h
    split at h
    · rename_i t
      split at h
      · rename_i b hb
        cases b with
        | true =>
          simp only [bcond] at h
          rw [setSlot_same hb] at h
          obtain ⟨ex, s1, t1, h⟩ := code_sound hH x (hlx) s _ r h
          refine ⟨ex, s1, fun ro w0 M E a w hro hR => ?_, h⟩
          have := hR.ev (x := .tmp t) (v := .bool true) hb
          exact wpIn_cond_true (by simpa [den] using this.symm) (t1 ro w0 M E a w (no_left hro) hR)
        | false =>
          simp only [bcond] at h
          rw [setSlot_same hb] at h
          obtain ⟨ex, s1, t1, h⟩ := code_sound hH y (hly) s _ r h
          refine ⟨ex, s1, fun ro w0 M E a w hro hR => ?_, h⟩
          have := hR.ev (x := .tmp t) (v := .bool false) hb
          exact wpIn_cond_false (by simpa [den] using this.symm) (t1 ro w0 M E a w (no_right hro) hR)
      · cases h
    · rename_i b
      cases b with
      | true =>
        simp only [bcond] at h
        obtain ⟨ex, s1, t1, h⟩ := code_sound hH x (hlx) s _ r h
        exact ⟨ex, s1, fun ro w0 M E a w hro hR => wpIn_cond_true rfl (t1 ro w0 M E a w (no_left hro) hR), h⟩
      | false =>
        simp only [bcond] at h
        obtain ⟨ex, s1, t1, h⟩ := code_sound hH y (hly) s _ r h
        exact ⟨ex, s1, fun ro w0 M E a w hro hR => wpIn_cond_false rfl (t1 ro w0 M E a w (no_right hro) hR), h⟩
    · cases h
  | .block id x, hl, s, k, r, h => by
    have hlx : LoopsOK P lv K x := hl
    simp only [code] at h
    obtain ⟨ex, s1, t1, h⟩ := code_sound hH x (hlx) s _ r h
    split at h
    · rename_i j
      refine ⟨_, s1, fun ro w0 M E a w hro hR => wpIn_block (wpIn_mono (t1 ro w0 M E a w hro hR) ?_), h⟩
      rintro e a' w' ⟨rfl, E', hle, h'⟩
      simp only [Ex.to, Exit.inBlock]
      by_cases hj : j = id
      · subst hj; rw [if_pos rfl, if_pos (Nat.beq_refl j)]; exact ⟨rfl, E', hle, h'⟩
      · rw [if_neg hj, if_neg (by rw [beqT]; exact hj)]; exact ⟨rfl, E', hle, h'⟩
    · rename_i hne
      refine ⟨ex, s1, fun ro w0 M E a w hro hR => wpIn_block (wpIn_mono (t1 ro w0 M E a w hro hR) ?_), h⟩
      rintro e a' w' ⟨rfl, E', hle, h'⟩
      cases ex with
      | normal => exact ⟨rfl, E', hle, h'⟩
      | exit j => exact absurd rfl (hne j)
      | ret => exact ⟨rfl, E', hle, h'⟩
  | .loop x, hl, s, k, r, h => by
    simp only [code] at h
    split at h
    · rename_i t hgc
      rw [forceS_eq] at h
      split at h
      · rename_i e he
        have hent : ∃ id, headReg x = some id ∧ lv.ent id = some e := by
          unfold entOf at he
          split at he
          · rename_i i hi; exact ⟨i, hi, he⟩
          · cases he
        obtain ⟨id, h1, h2⟩ := hent
        obtain ⟨ex, s', ht, hk⟩ := LAns.sound _ (hl x (List.mem_cons_self ..) id e h1 h2 t) h
        refine ⟨ex, s', fun ro w0 M E a w hro hR => ?_, hk⟩
        obtain ⟨ob, hren, hob⟩ := compact_ren hgc
        obtain ⟨g1, g2⟩ := hR.ren hren hob
        refine wpIn_mono (ht ro w0 M _ a w hro g1) ?_
        rintro e' a' w' ⟨rfl, E', hle, h'⟩
        exact ⟨rfl, E', fun n p hn hE => hle n p hn (by simp [g2 n hn, hE]), h'⟩
      obtain ⟨ex, s', hk, hr⟩ := iter_sound (fun s k r hh => code_sound hH x (fun z hz => hl z (List.mem_cons_of_mem _ hz)) s k r hh) _ _ h
      refine ⟨ex, s', fun ro w0 M E a w hro hR => wpIn_loop_rounds m ?_, hk⟩
      obtain ⟨ob, hren, hob⟩ := compact_ren hgc
      obtain ⟨g1, g2⟩ := hR.ren hren hob
      exact hr ro w0 M E _ a w hro (fun n p hn hE => by simp [g2 n hn, hE]) g1
    · cases h
  | .rangeFunc f ps asg body, hl, s, k, r, h => by
    simp only [code] at h
    obtain ⟨e, s', t, hk⟩ := rangeE_sound hH h
    exact ⟨e, s', t, hk⟩
  | .scope c, hl, s, k, r, h => by
    simp only [code] at h
    obtain ⟨ex, s1, t1, h⟩ := code_sound hH c hl _ _ _ h
    refine ⟨ex, s1, fun ro w0 M E a w hro hR => wpIn_scope (t1 ro w0 M E a w hro hR) ?_, h⟩
    rintro l a w ⟨e, _⟩
    cases ex <;> cases e
  | .goto _, hl, s, k, r, h => by simp [code] at h
  | .refuse _, hl, s, k, r, h => by simp [code] at h

end Go.Proofs.YtphhepnldndbhaaGreatDoor.Sx

/- The evaluator, part F: calls. -/
set_option linter.unusedVariables false
set_option linter.unusedSimpArgs false
namespace Go.Proofs.YtphhepnldndbhaaGreatDoor.Sx
open Go
variable {P : Program} {R : Type}

def AObj.ltN (n : Nat) (o : AObj) : Bool := o.names.all fun m => Nat.blt m n

theorem all_append_names {f : Nat → Bool} {a b : List Nat} : (a ++ b).all f = true ↔ a.all f = true ∧ b.all f = true := by simp [List.all_append]

mutual
theorem avoid_lt {D : Nat → Bool} : ∀ (v : AV), (v.names.all fun m => !D m) = true → Avoid D v
  | .bool b, _ => .bool _ _
  | .int k n, _ => .int _ _ _
  | .str s, _ => .str _ _
  | .nilptr, _ => .nilptr _
  | .nilslice, _ => .nilslice _
  | .nilfunc, _ => .nilfunc _
  | .nilmap, _ => .nilmap _
  | .niliface, _ => .niliface _
  | .gptr g off, _ => fun _ _ e => e
  | .bad, _ => fun _ _ e => by simp [den] at e
  | .ptr nm off, h => .ptr (by simpa [AV.names] using h)
  | .slice nm off l c, h => .slice (by simpa [AV.names] using h)
  | .vec nm l, h => .vec (by simpa [AV.names] using h)
  | .dsl nm l, h => .dsl (by simpa [AV.names] using h)
  | .dptr nm l, h => .dptr (by simpa [AV.names] using h)
  | .rptr nm w i j, h => .rptr (by simpa [AV.names] using h)
  | .vsl nm w i j, h => .vsl (by simpa [AV.names] using h)
  | .mapp nm, h => .mapp (by simpa [AV.names] using h)
  | .agg cs, h => .agg (avoidL_lt cs h)
  | .tuple cs, h => .tuple (avoidL_lt cs h)
  | .func f as cs, h => by
    obtain ⟨h1, h2⟩ := all_append_names.1 h
    intro E x e
    simp only [den] at e ⊢
    split at e
    · rename_i hf
      rw [if_pos hf]
      obtain ⟨nm, p, rfl, rfl, hp, rfl⟩ := yfOf_some e
      have : D nm = false := by simpa [AV.names, namesL] using h1
      simp [yfOf, drop_some this, hp]
    · rename_i hf
      rw [if_neg hf]
      split at e
      · rename_i xs ys hx hy
        rw [avoidL_lt as h1 E xs hx, avoidL_lt cs h2 E ys hy]; exact e
      · cases e
  | .iface t v, h => by
    intro E x e
    simp only [den, Option.map_eq_some_iff] at e ⊢
    obtain ⟨y, hy, rfl⟩ := e
    exact ⟨y, avoid_lt v h E y hy, rfl⟩
theorem avoidL_lt {D : Nat → Bool} : ∀ (vs : List AV), ((namesL vs).all fun m => !D m) = true → AvoidL D vs
  | [], _ => .nil D
  | v :: vs, h => by
    obtain ⟨h1, h2⟩ := all_append_names.1 h
    exact .cons (avoid_lt v h1) (avoidL_lt vs h2)
end
theorem avoidO_lt {D : Nat → Bool} (o : AObj) (h : (o.names.all fun m => !D m) = true) : AvoidO D o := by
  cases o with
  | cells cs t => exact .cells (avoidL_lt _ h)
  | vec cs t sz => exact .vec (avoidL_lt _ h)
  | ro off cs => exact .ro (avoidL_lt _ h)
  | flat m cs => exact .flat (avoidL_lt _ h)
  | flatR m sh rows => exact .flatR _ _ _ _
  | flatN sh rows => exact .flatN _ _ _
  | iter s p => exact .iter _ _ _
  | shut cs t sz => exact .shut (avoidL_lt _ h)
  | mapS n ks => exact .mapS _ _ _
  | loopR up n ix cs ps asg body => exact .loopR (avoidL_lt _ h)
  | dead => exact .dead _

/-- The values of the results, and what must hold. -/
def resP (P : Program) (s : PState) : List ResultVar → Option (Bool × List AV)
  | [] => some (true, [])
  | .tmp t :: rs =>
    match (s.slots[t]?).join, resP P s rs with
    | some v, some (b, vs) => some (b, v :: vs)
    | _, _ => none
  | .cell a t :: rs =>
    match (s.slots[a]?).join with
    | some (.ptr nm off) =>
      match lookP s.mem nm with
      | some (.raw o) =>
        match loadA P {} t off o, o.known, P.underlying t, resP P s rs with
        | some r, some (o0, cs), some d, some (b, vs) => some (Nat.ble o0 off && (if isAggD d then Nat.ble (off - o0 + P.cellsOf t) cs.length else true) && b, r.val :: vs)
        | _, _, _, _ => none
      | _ => none
    | _ => none

theorem resP_sound {s : PState} : ∀ (rs : List ResultVar) (b : Bool) (vs : List AV), resP P s rs = some (b, vs) → b = true → ∃ ob, resA P s.toA rs [] = some (ob, vs) ∧ AllP ob
  | [], b, vs, h, _ => by simp [resP] at h; obtain ⟨_, rfl⟩ := h; exact ⟨[], rfl, trivial⟩
  | .tmp t :: rs, b, vs, h, hb => by
    simp only [resP] at h
    split at h
    · rename_i v b' vs' h1 h2
      cases h
      obtain ⟨ob, k1, k2⟩ := resP_sound rs _ _ h2 hb
      have h1 : (s.toA.slots[t]?).join = some v := h1
      exact ⟨ob, by simp only [resA, h1, List.tail_nil, k1], k2⟩
    · cases h
  | .cell a t :: rs, b, vs, h, hb => by
    simp only [resP] at h
    split at h
    · rename_i nm off h1
      split at h
      · rename_i o hl
        split at h
        · rename_i q o0 cs d b' vs' h3 h4 h5 h6
          cases h
          simp only [Bool.and_eq_true] at hb
          obtain ⟨ob, k1, k2⟩ := resP_sound rs b' vs' h6 hb.2
          have hm : s.toA.mem[nm]? = some (some o) := by
            simp only [lookP, Option.join_eq_some_iff] at hl
            simp only [PState.toA, memA_get, hl, Option.map_some, PObj.toA]
          have h1 : (s.toA.slots[a]?).join = some (.ptr nm off) := h1
          refine ⟨q.obl ++ ob, by simp only [resA, h1, hm, List.headD_nil, h3, List.tail_nil, k1], allP_append.2 ⟨?_, k2⟩⟩
          simp only [loadA, h4, h5] at h3
          obtain ⟨⟨b1, b2⟩, _⟩ := hb
          rw [bleT] at b1
          split at h3
          · rename_i hd
            rw [if_pos hd, bleT] at b2
            cases h3; exact ⟨b1, b2, trivial⟩
          · split at h3
            · cases h3; exact ⟨b1, trivial⟩
            · cases h3
        · cases h
      · cases h
    · cases h

def resSlots : List ResultVar → List Nat
  | [] => []
  | .tmp t :: rs => t :: resSlots rs
  | .cell a _ :: rs => a :: resSlots rs

def PObj.ltN (n : Nat) : PObj → Bool
  | .raw o => o.ltN n
  | _ => true
theorem namesL_ints (k : IntKind) : ∀ (l : List Int), namesL (ints k l) = []
  | [] => rfl
  | a :: l => by show (AV.int k a).names ++ namesL (ints k l) = []; rw [namesL_ints k l]; rfl
theorem namesL_u8s : ∀ (l : List UInt8), namesL (u8s l) = []
  | [] => rfl
  | a :: l => by show (AV.int .u8 (a.toNat : Int)).names ++ namesL (u8s l) = []; rw [namesL_u8s l]; rfl
theorem PObj.ltN_toA (n : Nat) (p : PObj) : p.ltN n = p.toA.ltN n := by
  cases p <;> simp [PObj.ltN, PObj.toA, AObj.ltN, AObj.names, namesL_ints, namesL_u8s, namesL_rows, namesL_bools]
/-- May the objects of a state be told behind the call? -/
def postB (npre n : Nat) : Nat → List PObj → Bool
  | _, [] => true
  | i, p :: ps => (match p.toA with
      | .dead => Nat.blt i npre
      | o => (Nat.blt i npre || o.mine) && p.ltN n) && postB npre n (i + 1) ps

def finB (npre : Nat) : List PObj → List PObj → Bool
  | p :: pre, q :: post => (!p.toA.owned || q.toA.owned || !q.toA.live) && finB npre pre post
  | _, _ => true

def unSome : List (Option PObj) → Option (List PObj)
  | some o :: m => (unSome m).map (o :: ·)
  | _ => some []

theorem sameO_refl (o : AObj) : sameO o o := by cases o <;> first | rfl | exact Fits.refl _

theorem postA_of {D : Nat → Bool} {npre n : Nat} {m : List (Option PObj)} (hD : ∀ i, Nat.blt i n = true → D i = false) : ∀ (ps : List PObj) (i : Nat), (∀ j p, ps[j]? = some p → m[i + j]? = some (some p)) → postB npre n i ps = true →
    ∃ ob, postA D (memA m) npre i (ps.map PObj.toA) = some ob ∧ AllP ob
  | [], i, _, _ => ⟨[], rfl, trivial⟩
  | p :: ps, i, hm, hb => by
    simp only [postB, PObj.ltN_toA, Bool.and_eq_true] at hb
    obtain ⟨hb1, hb2⟩ := hb
    obtain ⟨ob, h1, h2⟩ := postA_of hD ps (i + 1) (fun j q hq => by have := hm (j + 1) q (by simpa using hq); rwa [show i + (j + 1) = i + 1 + j by omega] at this) hb2
    have h0 : (memA m)[i]? = some (some p.toA) := by
      have := hm 0 p rfl
      rw [Nat.add_zero] at this
      rw [memA_get, this]; rfl
    simp only [List.map_cons]
    by_cases hd : p.toA = .dead
    · rw [hd] at hb1 h0 ⊢
      simp only [bltT] at hb1
      exact ⟨ob, by simp only [postA, h0, if_pos hb1, h1], h2⟩
    · have hb1' : (Nat.blt i npre || p.toA.mine) = true ∧ p.toA.ltN n = true := by
        generalize p.toA = o at hb1 hd
        cases o <;> first | exact absurd rfl hd | simpa [Bool.and_eq_true] using hb1
      have hav : AvoidO D p.toA := avoidO_lt _ (by
        have := hb1'.2
        simp only [AObj.ltN] at this
        refine List.all_eq_true.2 fun x hx => ?_
        have := List.all_eq_true.1 this x hx
        simp [hD x this])
      have hc : (decide (i < npre) || p.toA.mine) = true := by
        have := hb1'.1
        simpa [bltT] using this
      have hob : AllP (avoidO D p.toA) := by
        generalize p.toA = o at hav hd
        cases o <;> first | exact absurd rfl hd | exact trivial | exact ⟨hav, trivial⟩
      refine ⟨sameO p.toA p.toA :: (avoidO D p.toA ++ ob), ?_, sameO_refl _, allP_append.2 ⟨hob, h2⟩⟩
      generalize p.toA = o at *
      cases o <;> first | exact absurd rfl hd | (simp only [postA, h0]; rw [if_pos (by simpa using hc), h1]; rfl)

/-- The end of a call: its results, and what is left of its objects. -/
def finR (P : Program) (rs : List ResultVar) (npre : Nat) (pre : List PObj) (k : AV → List PObj → Option R) (ex : Ex) (s : PState) : Option R :=
  match ex with
  | .exit _ => none
  | _ =>
    match resP P s rs with
    | none => none
    | some (_, vs) =>
      let r1 := reach s.mem 1000 (List.range npre ++ namesL vs) []
      let keep := fun i => hasN (resSlots rs) i
      match compact npre 0 (reach s.mem 1000 (r1 ++ slotNames keep 0 s.slots) []) keep s with
      | none => none
      | some t =>
        match resP P t rs, unSome t.mem with
        | some (b, vs'), some os =>
          let post := os.take r1.length
          if Nat.ble npre post.length && postB npre post.length 0 post && finB npre pre post && ((one vs').names.all fun m => Nat.blt m post.length) then bcond b (forceV (one vs') fun v => forcePL post fun post => k v post) none else none
        | _, _ => none
def finP (P : Program) (fn : Func) (npre : Nat) (pre : List PObj) (k : AV → List PObj → Option R) (ex : Ex) (s : PState) : Option R := finR P fn.results.toList npre pre k ex s

theorem unSome_get : ∀ (m : List (Option PObj)) (os : List PObj), unSome m = some os → ∀ (j : Nat) (p : PObj), os[j]? = some p → m[j]? = some (some p)
  | [], os, h, j, p, hj => by simp [unSome] at h; subst h; simp at hj
  | none :: m, os, h, j, p, hj => by simp [unSome] at h; subst h; simp at hj
  | some o :: m, os, h, j, p, hj => by
    simp only [unSome, Option.map_eq_some_iff] at h
    obtain ⟨os', h', rfl⟩ := h
    cases j with
    | zero => simp at hj; subst hj; rfl
    | succ j => simpa using unSome_get m os' h' j p (by simpa using hj)

theorem finB_all : ∀ (pre post : List PObj) (n : Nat), finB n pre post = true → (((pre.map PObj.toA).zip (post.map PObj.toA)).all fun p => !p.1.owned || p.2.owned || !p.2.live) = true
  | [], _, _, _ => by simp
  | _ :: _, [], _, _ => by simp
  | p :: pre, q :: post, n, h => by
    simp only [finB, Bool.and_eq_true] at h
    simp only [List.map_cons, List.zip_cons_cons, List.all_cons, Bool.and_eq_true]
    exact ⟨h.1, finB_all pre post n h.2⟩

def PObj.lentP : PObj → PObj
  | .raw o => .raw o.lent
  | .flatI _ l => .flatI false l
  | .flatU _ l => .flatU false l
  | o => o
theorem lentP_toA (o : PObj) : o.lentP.toA = o.toA.lent := by cases o <;> rfl
def startP (ntmps : Nat) (args : List AV) (pre : List PObj) (NF : Nat) : PState :=
  ⟨args.map some ++ List.replicate (ntmps - args.length) none, pre.map (fun o => some o.lentP) ++ List.replicate NF none⟩
theorem startP_toA (ntmps : Nat) (args : List AV) (pre : List PObj) (NF : Nat) : (startP ntmps args pre NF).toA = start ntmps args (pre.map PObj.toA) NF := by
  simp only [startP, PState.toA, start, memA, List.map_append, List.map_map, List.map_replicate, Option.map_none]
  congr 2
  apply List.map_congr_left
  intro x _
  simp [lentP_toA]

/-- What the end of a call tells. -/
theorem fin_data {rs : List ResultVar} {pre : List PObj} {ex : Ex} {s : PState} {k : AV → List PObj → Option R} {r : R} (h : finR P rs pre.length pre k ex s = some r) : (ex = .ret ∨ ex = .normal) ∧
    ∃ (vs' : List AV) (post : List PObj) (rn : List Nat) (t : PState) (ob ob2 : List Prop), resP P t rs = some (true, vs') ∧ renA rn pre.length s.toA t.toA = some ob ∧ AllP ob ∧ finA P rs [] t.toA pre.length (one vs') (post.map PObj.toA) = some ob2 ∧ AllP ob2 ∧
      (((pre.map PObj.toA).zip (post.map PObj.toA)).all fun p => !p.1.owned || p.2.owned || !p.2.live) = true ∧ k (one vs') post = some r := by
  have hex : (ex = .ret ∨ ex = .normal) := by cases ex with | exit i => cases h | ret => exact .inl rfl | normal => exact .inr rfl
  refine ⟨hex, ?_⟩
  have h : (match resP P s rs with
    | none => none
    | some (_, vs) =>
      let r1 := reach s.mem 1000 (List.range pre.length ++ namesL vs) []
      let keep := fun i => hasN (resSlots rs) i
      match compact pre.length 0 (reach s.mem 1000 (r1 ++ slotNames keep 0 s.slots) []) keep s with
      | none => none
      | some t =>
        match resP P t rs, unSome t.mem with
        | some (b, vs'), some os =>
          let post := os.take r1.length
          if Nat.ble pre.length post.length && postB pre.length post.length 0 post && finB pre.length pre post && ((one vs').names.all fun m => Nat.blt m post.length) then bcond b (forceV (one vs') fun v => forcePL post fun post => k v post) none else none
        | _, _ => none) = some r := by
    rcases hex with rfl | rfl <;> exact h
  split at h
  · cases h
  · rename_i b0 vs hvs
    simp only at h
    split at h
    · cases h
    · rename_i t hc
      split at h
      · rename_i b vs' os hr hos
        generalize hpost : os.take (reach s.mem 1000 (List.range pre.length ++ namesL vs) []).length = post at h
        split at h
        · rename_i hcond
          simp only [Bool.and_eq_true] at hcond
          obtain ⟨⟨⟨c1, c2⟩, c3⟩, c4⟩ := hcond
          cases b with
          | false => cases h
          | true =>
            have h : k (one vs') post = some r := by simpa only [bcond, forceV_eq, forcePL_eq] using h
            obtain ⟨ob, hren, hob⟩ := compact_ren hc
            obtain ⟨o1, h1, k1⟩ := resP_sound _ _ _ hr rfl
            have hget : ∀ j p, post[j]? = some p → t.mem[0 + j]? = some (some p) := fun j p hj => by
              rw [Nat.zero_add]
              refine unSome_get _ _ hos j p ?_
              rw [← hpost, List.getElem?_take] at hj
              split at hj
              · exact hj
              · cases hj
            have hD : ∀ i, Nat.blt i post.length = true → (fun n => decide ((post.map PObj.toA).length ≤ n)) i = false := fun i hi => by
              rw [bltT] at hi
              simp only [List.length_map, decide_eq_false_iff_not]; omega
            obtain ⟨o2, h2, k2⟩ := postA_of (D := fun n => decide ((post.map PObj.toA).length ≤ n)) (npre := pre.length) (n := post.length) hD post 0 hget c2
            have hav : Avoid (fun n => decide ((post.map PObj.toA).length ≤ n)) (one vs') := avoid_lt _ (List.all_eq_true.2 fun x hx => by
              have := hD x (List.all_eq_true.1 c4 x hx)
              simp only at this
              simp only [this]; rfl)
            have hava : AllP (avoidA (fun n => decide ((post.map PObj.toA).length ≤ n)) (one vs')) := by
              generalize one vs' = v at hav c4
              cases v <;> first
                | trivial
                | exact ⟨hav, trivial⟩
                | (simp only [avoidA]
                   rw [if_neg]
                   · trivial
                   · have := hD _ (by simpa [AV.names] using c4)
                     simp only at this
                     rw [this]; simp)
            have hfin : finA P rs [] t.toA pre.length (one vs') (post.map PObj.toA) = some (o1 ++ (one vs' = one vs') :: (avoidA (fun n => decide ((post.map PObj.toA).length ≤ n)) (one vs') ++ o2)) := by
              unfold finA
              have h2' : postA (fun n => decide ((post.map PObj.toA).length ≤ n)) t.toA.mem pre.length 0 (post.map PObj.toA) = some o2 := h2
              simp only [h1]
              rw [h2']
              simp only
              rw [if_pos]
              rw [bleT] at c1
              simpa using c1
            exact ⟨vs', post, _, t, ob, _, hr, hren, hob, hfin, allP_append.2 ⟨k1, rfl, allP_append.2 ⟨hava, k2⟩⟩, finB_all pre post _ c3, h⟩
        · cases h
      · cases h

/-- WHAT IS EVALUATED OF A CALL IS ITS CONTRACT. -/
theorem fin_sound {f : FuncId} {fn : Func} {body : Code} {args : List AV} {pre : List PObj} {NF : Nat} {ex : Ex} {s : PState} {k : AV → List PObj → Option R} {r : R} (hf : P.funcs[f]? = some fn) (hb : fn.body = some body) (hn : (fn.name == "runtime.NumGoroutine") = false)
    (ht : Tri P body (startP fn.ntmps args pre NF).toA ex s.toA pre.length) (h : finP P fn pre.length pre k ex s = some r) (hfy : f ≠ yF := by decide) : ∃ res post, Meets P f args (pre.map PObj.toA) res (post.map PObj.toA) ∧ k res post = some r := by
  obtain ⟨hex, vs', post, rn, t, ob, ob2, hr, hren, hob, hfin, hob2, hpq, hk⟩ := fin_data h
  refine ⟨one vs', post, ?_, hk⟩
  have ht' := Tri.ren _ ht hren hob
  rw [startP_toA] at ht'
  have hlen : (pre.map PObj.toA).length = pre.length := by simp
  rw [← hlen] at ht' hfin
  exact meets_of_tri hfy hf hb (callFunc_enter hf (by rw [hb]; rfl) hn) ht' hex hfin hob2 hpq

/-- What a call answers: by conditions. -/
inductive Ans where
  | ret (res : AV) (post : List PObj)
  | fail
  | br (b : Bool) (x y : Ans)
def Ans.run (k : AV → List PObj → Option R) : Ans → Option R
  | .ret res post => k res post
  | .fail => none
  | .br b x y => bcond b (x.run k) (y.run k)
/-- A check ahead of an answer. -/
def Ans.chk (b : Bool) (x : Ans) : Ans := .br b x .fail
def AnsOK (P : Program) (f : FuncId) (args : List AV) (pre : List PObj) : Ans → Prop
  | .ret res post => Meets P f args (pre.map PObj.toA) res (post.map PObj.toA)
  | .fail => True
  | .br b x y => (b = true → AnsOK P f args pre x) ∧ (b = false → AnsOK P f args pre y)
theorem Ans.sound {f : FuncId} {args : List AV} {pre : List PObj} {k : AV → List PObj → Option R} {r : R} : ∀ (a : Ans), AnsOK P f args pre a → a.run k = some r → ∃ res post, Meets P f args (pre.map PObj.toA) res (post.map PObj.toA) ∧ k res post = some r
  | .ret res post, h, e => ⟨res, post, h, e⟩
  | .fail, h, e => by cases e
  | .br b x y, h, e => by
    cases b with
    | true => exact Ans.sound x (h.1 rfl) e
    | false => exact Ans.sound y (h.2 rfl) e
abbrev Ent := List AV → List PObj → Ans
abbrev Tab := List (FuncId × Ent)
def EntOK (P : Program) (f : FuncId) (e : Ent) : Prop := ∀ args pre, AnsOK P f args pre (e args pre)
def TabOK (P : Program) (T : Tab) : Prop := ∀ f e, T.lookup f = some e → EntOK P f e

def nolv : FuncId → Lv := fun _ => {}
def LvOK (P : Program) (lv : FuncId → Lv) : Prop := ∀ (f : Nat) (fn : Func) body, P.funcs[f]? = some fn → fn.body = some body → ∀ K, LoopsOK P (lv f) K body
theorem nolv_ok : LvOK P nolv := fun f fn body h1 h2 K x hx id e h3 h4 => by cases h4
/-- A round of a range over a function: what is assigned, and the body, on the slots that the record tells. -/
def roundE (H : Hd R) (P : Program) (NF m : Nat) (args : List AV) (pre : List PObj) (k : AV → List PObj → Option R) : Option R :=
  match args with
  | .ptr nm 0 :: vals =>
    match lookP (pre.map some) nm with
    | some (.raw (.loopR .ready n ix cs ps asg body)) =>
      if Nat.beq ps.length vals.length && noRange asg && noRange body then
        code H P {} pre.length NF m asg ⟨setParams (roundSlots n ix cs) ps vals, pre.map (fun o => some o.lentP) ++ List.replicate NF none⟩ fun ex s1 => match ex with
          | .normal => match lookP s1.mem nm with
            | some (.raw (.loopR .ready n1 ix1 cs1 ps1 asg1 body1)) =>
              code H P {} pre.length NF m body ⟨s1.slots, s1.mem.set nm (some (.raw (.loopR .busy n1 ix1 cs1 ps1 asg1 body1)))⟩ fun ex s2 =>
                match lookP s2.mem nm with
                | some (.raw (.loopR .busy n2 ix2 cs2 ps2 asg2 body2)) => finR P [] pre.length pre (fun _ post => k (.bool (LSt.of ex).pend.isNone) post) .normal ⟨s2.slots, s2.mem.set nm (some (.raw (.loopR (.of ex) n2 ix2 cs2 ps2 asg2 body2)))⟩
                | _ => none
            | _ => none
          | _ => none
      else none
    | _ => none
  | _ => none

theorem lookA {m : List (Option PObj)} {n : Nat} {o : AObj} (h : lookP m n = some (.raw o)) : (memA m)[n]? = some (some o) := by
  simp only [lookP, Option.join_eq_some_iff] at h
  rw [memA_get, h]; rfl
theorem loops_none {K : Nat} {c : Code} : LoopsOK P {} K c := fun x hx id e h3 h4 => by cases h4
theorem roundE_sound {H : Hd R} (hH : HOK P H) {NF m : Nat} {args : List AV} {pre : List PObj} {k : AV → List PObj → Option R} {r : R} (h : roundE H P NF m args pre k = some r) :
    ∃ res post, Meets P yF args (pre.map PObj.toA) res (post.map PObj.toA) ∧ k res post = some r := by
  unfold roundE at h
  split at h
  · rename_i nm vals
    split at h
    · rename_i n ix cs ps asg body hpre
      split at h
      · rename_i hc
        simp only [Bool.and_eq_true, beqT] at hc
        obtain ⟨⟨hc1, hc2⟩, hc3⟩ := hc
        obtain ⟨ex1, s1, t1, h⟩ := code_sound hH asg loops_none _ _ _ h
        cases ex1 with
        | exit i => cases h
        | ret => cases h
        | normal =>
          simp only at h
          split at h
          · rename_i n1 ix1 cs1 ps1 asg1 body1 hl1
            obtain ⟨ex2, s2, t2, h⟩ := code_sound hH body loops_none _ _ _ h
            · split at h
              · rename_i n2 ix2 cs2 ps2 asg2 body2 hl2
                obtain ⟨hex, vs', post, rn, t, ob, ob2, hr, hren, hob, hfin, hob2, hpq, hk⟩ := fin_data h
                refine ⟨.bool (LSt.of ex2).pend.isNone, post, ?_, hk⟩
                have hv : vs' = [] := by simp [resP] at hr; exact hr
                subst hv
                have hlen : (pre.map PObj.toA).length = pre.length := by simp
                have hp' : (pre.map PObj.toA)[nm]? = some (.loopR .ready n ix cs ps asg body) := by
                  have := lookA hpre
                  simp only [memA, List.map_map, List.getElem?_map, Option.map_eq_some_iff] at this ⊢
                  obtain ⟨o, ho, e⟩ := this
                  exact ⟨o, ho, by simpa using e⟩
                have e1 : (⟨setParams (roundSlots n ix cs) ps vals, pre.map (fun o => some o.lentP) ++ List.replicate NF none⟩ : PState).toA = roundStart n ix cs ps vals (pre.map PObj.toA) NF := by
                  simp only [PState.toA, roundStart, memA, List.map_append, List.map_map, List.map_replicate, Option.map_none]
                  congr 2
                  apply List.map_congr_left
                  intro x _
                  simp [lentP_toA]
                rw [e1] at t1
                have e2 : (⟨s1.slots, s1.mem.set nm (some (.raw (.loopR .busy n1 ix1 cs1 ps1 asg1 body1)))⟩ : PState).toA = { s1.toA with mem := s1.toA.mem.set nm (some (.loopR .busy n1 ix1 cs1 ps1 asg1 body1)) } := by
                  simp only [PState.toA, memA_set]; rfl
                rw [e2] at t2
                have e3 : (⟨s2.slots, s2.mem.set nm (some (.raw (.loopR (.of ex2) n2 ix2 cs2 ps2 asg2 body2)))⟩ : PState).toA = { s2.toA with mem := s2.toA.mem.set nm (some (.loopR (.of ex2) n2 ix2 cs2 ps2 asg2 body2)) } := by
                  simp only [PState.toA, memA_set]; rfl
                rw [e3] at hren
                rw [← hlen] at t1 t2 hren hfin
                exact meets_round hp' hc1 hc2 hc3 t1 (lookA hl1) t2 (lookA hl2) hren hob hfin hob2 hpq
              · cases h
          · cases h
      · cases h
    · cases h
  · cases h

/-- Calls are answered by the table, or entered. -/
def ent (P : Program) (T : Tab) (lv : FuncId → Lv) (NF m : Nat) : Nat → Hd R
  | 0, f, args, pre, k => match T.lookup f with
    | some e => (e args pre).run k
    | none => none
  | d + 1, f, args, pre, k => match T.lookup f with
    | some e => (e args pre).run k
    | none => if Nat.beq f yF then roundE (ent P T lv NF m d) P NF m args pre k else match P.funcs[f]? with
      | some fn => match fn.body with
        | some body => code (ent P T lv NF m d) P (lv f) pre.length NF m body (startP fn.ntmps args pre NF) (finP P fn pre.length pre k)
        | none => none
      | none => none

theorem ent_sound {T : Tab} (hT : TabOK P T) (hn : ∀ (f : Nat) (fn : Func), P.funcs[f]? = some fn → (fn.name == "runtime.NumGoroutine") = false) {lv : FuncId → Lv} (hL : LvOK P lv) {NF m : Nat} : ∀ d, HOK P (ent (R := R) P T lv NF m d)
  | 0, f, args, pre, k, r, h => by
    simp only [ent] at h
    split at h
    · rename_i e he
      exact Ans.sound _ (hT f e he args pre) h
    · cases h
  | d + 1, f, args, pre, k, r, h => by
    simp only [ent] at h
    split at h
    · rename_i e he
      exact Ans.sound _ (hT f e he args pre) h
    · split at h
      · rename_i hfy
        obtain rfl := beqT.1 hfy
        exact roundE_sound (ent_sound hT hn hL d) h
      · rename_i hfy
        split at h
        · rename_i fn hf
          split at h
          · rename_i body hb
            obtain ⟨ex, s, ht, hk⟩ := code_sound (ent_sound hT hn hL d) body (hL f fn body hf hb _) _ _ r h
            exact fin_sound hf hb (hn f fn hf) ht hk (fun e => hfy (by rw [e]; exact Nat.beq_refl yF))
          · cases h
        · cases h

/-- A CONTRACT OUT OF AN EVALUATION. -/
theorem meets_ent {T : Tab} (hT : TabOK P T) (hn : ∀ (f : Nat) (fn : Func), P.funcs[f]? = some fn → (fn.name == "runtime.NumGoroutine") = false) {lv : FuncId → Lv} {NF m d : Nat} {f : FuncId} {args : List AV} {pre : List PObj} {res : AV} {post : List PObj}
    (h : ent (R := AV × List PObj) P T lv NF m d f args pre (fun a b => some (a, b)) = some (res, post)) (hL : LvOK P lv := by exact nolv_ok) : Meets P f args (pre.map PObj.toA) res (post.map PObj.toA) := by
  obtain ⟨a, b, h1, h2⟩ := ent_sound hT hn hL d f args pre _ _ h
  cases h2; exact h1

def pure2 (a : AV) (b : List PObj) : Option (AV × List PObj) := some (a, b)
/-- Answers that are what is evaluated are right. -/
theorem ans_of {f : FuncId} {args : List AV} {pre : List PObj} : ∀ (a : Ans), (∀ res post, a.run pure2 = some (res, post) → Meets P f args (pre.map PObj.toA) res (post.map PObj.toA)) → AnsOK P f args pre a
  | .ret res post, h => h res post rfl
  | .fail, _ => trivial
  | .br b x y, h => ⟨fun e => ans_of x fun res post k => h res post (by rw [Ans.run, e]; exact k), fun e => ans_of y fun res post k => h res post (by rw [Ans.run, e]; exact k)⟩

end Go.Proofs.YtphhepnldndbhaaGreatDoor.Sx

/- The symbolic executor, part X: functions of the library without a body of Go. -/
set_option linter.unusedSimpArgs false
set_option linter.unusedVariables false
namespace Go.Proofs.YtphhepnldndbhaaGreatDoor.Sx
open Go

/-- Which comes first, cell by cell. -/
def cmpI : List Int → List Int → Int
  | [], [] => 0
  | [], _ :: _ => -1
  | _ :: _, [] => 1
  | a :: as, b :: bs => if a < b then -1 else if b < a then 1 else cmpI as bs

def bytesI (l : List Int) : List UInt8 := l.map fun x => x.toNat.toUInt8

theorem u8_toNat {a : Int} (h : 0 ≤ a ∧ a < 256) : (a.toNat.toUInt8).toNat = a.toNat := by
  have : a.toNat < 256 := by omega
  simp [Nat.toUInt8]
  omega

theorem u8_lt {a b : Int} (ha : 0 ≤ a ∧ a < 256) (hb : 0 ≤ b ∧ b < 256) : (a.toNat.toUInt8 < b.toNat.toUInt8) ↔ a < b := by
  rw [UInt8.lt_iff_toNat_lt, u8_toNat ha, u8_toNat hb]; omega

theorem compareBytes_bytesI : ∀ (xs ys : List Int), (∀ x ∈ xs, 0 ≤ x ∧ x < 256) → (∀ y ∈ ys, 0 ≤ y ∧ y < 256) → Lib.compareBytes (bytesI xs) (bytesI ys) = cmpI xs ys
  | [], [], _, _ => rfl
  | [], _ :: _, _, _ => rfl
  | _ :: _, [], _, _ => rfl
  | a :: as, b :: bs, ha, hb => by
    have h1 := ha a (by simp)
    have h2 := hb b (by simp)
    have ih := compareBytes_bytesI as bs (fun x hx => ha x (by simp [hx])) (fun y hy => hb y (by simp [hy]))
    simp only [bytesI, List.map_cons, Lib.compareBytes, cmpI] at ih ⊢
    simp only [u8_lt h1 h2, u8_lt h2 h1, ih]

theorem run_loadBytes {P : Program} {w : World} {b : Nat} : ∀ (l : List Int) (off : Nat) (acc : ByteArray), (∀ (i : Nat) x, (l.map (Value.int .u8))[i]? = some x → w.cell? ⟨b, off + i, none⟩ = some x) →
    (Extern.Bytes.loadBytes ⟨b, off, none⟩ l.length acc).run P w = .ok ⟨acc.data ++ (bytesI l).toArray⟩ w
  | [], off, acc, h => by simp [Extern.Bytes.loadBytes, bytesI]
  | a :: l, off, acc, h => by
    have h0 := h 0 _ rfl
    simp only [Nat.add_zero] at h0
    have ih := run_loadBytes (P := P) l (off + 1) (acc.push a.toNat.toUInt8) (fun i x hi => by
      have := h (i + 1) x (by simpa using hi)
      rwa [show off + (i + 1) = off + 1 + i by omega] at this)
    simp only [List.length_cons, Extern.Bytes.loadBytes, Sem.run_bind, run_load, h0, Result.andThen_ok, Addr.add_none, ih]
    congr 1
    apply ByteArray.ext
    simp [bytesI]

theorem denL_ints {E : Env} {k : IntKind} (l : List Int) : denL E (ints k l) = some (l.map (Value.int k)) := by
  induction l with
  | nil => rfl
  | cons a l ih => simp only [ints, List.map_cons]; exact denL_cons.2 ⟨_, _, rfl, ih, rfl⟩

theorem PostR.same {E : Env} {w : World} {pre : List AObj} (h : PreR E w pre) : PostR E E w w pre pre :=
  { le := .refl _, cut := h.fresh, objs := h.objs
    made := fun n b c o hn _ hE => by rw [h.fresh n hn] at hE; cases hE
    keep := fun _ _ _ => rfl
    bare := fun n b c hn hE => by rw [h.fresh n hn] at hE; cases hE
    newApart := fun n m o o' b c b' c' hn _ _ _ _ _ hE => by rw [h.fresh n hn] at hE; cases hE
    grow := Nat.le_refl _, os := rfl, tape := rfl, output := rfl }

theorem run_bytesOf {P : Program} {E : Env} {w : World} {nm off cap : Nat} {l : List Int} {x : Value} {b : Nat} {c : Cap} (hx : den E (.slice nm off l.length cap) = some x) (hE : E nm = some (b, c)) (ho : ObjR E w b c (.ro off (ints .u8 l))) :
    (Extern.Bytes.bytesOf x).run P w = .ok ⟨(bytesI l).toArray⟩ w := by
  obtain ⟨b', c', hb, rfl⟩ := slice_den hx
  rw [hE] at hb; cases hb
  obtain ⟨xs, hxs, hw, _⟩ := ho
  have : xs = l.map (Value.int .u8) := by have := hxs.1; rw [denL_ints] at this; exact (Option.some.inj this).symm
  subst this
  have := run_loadBytes (P := P) l off ByteArray.empty hw
  simp only [Extern.Bytes.bytesOf, this]
  congr 1
  apply ByteArray.ext; simp

/-- bytealg.Compare of two slices of bytes. -/
theorem meets_bytealg_compare {P : Program} {f : FuncId} {fn : Func} (hfy : f ≠ yF) (hf : P.funcs[f]? = some fn) (h1 : (fn.name == "runtime.NumGoroutine") = false) (h2 : fn.body.isNone = true) (h3 : Extern.findNext fn = none) (h4 : Extern.find fn = some Extern.BytealgCompare.compare)
    (xs ys : List Int) (o1 o2 c1 c2 : Nat) (hx : ∀ x ∈ xs, 0 ≤ x ∧ x < 256) (hy : ∀ y ∈ ys, 0 ≤ y ∧ y < 256) :
    Meets P f [.slice 0 o1 xs.length c1, .slice 1 o2 ys.length c2] [.ro o1 (ints .u8 xs), .ro o2 (ints .u8 ys)] (.int .i64 (cmpI xs ys)) [.ro o1 (ints .u8 xs), .ro o2 (ints .u8 ys)] := by
  intro w E vs hvs hp
  obtain ⟨x, zs, hx1, hz, rfl⟩ := denL_cons.1 hvs
  obtain ⟨y, us, hy1, hu, rfl⟩ := denL_cons.1 hz
  simp only [denL, Option.some.injEq] at hu
  subst hu
  obtain ⟨b1, k1, e1, r1⟩ := hp.objs 0 _ rfl
  obtain ⟨b2, k2, e2, r2⟩ := hp.objs 1 _ rfl
  refine Does.of hfy (.inr ⟨.int .i64 (cmpI xs ys), w, ?_, E, _, rfl, rfl, PostR.same hp⟩)
  rw [run_callFunc_extern hf h1 h2 h3 (e := Extern.BytealgCompare.compare) h4]
  have hc : Extern.BytealgCompare.compare [x, y].toArray = (do pure (goInt (Extern.BytealgCompare.cmp (← Extern.Bytes.bytesOf x) (← Extern.Bytes.bytesOf y))) : Sem Value) := rfl
  rw [hc]
  simp only [Sem.run_bind, run_bytesOf hx1 e1 r1, run_bytesOf hy1 e2 r2, Result.andThen_ok, Sem.run_pure, Lib.cmp_eq, goInt]
  rw [compareBytes_bytesI xs ys hx hy]

/-- abi.NoEscape: the pointer as it is. -/
theorem meets_noescape {P : Program} {f : FuncId} {fn : Func} (hfy : f ≠ yF) (hf : P.funcs[f]? = some fn) (h1 : (fn.name == "runtime.NumGoroutine") = false) (h2 : fn.body.isNone = true) (h3 : Extern.findNext fn = none) (h4 : Extern.find fn = some Extern.AbiNoEscape.same) (off : Nat) :
    Meets P f [.ptr 0 off] [.ro 0 []] (.ptr 0 off) [.ro 0 []] := by
  intro w E vs hvs hp
  obtain ⟨x, zs, hx, hz, rfl⟩ := denL_cons.1 hvs
  simp only [denL, Option.some.injEq] at hz
  subst hz
  refine Does.of hfy (.inr ⟨x, w, ?_, E, x, rfl, hx, PostR.same hp⟩)
  rw [run_callFunc_extern hf h1 h2 h3 (e := Extern.AbiNoEscape.same) h4]
  rfl

/-- Any block may be told as one of which nothing is known. -/
theorem fits_any {a : AObj} (r : List Nat) (hk : a.known.isSome = true) (hl : a.live = true) : Fits a (AObj.ren r (.ro 0 [])) := by
  obtain ⟨⟨o0, cs⟩, hk⟩ := Option.isSome_iff_exists.1 hk
  intro E w k c h
  exact ⟨[], ⟨rfl, rfl⟩, fun i x hi => by simp at hi, h.lt hl (by cases a <;> first | rfl | (simp [AObj.known] at hk))⟩

theorem byteI {c : Int} (h : 0 ≤ c ∧ c < 256) : (((UInt8.ofNat c.toNat).toNat : Nat) : Int) = c := by
  have : c.toNat < 256 := by omega
  simp
  omega
theorem u8s_snoc {s : List UInt8} {c : Int} (h : 0 ≤ c ∧ c < 256) : u8s s ++ [AV.int .u8 c] = u8s (s ++ [UInt8.ofNat c.toNat]) := by
  simp only [u8s, List.map_append, List.map_cons, List.map_nil, byteI h]

theorem EqR.to {P : Program} {t : TypeId} {x y : AV} {r r' : Bool} (h : EqR P t x y r) (e : r = r') : EqR P t x y r' := e ▸ h
theorem eqR_ints {P : Program} {t e : TypeId} {n : Nat} {k k' : IntKind} (hu : P.underlying t = some (.array n e)) (he : P.underlying e = some (.int k')) (hc : P.cellsOf e = 1) (xs ys : List Int) (hx : xs.length = n) (hy : ys.length = n) : EqR P t (.agg (ints k xs)) (.agg (ints k ys)) (decide (xs = ys)) := by
  intro E w a b ha hb
  obtain ⟨as, h1, rfl⟩ := denC_agg.1 ha
  obtain ⟨bs, h2, rfl⟩ := denC_agg.1 hb
  have e1 := h1.1
  have e2 := h2.1
  rw [denL_ints] at e1 e2
  cases e1; cases e2
  obtain ⟨i, hi⟩ := underlying_info he
  rw [run_equalIn_array w 9999 _ _ hu hi, hc, List.range_eq_range', eqItems_ints (D := 9998) he xs ys (by omega) n 0 (by omega)]
  rfl

end Go.Proofs.YtphhepnldndbhaaGreatDoor.Sx

/- The evaluator, part G: functions without a text of Go. -/
set_option linter.unusedVariables false
set_option linter.unusedSimpArgs false
namespace Go.Proofs.YtphhepnldndbhaaGreatDoor.Sx
open Go
variable {P : Program}

theorem TabOK.nil : TabOK P [] := fun f e h => by simp at h
theorem TabOK.cons {T : Tab} {f : FuncId} {e : Ent} (h : EntOK P f e) (k : TabOK P T) : TabOK P ((f, e) :: T) := fun g e' hg => by
  rw [List.lookup_cons] at hg
  split at hg
  · rename_i hb
    have := beq_iff_eq.1 hb
    subst this
    cases hg; exact h
  · exact k g e' hg

/-- abi.NoEscape: the pointer as it is. -/
def eSame : Ent := fun args pre => match args with | [v] => .ret v pre | _ => .fail
theorem eSame_ok {f : FuncId} {fn : Func} (hf : P.funcs[f]? = some fn) (h1 : (fn.name == "runtime.NumGoroutine") = false) (h2 : fn.body.isNone = true) (h3 : Extern.findNext fn = none) (h4 : Extern.find fn = some Extern.AbiNoEscape.same) (hfy : f ≠ yF := by decide) : EntOK P f eSame := by
  intro args pre
  unfold eSame
  split
  · intro w E vs hvs hp
    obtain ⟨x, zs, hx, hz, rfl⟩ := denL_cons.1 hvs
    simp only [denL, Option.some.injEq] at hz
    subst hz
    refine Does.of hfy (.inr ⟨x, w, ?_, E, x, rfl, hx, PostR.same hp⟩)
    rw [run_callFunc_extern hf h1 h2 h3 (e := Extern.AbiNoEscape.same) h4]
    rfl
  · trivial

/-- bytealg.IndexByteString: where a byte stands first. -/
def eIndexByte : Ent := fun args pre => match args with
  | [.str s, .int .u8 c] => .ret (.int .i64 (Lib.indexByte s c.toNat.toUInt8)) pre
  | _ => .fail
theorem eIndexByte_ok {f : FuncId} {fn : Func} (hf : P.funcs[f]? = some fn) (h1 : (fn.name == "runtime.NumGoroutine") = false) (h2 : fn.body.isNone = true) (h3 : Extern.findNext fn = none) (h4 : Extern.find fn = some Extern.BytealgIndexByte.indexByte) (hfy : f ≠ yF := by decide) : EntOK P f eIndexByte := by
  intro args pre
  unfold eIndexByte
  split
  · rename_i s c
    intro w E vs hvs hp
    obtain ⟨x, zs, hx, hz, rfl⟩ := denL_cons.1 hvs
    obtain ⟨y, us, hy, hu, rfl⟩ := denL_cons.1 hz
    simp only [denL, Option.some.injEq] at hu
    subst hu
    have hx : x = .string ⟨s.toArray⟩ := by simpa [den] using hx.symm
    have hy : y = .int .u8 c := by simpa [den] using hy.symm
    subst hx; subst hy
    refine Does.of hfy (.inr ⟨_, w, ?_, E, _, rfl, rfl, PostR.same hp⟩)
    rw [run_callFunc_extern hf h1 h2 h3 (e := Extern.BytealgIndexByte.indexByte) h4]
    rw [Lib.run_indexByteString]; rfl
  · trivial



end Go.Proofs.YtphhepnldndbhaaGreatDoor.Sx

/- The evaluator, part H: loops of any number of rounds. -/
set_option linter.unusedVariables false
set_option linter.unusedSimpArgs false
namespace Go.Proofs.YtphhepnldndbhaaGreatDoor.Sx
open Go
variable {P : Program}

/-- The end of a round: what is kept of it. -/
def endK (K NF : Nat) (kn kx : Nat → Bool) (ex : Ex) (s : PState) : Option (Ex × PState) :=
  match ex with
  | .normal => (gcL K NF kn s).map fun t => (.normal, t)
  | e => (gcL K NF kx s).map fun t => (e, t)
def noH {R : Type} : Hd R := fun _ _ _ _ => none
theorem noH_ok {R : Type} : HOK P (noH (R := R)) := fun f args pre k r h => by cases h

theorem round_sound {H : Hd (Ex × PState)} (hH : HOK P H) {lv : Lv} {K NF m : Nat} {x : Code} (hl : LoopsOK P lv K x) {kn kx : Nat → Bool} {s : PState} {r : Ex × PState} (h : code H P lv K NF m x s (endK K NF kn kx) = some r) : Tri P x s.toA r.1 r.2.toA K := by
  obtain ⟨ex, s', ht, hk⟩ := code_sound hH x hl s _ r h
  have key : ∀ {kp : Nat → Bool} {e : Ex}, ex = e → (gcL K NF kp s').map (fun t => (e, t)) = some r → Tri P x s.toA r.1 r.2.toA K := by
    intro kp e he hg
    subst he
    simp only [Option.map_eq_some_iff] at hg
    obtain ⟨t, hc, rfl⟩ := hg
    obtain ⟨ob, hren, hob⟩ := compact_ren hc
    exact Tri.ren _ ht hren hob
  cases ex with
  | normal => exact key rfl hk
  | exit id => exact key rfl hk
  | ret => exact key rfl hk

/-- A LOOP, by what a round comes to. -/
theorem loop_rounds {H : Hd (Ex × PState)} (hH : HOK P H) {lv : Lv} {K NF m : Nat} {x : Code} (hl : LoopsOK P lv K x) (kn kx : Nat → Bool) {ι : Type} (inv : ι → PState) (μ : ι → Nat) (res : ι → Ex × PState)
    (step : ∀ i, (∃ j, μ j < μ i ∧ res j = res i ∧ code H P lv K NF m x (inv i) (endK K NF kn kx) = some (.normal, inv j)) ∨ code H P lv K NF m x (inv i) (endK K NF kn kx) = some (res i)) (hne : ∀ i, (res i).1 ≠ .normal) (i : ι) :
    Tri P (.loop x) (inv i).toA (res i).1 (res i).2.toA K := by
  refine tri_loop (ι := { j : ι // res j = res i }) (fun j => (inv j.1).toA) (fun j => μ j.1) (hne i) ?_ ⟨i, rfl⟩
  rintro ⟨j, hj⟩
  rcases step j with ⟨j', h1, h2, h3⟩ | h3
  · exact .inl ⟨⟨j', h2.trans hj⟩, h1, round_sound hH hl h3⟩
  · right
    have := round_sound hH hl h3
    rwa [hj] at this


end Go.Proofs.YtphhepnldndbhaaGreatDoor.Sx

/- The evaluator, part I: a function in two halves. -/
set_option linter.unusedVariables false
set_option linter.unusedSimpArgs false
namespace Go.Proofs.YtphhepnldndbhaaGreatDoor.Sx
open Go
variable {P : Program} {R : Type}

/-- What stands behind so many statements. -/
def restC : Nat → Code → Code
  | n + 1, .seq _ b => restC n b
  | _, c => c
/-- So many statements, one behind the other. -/
def runsC (H : Hd R) (P : Program) (lv : Lv) (K NF m : Nat) (k : Ex → PState → Option R) : Nat → Code → PState → Option R
  | n + 1, .seq a b, s => code H P lv K NF m a s fun ex s' => match ex with
    | .normal => runsC H P lv K NF m k n b s'
    | e => k e s'
  | _, _, s => k .normal s


theorem runsC_sound {H : Hd R} (hH : HOK P H) {lv : Lv} {K NF m : Nat} {k : Ex → PState → Option R} {r : R} : ∀ (n : Nat) (c : Code) (hl : LoopsOK P lv K c) (s : PState), runsC H P lv K NF m k n c s = some r →
    (∃ ex s', ex ≠ .normal ∧ Tri P c s.toA ex s'.toA K ∧ k ex s' = some r) ∨ ∃ s1, (∀ ex s2, Tri P (restC n c) s1.toA ex s2 K → Tri P c s.toA ex s2 K) ∧ k .normal s1 = some r
  | 0, c, hl, s, h => .inr ⟨s, fun ex s2 ht => by cases c <;> exact ht, by cases c <;> exact h⟩
  | n + 1, c, hl, s, h => by
    cases c with
    | seq x y =>
      have hlx : LoopsOK P lv K x := fun z hz => hl z (List.mem_append_left _ hz)
      have hly : LoopsOK P lv K y := fun z hz => hl z (List.mem_append_right _ hz)
      simp only [runsC] at h
      obtain ⟨ex, s1, t1, h⟩ := code_sound hH x hlx s _ r h
      have comp : ∀ ex2 s2, ex = .normal → Tri P y s1.toA ex2 s2 K → Tri P (.seq x y) s.toA ex2 s2 K := fun ex2 s2 he t2 ro w0 M E a w hro hR => by
        subst he
        refine wpIn_seq (wpIn_mono (t1 ro w0 M E a w (no_left hro) hR) ?_)
        rintro e a' w' ⟨rfl, E', hle, h'⟩
        refine wpIn_mono (t2 ro w0 M E' a' w' (no_right hro) h') ?_
        rintro e2 a2 w2 ⟨rfl, E2, hle2, h2⟩
        exact ⟨rfl, E2, hle.trans hle2, h2⟩
      split at h
      · rcases runsC_sound hH n y hly s1 h with ⟨ex2, s2, hne, t2, hk⟩ | ⟨s2, t2, hk⟩
        · exact .inl ⟨ex2, s2, hne, comp _ _ rfl t2, hk⟩
        · exact .inr ⟨s2, fun ex3 s3 t3 => comp _ _ rfl (t2 ex3 s3 t3), hk⟩
      · rename_i hne
        refine .inl ⟨ex, s1, fun e => hne e, fun ro w0 M E a w hro hR => wpIn_seq (wpIn_mono (t1 ro w0 M E a w (no_left hro) hR) ?_), h⟩
        rintro e a' w' ⟨rfl, E', hle, h'⟩
        cases ex with
        | normal => exact absurd rfl hne
        | exit id => exact ⟨rfl, E', hle, h'⟩
        | ret => exact ⟨rfl, E', hle, h'⟩
    | _ => exact .inr ⟨s, fun ex s2 ht => ht, h⟩

theorem Tri.preRen {x : Code} {s t : PState} {ex : Ex} {s' : AState} {K NF : Nat} {keep : Nat → Bool} (hgc : gcL K NF keep s = some t) (ht : Tri P x t.toA ex s' K) : Tri P x s.toA ex s' K := fun ro w0 M E a w hro hR => by
  obtain ⟨ob, hren, hob⟩ := compact_ren hgc
  obtain ⟨g1, g2⟩ := hR.ren hren hob
  refine wpIn_mono (ht ro w0 M _ a w hro g1) ?_
  rintro e' a' w' ⟨rfl, E', hle, h'⟩
  exact ⟨rfl, E', fun n p hn hE => hle n p hn (by simp [g2 n hn, hE]), h'⟩



end Go.Proofs.YtphhepnldndbhaaGreatDoor.Sx

/- The evaluator, part J: a function in many parts. -/
set_option linter.unusedVariables false
set_option linter.unusedSimpArgs false
namespace Go.Proofs.YtphhepnldndbhaaGreatDoor.Sx
open Go
variable {P : Program} {R : Type}

/-- What a piece of code comes to, up to the function's end. -/
def GoesTo (P : Program) (fn : Func) (pre : List PObj) (k : AV → List PObj → Option R) (c : Code) (s : PState) (r : R) : Prop :=
  ∃ ex s', Tri P c s.toA ex s'.toA pre.length ∧ finP P fn pre.length pre k ex s' = some r

theorem goes_code {H : Hd R} (hH : HOK P H) {lv : Lv} {NF m : Nat} {fn : Func} {pre : List PObj} {k : AV → List PObj → Option R} {c : Code} (hl : LoopsOK P lv pre.length c) {s : PState} {r : R} (h : code H P lv pre.length NF m c s (finP P fn pre.length pre k) = some r) : GoesTo P fn pre k c s r := by
  obtain ⟨ex, s', t, hk⟩ := code_sound hH c hl s _ r h
  exact ⟨ex, s', t, hk⟩

theorem goes_cut {H : Hd (Ex × PState)} (hH : HOK P H) {lv : Lv} {NF m n : Nat} {fn : Func} {pre : List PObj} {k : AV → List PObj → Option R} {c : Code} {kn kx : Nat → Bool} (hl : LoopsOK P lv pre.length c) {s st : PState} {r : R}
    (h1 : runsC H P lv pre.length NF m (endK pre.length NF kn kx) n c s = some (.normal, st)) (h2 : GoesTo P fn pre k (restC n c) st r) : GoesTo P fn pre k c s r := by
  obtain ⟨ex2, s2, t2, hk2⟩ := h2
  rcases runsC_sound hH n c hl s h1 with ⟨ex1, s1, hne, t1, hk⟩ | ⟨s1, t1, hk⟩
  · exfalso
    cases ex1 with
    | normal => exact hne rfl
    | exit id => simp [endK] at hk
    | ret => simp [endK] at hk
  · simp only [endK, Option.map_eq_some_iff, Prod.mk.injEq] at hk
    obtain ⟨t, hc, _, rfl⟩ := hk
    exact ⟨ex2, s2, t1 _ _ (Tri.preRen hc t2), hk2⟩

theorem goes_meets (hn : ∀ (f : Nat) (fn : Func), P.funcs[f]? = some fn → (fn.name == "runtime.NumGoroutine") = false) {f : FuncId} {fn : Func} {body : Code} {args : List AV} {pre : List PObj} {NF : Nat} {k : AV → List PObj → Option R} {r : R}
    (hf : P.funcs[f]? = some fn) (hb : fn.body = some body) (h : GoesTo P fn pre k body (startP fn.ntmps args pre NF) r) (hfy : f ≠ yF := by decide) : ∃ res post, Meets P f args (pre.map PObj.toA) res (post.map PObj.toA) ∧ k res post = some r := by
  obtain ⟨ex, s', t, hk⟩ := h
  exact fin_sound hf hb (hn f fn hf) t hk hfy

theorem restC_add : ∀ (a b : Nat) (c : Code), restC b (restC a c) = restC (a + b) c
  | 0, b, c => by rw [Nat.zero_add]; cases c <;> rfl
  | a + 1, b, .seq x y => by rw [show a + 1 + b = (a + b) + 1 by omega]; exact restC_add a b y
  | a + 1, b, .skip => by rw [show a + 1 + b = (a + b) + 1 by omega]; cases b <;> rfl
  | a + 1, b, .region _ _ _ => by rw [show a + 1 + b = (a + b) + 1 by omega]; cases b <;> rfl
  | a + 1, b, .cond _ _ _ => by rw [show a + 1 + b = (a + b) + 1 by omega]; cases b <;> rfl
  | a + 1, b, .block _ _ => by rw [show a + 1 + b = (a + b) + 1 by omega]; cases b <;> rfl
  | a + 1, b, .loop _ => by rw [show a + 1 + b = (a + b) + 1 by omega]; cases b <;> rfl
  | a + 1, b, .rangeFunc _ _ _ _ => by rw [show a + 1 + b = (a + b) + 1 by omega]; cases b <;> rfl
  | a + 1, b, .exit _ => by rw [show a + 1 + b = (a + b) + 1 by omega]; cases b <;> rfl
  | a + 1, b, .scope _ => by rw [show a + 1 + b = (a + b) + 1 by omega]; cases b <;> rfl
  | a + 1, b, .label _ => by rw [show a + 1 + b = (a + b) + 1 by omega]; cases b <;> rfl
  | a + 1, b, .goto _ => by rw [show a + 1 + b = (a + b) + 1 by omega]; cases b <;> rfl
  | a + 1, b, .ret => by rw [show a + 1 + b = (a + b) + 1 by omega]; cases b <;> rfl
  | a + 1, b, .refuse _ => by rw [show a + 1 + b = (a + b) + 1 by omega]; cases b <;> rfl

end Go.Proofs.YtphhepnldndbhaaGreatDoor.Sx

/- The evaluator, part K: a slice that grows, handed to who only reads it. -/
set_option linter.unusedVariables false
set_option linter.unusedSimpArgs false
namespace Go.Proofs.YtphhepnldndbhaaGreatDoor.Sx
open Go
variable {P : Program}

theorem den_asD {E : Env} {nm len : Nat} {x : Value} (h : den E (.vec nm len) = some x) : den E (.dsl nm len) = some x := by
  simp only [den, Option.bind_eq_some_iff] at h ⊢
  obtain ⟨p, hp, h⟩ := h
  refine ⟨p, hp, ?_⟩
  split at h
  · rename_i hc
    rw [if_neg (by rw [hc.1]; simp), if_pos hc.2.2, hc.2.1]; exact h
  · cases h
theorem set_get {α : Type} {l : List α} {j n : Nat} {a x : α} (h : (l.set j a)[n]? = some x) : (n = j ∧ x = a) ∨ (n ≠ j ∧ l[n]? = some x) := by
  rw [List.getElem?_set] at h
  split at h
  · rename_i e
    split at h
    · cases h; exact .inl ⟨e.symm, rfl⟩
    · cases h
  · rename_i e; exact .inr ⟨fun k => e k.symm, h⟩
theorem get_set {α : Type} {l : List α} {j n : Nat} {a x : α} (h : n ≠ j) (hx : l[n]? = some x) : (l.set j a)[n]? = some x := by
  rw [List.getElem?_set, if_neg (fun e => h e.symm)]; exact hx


end Go.Proofs.YtphhepnldndbhaaGreatDoor.Sx

/- The evaluator, part L: slices that are never written: told anew, and handed over twice. -/
set_option linter.unusedVariables false
set_option linter.unusedSimpArgs false
namespace Go.Proofs.YtphhepnldndbhaaGreatDoor.Sx
open Go
variable {P : Program}


/-- ONE SLICE, HANDED OVER TWICE. -/
theorem meets_twice {f : FuncId} {k1 k2 : Nat} {res : AV} {m : Bool} {cs : List AV} {o1 : AObj} (h : Meets P f [.dsl 0 k1, .dsl 1 k2] [.flat m cs, .flat m cs] res [.flat m cs, .flat m cs, o1]) (hc : renL [0, 0, 1] cs = cs) :
    Meets P f [.dsl 0 k1, .dsl 0 k2] [.flat m cs] (res.ren [0, 0, 1]) [.flat m cs, o1.ren [0, 0, 1]] := by
  intro w E xs hxs hp
  let B : Env := fun n => match n with | 0 => E 0 | 1 => E 0 | _ => none
  have hB : ∀ i m' p, ([0, 0, 1] : List Nat)[i]? = some m' → E m' = some p → (i < 2 → B i = some p) := fun i m' p hi he hlt => by
    match i, hi with
    | 0, hi => simp at hi; subst hi; exact he
    | 1, hi => simp at hi; subst hi; exact he
  have d : denL B [.dsl 0 k1, .dsl 1 k2] = some xs := by
    obtain ⟨x, zs, hx, hz, rfl⟩ := denL_cons.1 hxs
    obtain ⟨y, us, hy, hu, rfl⟩ := denL_cons.1 hz
    exact denL_cons.2 ⟨x, _, hx, denL_cons.2 ⟨y, us, hy, hu, rfl⟩, rfl⟩
  obtain ⟨b, c, hE, hO⟩ := hp.objs 0 _ rfl
  have hOB : ObjR B w b c (.flat m cs) := by
    have := ObjR.unren (r := [0, 0, 1]) (A := E) (B := B) (w := w) (b := b) (c := c) (o := .flat m cs) (fun i m' p hi he => by
      match i, hi with
      | 0, hi => simp at hi; subst hi; exact he
      | 1, hi => simp at hi; subst hi; exact he
      | 2, hi => simp at hi; subst hi; rw [hp.fresh 1 (by simp)] at he; cases he) (by simp only [AObj.ren, hc]; exact hO)
    exact this
  have hpB : PreR B w [.flat m cs, .flat m cs] := {
    objs := fun n o hn => by
      match n, hn with
      | 0, hn => simp at hn; subst hn; exact ⟨b, c, hE, hOB⟩
      | 1, hn => simp at hn; subst hn; exact ⟨b, c, hE, hOB⟩
    fresh := fun n hn => by match n, hn with | n + 2, hn => rfl
    apart := fun n m' o o' b1 c1 b2 c2 hn hm ho => by
      match n, hn with
      | 0, hn => simp at hn; subst hn; cases ho
      | 1, hn => simp at hn; subst hn; cases ho
    glob := fun g hg => by
      obtain ⟨h1, h2, h3⟩ := hp.glob g hg
      refine ⟨h1, ?_, h3⟩
      rintro ⟨n, o, c', hn, ho, he⟩
      match n, hn with
      | 0, hn => simp at hn; subst hn; cases ho
      | 1, hn => simp at hn; subst hn; cases ho
    nest := fun m b1 c1 k e1 e2 => by
      have e3 : E 0 = some (b1, c1) := by
        match m, e1 with
        | 0, e1 => exact e1
        | 1, e1 => exact e1
      refine ⟨(hp.nest 0 b1 c1 k e3 e2).1, fun n o c' hn ho => ?_⟩
      match n, hn with
      | 0, hn => simp at hn; subst hn; cases ho
      | 1, hn => simp at hn; subst hn; cases ho }
  refine (h w B xs d hpB).mono ?_
  rintro e w' ⟨B', x, he, hd, hq⟩
  let E' : Env := fun n => match n with | 0 => E 0 | n + 1 => B' (n + 2)
  have hE' : ∀ i p, B' i = some p → ∃ m', ([0, 0, 1] : List Nat)[i]? = some m' ∧ E' m' = some p := fun i p hi => by
    match i, hi with
    | 0, hi => exact ⟨0, rfl, by rw [← hi]; exact (hq.le 0 _ hE).symm ▸ hE⟩
    | 1, hi => exact ⟨0, rfl, by rw [← hi]; exact (hq.le 1 _ (show B 1 = _ from hE)).symm ▸ hE⟩
    | 2, hi => exact ⟨1, rfl, hi⟩
    | i + 3, hi => rw [hq.cut (i + 3) (by simp)] at hi; cases hi
  refine ⟨E', x, he, den_ren hE' _ _ hd, ?_⟩
  exact {
    le := fun n p hn => by
      match n, hn with
      | 0, hn => exact hn
      | n + 1, hn => rw [hp.fresh (n + 1) (by simp)] at hn; cases hn
    cut := fun n hn => by
      match n, hn with
      | n + 2, hn => exact hq.cut (n + 3) (by simp)
      | 0, hn => simp at hn
      | 1, hn => simp at hn
    objs := fun n o hn => by
      match n, hn with
      | 0, hn =>
        simp at hn; subst hn
        obtain ⟨b2, c2, e2, o2⟩ := hq.objs 0 _ rfl
        rw [hq.le 0 _ hE] at e2; cases e2
        refine ⟨b, c, hE, ?_⟩
        have := ObjR.ren hE' o2
        simp only [AObj.ren, hc] at this
        exact this
      | 1, hn =>
        simp at hn; subst hn
        obtain ⟨b2, c2, e2, o2⟩ := hq.objs 2 _ rfl
        exact ⟨b2, c2, e2, ObjR.ren hE' o2⟩
      | n + 2, hn => simp at hn
    made := fun n b1 c1 o hn ho he ht => by
      match n, hn, ho with
      | 1, hn, ho =>
        simp at ho; subst ho
        rcases hq.made 2 b1 c1 o1 (by simp) rfl he (touches_ren ht) with k | ⟨j', c', o', k1, k2, k3, k4⟩
        · exact .inl k
        · match j', k1 with
          | 0, k1 => simp at k1; subst k1; cases k2
          | 1, k1 => simp at k1; subst k1; cases k2
      | n + 2, hn, ho => simp at ho
      | 0, hn, ho => simp at hn
    bare := fun n b1 c1 hn he => by
      match n, hn with
      | n + 1, hn => exact hq.bare (n + 2) b1 c1 (by simp) he
    keep := fun k hk hne => hq.keep k hk fun n o c' hn ho => by
      match n, hn with
      | 0, hn => simp at hn; subst hn; cases ho
      | 1, hn => simp at hn; subst hn; cases ho
    newApart := fun n m' o o' b1 c1 b2 c2 hn hm ho hm' => by
      match n, m', hn, hm with
      | 1, 1, hn, hm => intro _ _ _ _ hne; exact absurd rfl hne
      | n + 2, m', hn, hm => simp at ho
      | 1, m' + 2, hn, hm => simp at hm'
      | 0, m', hn, hm => simp at hn
      | 1, 0, hn, hm => simp at hm
    grow := hq.grow
    os := hq.os, tape := hq.tape, output := hq.output }
end Go.Proofs.YtphhepnldndbhaaGreatDoor.Sx

/- The evaluator, part M: loops of any number of rounds between the parts of a function. -/
set_option linter.unusedVariables false
set_option linter.unusedSimpArgs false
namespace Go.Proofs.YtphhepnldndbhaaGreatDoor.Sx
open Go
variable {P : Program} {R : Type}

theorem tri_seq {a b : Code} {s s1 s2 : AState} {ex : Ex} {K : Nat} (h1 : Tri P a s .normal s1 K) (h2 : Tri P b s1 ex s2 K) : Tri P (.seq a b) s ex s2 K := fun ro w0 M E ac w hro hR => by
  refine wpIn_seq (wpIn_mono (h1 ro w0 M E ac w (no_left hro) hR) ?_)
  rintro e a' w' ⟨rfl, E', hle, h'⟩
  refine wpIn_mono (h2 ro w0 M E' a' w' (no_right hro) h') ?_
  rintro e2 a2 w2 ⟨rfl, E2, hle2, h3⟩
  exact ⟨rfl, E2, hle.trans hle2, h3⟩
theorem tri_block {x : Code} {s s1 : AState} {id K : Nat} (h : Tri P x s (.exit id) s1 K) : Tri P (.block id x) s .normal s1 K := fun ro w0 M E a w hro hR => by
  refine wpIn_block (wpIn_mono (h ro w0 M E a w hro hR) ?_)
  rintro e a' w' ⟨rfl, E', hle, h'⟩
  simp only [Ex.to, Exit.inBlock, if_pos]
  exact ⟨trivial, E', hle, h'⟩
theorem goes_tri {fn : Func} {pre : List PObj} {k : AV → List PObj → Option R} {a b : Code} {s s1 : PState} {r : R} (h1 : Tri P a s.toA .normal s1.toA pre.length) (h2 : GoesTo P fn pre k b s1 r) : GoesTo P fn pre k (.seq a b) s r := by
  obtain ⟨ex, s2, t2, hk⟩ := h2
  exact ⟨ex, s2, tri_seq h1 t2, hk⟩
/-- What a piece of code comes to, told anew. -/
theorem code_tri {H : Hd (Ex × PState)} (hH : HOK P H) {lv : Lv} {K NF m : Nat} {x : Code} (hl : LoopsOK P lv K x) {kn kx : Nat → Bool} {s : PState} {ex : Ex} {st : PState} (h : code H P lv K NF m x s (endK K NF kn kx) = some (ex, st)) : Tri P x s.toA ex st.toA K := round_sound hH hl h
/-- So many statements, told anew: a piece ahead of what goes on. -/
theorem goes_runs {H : Hd (Ex × PState)} (hH : HOK P H) {lv : Lv} {NF m n : Nat} {fn : Func} {pre : List PObj} {k : AV → List PObj → Option R} {c c' : Code} {kn kx : Nat → Bool} (hl : LoopsOK P lv pre.length c) {s st : PState} {r : R}
    (h1 : runsC H P lv pre.length NF m (endK pre.length NF kn kx) n c s = some (.normal, st)) (hc : restC n c = c') (h2 : GoesTo P fn pre k c' st r) : GoesTo P fn pre k c s r := goes_cut hH hl h1 (by rw [hc]; exact h2)
end Go.Proofs.YtphhepnldndbhaaGreatDoor.Sx

/- The evaluator, part N: contracts of slices that are never written, of whatever holds at least as much. -/
set_option linter.unusedVariables false
set_option linter.unusedSimpArgs false
namespace Go.Proofs.YtphhepnldndbhaaGreatDoor.Sx
open Go
variable {P : Program}

/-- A function that returns within its first statements. -/
theorem goes_ret {R : Type} {H : Hd (Ex × PState)} (hH : HOK P H) {lv : Lv} {NF m n : Nat} {fn : Func} {pre : List PObj} {k : AV → List PObj → Option R} {c : Code} {kn kx : Nat → Bool} (hl : LoopsOK P lv pre.length c) {s st : PState} {r : R}
    (h1 : runsC H P lv pre.length NF m (endK pre.length NF kn kx) n c s = some (.ret, st)) (h2 : finP P fn pre.length pre k .ret st = some r) : GoesTo P fn pre k c s r := by
  rcases runsC_sound hH n c hl s h1 with ⟨ex1, s1, hne, t1, hk⟩ | ⟨s1, t1, hk⟩
  · cases ex1 with
    | normal => exact absurd rfl hne
    | exit id => simp [endK] at hk
    | ret =>
      simp only [endK, Option.map_eq_some_iff, Prod.mk.injEq] at hk
      obtain ⟨t, hc, _, rfl⟩ := hk
      obtain ⟨ob, hren, hob⟩ := compact_ren hc
      exact ⟨.ret, t, Tri.ren _ t1 hren hob, h2⟩
  · simp [endK] at hk
theorem meets_args {f : FuncId} {args args' : List AV} {pre post : List AObj} {res : AV} (h : Meets P f args pre res post) (ha : ∀ E xs, denL E args' = some xs → denL E args = some xs) : Meets P f args' pre res post :=
  fun w E xs hxs hp => h w E xs (ha E xs hxs) hp
theorem meets_fit {f : FuncId} {args : List AV} {pre post : List AObj} {res : AV} {j : Nat} {o' : AObj} {m : Bool} {cs : List AV} (h : Meets P f args pre res post) (hj : pre[j]? = some (.flat m cs)) (hfit : Fits o' (.flat m cs)) (hlv : o'.live = true) (htc : ∀ b c k, touches b c (.flat m cs) k → touches b c o' k) :
    Meets P f args (pre.set j o') res (post.set j o') := by
  intro w E xs hxs hp
  have hjl : j < pre.length := (List.getElem?_eq_some_iff.1 hj).1
  have hv : (pre.set j o')[j]? = some o' := by rw [List.getElem?_set_self hjl]
  obtain ⟨b, cp, hE, hO⟩ := hp.objs j _ hv
  have own : ∀ (n : Nat) (o : AObj), pre[n]? = some o → o.owned = true → n ≠ j := fun n o hn ho e => by
    subst e; rw [hj] at hn; cases hn; cases ho
  have hp' : PreR E w pre := {
    objs := fun n o hn => by
      by_cases e : n = j
      · subst e; rw [hj] at hn; cases hn; exact ⟨b, cp, hE, hfit _ _ _ _ hO⟩
      · exact hp.objs n o (get_set e hn)
    fresh := fun n hn => hp.fresh n (by rw [List.length_set]; exact hn)
    apart := fun n m' o o2 b1 c1 b2 c2 hn hm ho hl e1 e2 hne => by
      have hnj := own n o hn ho
      by_cases e : m' = j
      · subst e
        rw [hj] at hm; cases hm
        exact fun ht => hp.apart n m' o _ b1 c1 b2 c2 (get_set hnj hn) hv ho hlv e1 e2 hne (htc _ _ _ ht)
      · exact hp.apart n m' o o2 b1 c1 b2 c2 (get_set hnj hn) (get_set e hm) ho hl e1 e2 hne
    glob := fun g hg => by
      obtain ⟨h1, h2, h3⟩ := hp.glob g hg
      refine ⟨h1, fun ⟨n, o, c', hn, ho, he⟩ => h2 ⟨n, o, c', get_set (own n o hn ho) hn, ho, he⟩, h3⟩
    nest := fun m b1 c1 k e1 e2 => let ⟨g1, g2⟩ := hp.nest m b1 c1 k e1 e2; ⟨g1, fun n o c' hn ho he => g2 n o c' (get_set (own n o hn ho) hn) ho he⟩ }
  refine (h w E xs hxs hp').mono ?_
  rintro e w' ⟨E', x, he, hd, hq⟩
  refine ⟨E', x, he, hd, ?_⟩
  have hblk : o'.live = true → touches b cp o' b → w'.heap[b]? = w.heap[b]? := fun hl ht => hq.keep b (hO.lt hl ht) fun n o c' hn ho he => by
    have hnj := own n o hn ho
    exact hp.apart n j o _ b c' b cp (get_set hnj hn) hv ho hlv he hE hnj ht
  exact {
    le := hq.le
    cut := fun n hn => hq.cut n (by rw [List.length_set] at hn; exact hn)
    objs := fun n o hn => by
      rcases set_get hn with ⟨rfl, rfl⟩ | ⟨e, hn⟩
      · exact ⟨b, cp, hq.le _ _ hE, (hO.mono hq.le).block hblk fun h1 k hk => hq.keep k (hO.ltN h1 hk) fun n o c' hn ho he => (hp.nest _ b cp k hE hk).2 n o c' (get_set (own n o hn ho) hn) ho he⟩
      · exact hq.objs n o hn
    made := fun n b1 c1 o hn ho he ht => by
      rw [List.length_set] at hn
      have hnj : n ≠ j := by omega
      rcases set_get ho with ⟨e, _⟩ | ⟨_, ho⟩
      · exact absurd e hnj
      · rcases hq.made n b1 c1 o hn ho he ht with k | ⟨j', c', o2, k1, k2, k3, k4⟩
        · exact .inl k
        · have hjj := own j' o2 k1 k2
          exact .inr ⟨j', c', o2, get_set hjj k1, k2, get_set hjj k3, k4⟩
    bare := fun n b1 c1 hn he => hq.bare n b1 c1 (by rw [List.length_set] at hn; exact hn) he
    keep := fun k hk hne => hq.keep k hk fun n o c' hn ho => hne n o c' (get_set (own n o hn ho) hn) ho
    newApart := fun n m' o o2 b1 c1 b2 c2 hn hm ho hm' => by
      rw [List.length_set] at hn hm
      rcases set_get ho with ⟨e, _⟩ | ⟨_, ho⟩
      · omega
      · rcases set_get hm' with ⟨e, _⟩ | ⟨_, hm'⟩
        · omega
        · exact hq.newApart n m' o o2 b1 c1 b2 c2 hn hm ho hm'
    grow := hq.grow
    os := hq.os, tape := hq.tape, output := hq.output }
/-- Of a row of whole numbers that grows, or is never written. -/
theorem meets_fitV {f : FuncId} {args : List AV} {pre post : List AObj} {res : AV} {j : Nat} {m : Bool} {l l' : List Int} {t : TypeId} (h : Meets P f args pre res post) (hj : pre[j]? = some (.flat m (ints .i64 l'))) (hl : l.take l'.length = l') : Meets P f args (pre.set j (.vec (ints .i64 l) t 1)) res (post.set j (.vec (ints .i64 l) t 1)) :=
  meets_fit h hj (Fits.vec_flat hl) rfl fun b c k ht => ht.2
theorem meets_fitF {f : FuncId} {args : List AV} {pre post : List AObj} {res : AV} {j : Nat} {m m' : Bool} {l l' : List Int} (h : Meets P f args pre res post) (hj : pre[j]? = some (.flat m (ints .i64 l'))) (hl : l.take l'.length = l') : Meets P f args (pre.set j (.flat m' (ints .i64 l))) res (post.set j (.flat m' (ints .i64 l))) :=
  meets_fit h hj (Fits.ints' hl) rfl fun b c k ht => ht
end Go.Proofs.YtphhepnldndbhaaGreatDoor.Sx

/- The evaluator, part O: loops that are told at one state, in few words. -/
set_option linter.unusedVariables false
set_option linter.unusedSimpArgs false
namespace Go.Proofs.YtphhepnldndbhaaGreatDoor.Sx
open Go
variable {P : Program}

noncomputable def eqSt (a b : PState) : Bool := @decide (a = b) (Classical.propDecidable _)
theorem eqSt_of {a b : PState} (h : eqSt a b = true) : a = b := by unfold eqSt at h; exact @of_decide_eq_true _ (Classical.propDecidable _) h
theorem eqSt_refl (a : PState) : eqSt a a = true := by unfold eqSt; exact @decide_eq_true _ (Classical.propDecidable _) rfl
noncomputable def clB (p : Prop) : Bool := @decide p (Classical.propDecidable p)
theorem clB_of {p : Prop} (h : clB p = true) : p := by unfold clB at h; exact @of_decide_eq_true _ (Classical.propDecidable _) h
theorem clB_to {p : Prop} (h : p) : clB p = true := by unfold clB; exact @decide_eq_true _ (Classical.propDecidable _) h

/-- What the loops of one function come to. -/
def lvOf (g : FuncId) (kp : Nat → Option (List Nat)) (en : Nat → Option (Nat → PState → LAns)) : FuncId → Lv := fun f => match Nat.beq f g with
  | true => { keep := kp, ent := en }
  | false => {}
theorem lvOf_ok {g : Nat} {fn : Func} {kp : Nat → Option (List Nat)} {en : Nat → Option (Nat → PState → LAns)} (hg : P.funcs[g]? = some fn) (h : ∀ x ∈ loopBodies (bodyOf fn), ∀ id e, headReg x = some id → en id = some e → ∀ K t, LAnsOK P x K t (e K t)) : LvOK P (lvOf g kp en) := by
  intro f fn' body hf hb K x hx id e hid he t
  unfold lvOf at he
  cases hfg : Nat.beq f g with
  | false => rw [hfg] at he; cases he
  | true =>
    rw [hfg] at he
    obtain rfl := Nat.eq_of_beq_eq_true hfg
    obtain rfl : fn' = fn := Option.some.inj (hf.symm.trans hg)
    have hbody : body = bodyOf fn' := by unfold bodyOf; rw [hb]; rfl
    subst hbody
    exact h x hx id e hid he K t
/-- One loop alone. -/
def oneL (i : Nat) (e : Nat → PState → LAns) : Nat → Option (Nat → PState → LAns) := fun j => match Nat.beq j i with | true => some e | false => none
theorem oneL_some {i j : Nat} {e e' : Nat → PState → LAns} (h : oneL i e j = some e') : e' = e ∧ j = i := by
  unfold oneL at h
  cases hj : Nat.beq j i with
  | true => rw [hj] at h; exact ⟨(Option.some.inj h).symm, Nat.eq_of_beq_eq_true hj⟩
  | false => rw [hj] at h; cases h
/-- Two loops. -/
def twoL (i1 : Nat) (e1 : Nat → PState → LAns) (i2 : Nat) (e2 : Nat → PState → LAns) : Nat → Option (Nat → PState → LAns) := fun j => match Nat.beq j i1 with | true => some e1 | false => oneL i2 e2 j
theorem twoL_some {i1 i2 j : Nat} {e1 e2 e' : Nat → PState → LAns} (h : twoL i1 e1 i2 e2 j = some e') : (e' = e1 ∧ j = i1) ∨ (e' = e2 ∧ j = i2) := by
  unfold twoL at h
  cases hj : Nat.beq j i1 with
  | true => rw [hj] at h; exact .inl ⟨(Option.some.inj h).symm, Nat.eq_of_beq_eq_true hj⟩
  | false => rw [hj] at h; exact .inr (oneL_some h)
theorem lvOne_ok {g : Nat} {fn : Func} {x : Code} {i : Nat} {kp : Nat → Option (List Nat)} {e : Nat → PState → LAns} (hg : P.funcs[g]? = some fn) (hl : loopBodies (bodyOf fn) = [x]) (h : ∀ K t, LAnsOK P x K t (e K t)) : LvOK P (lvOf g kp (oneL i e)) :=
  lvOf_ok hg fun y hy id e' hid he => by
    rw [hl] at hy
    obtain rfl := List.mem_singleton.1 hy
    obtain ⟨rfl, _⟩ := oneL_some he
    exact h
theorem lvTwo_ok {g : Nat} {fn : Func} {x y : Code} {i j : Nat} {kp : Nat → Option (List Nat)} {e1 e2 : Nat → PState → LAns} (hg : P.funcs[g]? = some fn) (hl : loopBodies (bodyOf fn) = [x, y]) (hx : headReg x = some i) (hy : headReg y = some j) (hij : i ≠ j)
    (h1 : ∀ K t, LAnsOK P x K t (e1 K t)) (h2 : ∀ K t, LAnsOK P y K t (e2 K t)) : LvOK P (lvOf g kp (twoL i e1 j e2)) :=
  lvOf_ok hg fun z hz id e' hid he => by
    rw [hl] at hz
    rcases List.mem_cons.1 hz with rfl | hz
    · rw [hx] at hid; cases hid
      rcases twoL_some he with ⟨rfl, _⟩ | ⟨_, h⟩
      · exact h1
      · exact absurd h hij
    · obtain rfl := List.mem_singleton.1 hz
      rw [hy] at hid; cases hid
      rcases twoL_some he with ⟨_, h⟩ | ⟨rfl, _⟩
      · exact absurd h.symm hij
      · exact h2
/-- A loop that is told at one state. -/
noncomputable def eAt (K0 : Nat) (S : PState) (a : LAns) : Nat → PState → LAns := fun K st => .chk (Nat.beq K K0) (.chk (eqSt st S) a)
theorem eAt_ok {x : Code} {K0 : Nat} {S : PState} {a : LAns} (h : LAnsOK P x K0 S a) (K : Nat) (t : PState) : LAnsOK P x K t (eAt K0 S a K t) := by
  unfold eAt
  refine ⟨fun g1 => ⟨fun g2 => ?_, fun _ => trivial⟩, fun _ => trivial⟩
  obtain rfl := Nat.eq_of_beq_eq_true g1
  obtain rfl := eqSt_of g2
  exact h
/-- So many empty places. -/
abbrev nn {α : Type} (k : Nat) : List (Option α) := List.replicate k none
/-- For scratch texts: a loop's head is told. -/
def eStop : Nat → PState → LAns := fun _ st => .out (.exit 77) st
/-- What must hold, one by one. -/
def chks {α : Type} (x : Option α) : List Bool → Option α
  | [] => x
  | b :: bs => bcond b (chks x bs) none
theorem chks_true {α : Type} {x : Option α} : ∀ {bs : List Bool}, (∀ b ∈ bs, b = true) → chks x bs = x
  | [], _ => rfl
  | b :: bs, h => by
    unfold chks
    rw [h b (List.mem_cons_self ..)]
    exact chks_true fun c hc => h c (List.mem_cons_of_mem _ hc)
end Go.Proofs.YtphhepnldndbhaaGreatDoor.Sx
