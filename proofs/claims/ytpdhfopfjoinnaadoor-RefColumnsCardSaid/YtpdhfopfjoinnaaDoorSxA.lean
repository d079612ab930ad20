/- The symbolic executor, part A: abstract values, memory, states and what they denote in a world of the model. -/
import Derived.Test.YtpdhfopfjoinnaaDoorGt
import Derived.Orders
import Derived.Laws.Sem
namespace Go.Proofs.YtpdhfopfjoinnaaDoor.Sx
open Go

/-- Values whose addresses are names of blocks. -/
inductive AV where
  | bool (b : Bool)
  | int (k : IntKind) (n : Int)
  | str (s : List UInt8)
  | ptr (nm off : Nat)
  | nilptr
  | slice (nm off len cap : Nat)
  | vec (nm len : Nat)
  | nilslice
  | agg (cs : List AV)
  | tuple (vs : List AV)
  | func (f : FuncId) (first caps : List AV)
  | nilfunc
  | iface (t : TypeId) (v : AV)
  | niliface
  | dsl (nm len : Nat)
  | dptr (nm off : Nat)
  | gptr (g off : Nat)
  | bad
  deriving Inhabited

/-- Of a block that is named: the capacity of the slice that begins there, where it begins, and whether it is nil (no block at all). -/
structure Cap where
  n : Nat
  o : Nat := 0
  z : Bool := false
instance {n : Nat} : OfNat Cap n := ⟨{ n := n }⟩

/-- Which block a name stands for, and what is told of a slice there. -/
abbrev Env := Nat → Option (Nat × Cap)

/-- None of the values takes more than one cell. -/
def allOne (xs : List Value) : Bool := xs.all Value.oneCell'

mutual
def den (E : Env) : AV → Option Value
  | .bool b => some (.bool b)
  | .int k n => some (.int k n)
  | .str s => some (.string ⟨s.toArray⟩)
  | .ptr nm off => (E nm).map fun p => .pointer (some ⟨p.1, off, none⟩)
  | .nilptr => some (.pointer none)
  | .slice nm off len cap => (E nm).map fun p => .slice (some ⟨p.1, off, none⟩) len cap
  | .vec nm len => (E nm).bind fun p => if p.2.z = false ∧ p.2.o = 0 ∧ len ≤ p.2.n then some (.slice (some ⟨p.1, 0, none⟩) len p.2.n) else none
  | .dsl nm len => (E nm).bind fun p => if p.2.z then (if len = 0 then some (.slice none 0 0) else none) else (if len ≤ p.2.n then some (.slice (some ⟨p.1, p.2.o, none⟩) len p.2.n) else none)
  | .dptr nm off => (E nm).bind fun p => if p.2.z then none else some (.pointer (some ⟨p.1, p.2.o + off, none⟩))
  | .gptr g off => some (.pointer (some ⟨g, off, none⟩))
  | .nilslice => some (.slice none 0 0)
  | .agg cs => (denL E cs).bind fun xs => if allOne xs then some (.agg xs.toArray) else none
  | .tuple vs => (denL E vs).map fun xs => .tuple xs.toArray
  | .func f as cs => match denL E as, denL E cs with
    | some xs, some ys => some (.func (.func f) xs.toArray ys.toArray)
    | _, _ => none
  | .bad => none
  | .nilfunc => some .nilFunc
  | .iface t v => (den E v).map fun x => .iface t x
  | .niliface => some .nilIface
def denL (E : Env) : List AV → Option (List Value)
  | [] => some []
  | v :: vs => match den E v, denL E vs with
    | some x, some xs => some (x :: xs)
    | _, _ => none
end

def Env.le (E E' : Env) : Prop := ∀ n p, E n = some p → E' n = some p
theorem Env.le.refl (E : Env) : Env.le E E := fun _ _ h => h
theorem Env.le.trans {A B C : Env} (h : Env.le A B) (k : Env.le B C) : Env.le A C := fun n p e => k n p (h n p e)

mutual
theorem den_mono {E E' : Env} (h : Env.le E E') : ∀ (v : AV) (x : Value), den E v = some x → den E' v = some x
  | .bool b, x, e => e
  | .int k n, x, e => e
  | .str s, x, e => e
  | .ptr nm off, x, e => by
    simp only [den, Option.map_eq_some_iff] at e ⊢; obtain ⟨p, hp, hx⟩ := e; exact ⟨p, h _ _ hp, hx⟩
  | .nilptr, x, e => e
  | .slice nm off len cap, x, e => by
    simp only [den, Option.map_eq_some_iff] at e ⊢; obtain ⟨p, hp, hx⟩ := e; exact ⟨p, h _ _ hp, hx⟩
  | .vec nm len, x, e => by
    simp only [den, Option.bind_eq_some_iff] at e ⊢; obtain ⟨p, hp, hx⟩ := e; exact ⟨p, h _ _ hp, hx⟩
  | .dsl nm len, x, e => by
    simp only [den, Option.bind_eq_some_iff] at e ⊢; obtain ⟨p, hp, hx⟩ := e; exact ⟨p, h _ _ hp, hx⟩
  | .dptr nm len, x, e => by
    simp only [den, Option.bind_eq_some_iff] at e ⊢; obtain ⟨p, hp, hx⟩ := e; exact ⟨p, h _ _ hp, hx⟩
  | .nilslice, x, e => e
  | .gptr g off, x, e => e
  | .agg cs, x, e => by
    simp only [den, Option.bind_eq_some_iff] at e ⊢; obtain ⟨p, hp, hx⟩ := e; exact ⟨p, denL_mono h cs p hp, hx⟩
  | .tuple cs, x, e => by
    simp only [den, Option.map_eq_some_iff] at e ⊢; obtain ⟨p, hp, hx⟩ := e; exact ⟨p, denL_mono h cs p hp, hx⟩
  | .func f as cs, x, e => by
    simp only [den] at e ⊢
    split at e
    · rename_i ys zs hy hz; rw [denL_mono h as ys hy, denL_mono h cs zs hz]; exact e
    · cases e
  | .bad, x, e => by simp [den] at e
  | .nilfunc, x, e => e
  | .iface t v, x, e => by
    simp only [den, Option.map_eq_some_iff] at e ⊢; obtain ⟨p, hp, hx⟩ := e; exact ⟨p, den_mono h v p hp, hx⟩
  | .niliface, x, e => e
theorem denL_mono {E E' : Env} (h : Env.le E E') : ∀ (vs : List AV) (xs : List Value), denL E vs = some xs → denL E' vs = some xs
  | [], xs, e => e
  | v :: vs, xs, e => by
    simp only [denL] at e ⊢
    split at e
    · rename_i x ys hx hys
      rw [den_mono h v x hx, denL_mono h vs ys hys]; exact e
    · cases e
end

theorem denL_cons {E : Env} {v : AV} {vs : List AV} {xs : List Value} : denL E (v :: vs) = some xs ↔ ∃ x ys, den E v = some x ∧ denL E vs = some ys ∧ xs = x :: ys := by
  simp only [denL]
  constructor
  · intro h; split at h
    · rename_i x ys hx hy; cases h; exact ⟨x, ys, hx, hy, rfl⟩
    · cases h
  · rintro ⟨x, ys, hx, hy, rfl⟩; rw [hx, hy]

theorem denL_nil {E : Env} : denL E [] = some [] := rfl

theorem denL_append {E : Env} {vs us : List AV} {xs ys : List Value} (h : denL E vs = some xs) (k : denL E us = some ys) : denL E (vs ++ us) = some (xs ++ ys) := by
  induction vs generalizing xs with
  | nil => simp [denL] at h; subst h; simpa using k
  | cons v vs ih =>
    obtain ⟨x, zs, hx, hz, rfl⟩ := denL_cons.1 h
    simp only [List.cons_append]
    exact denL_cons.2 ⟨x, zs ++ ys, hx, ih hz, rfl⟩

theorem denL_length {E : Env} {vs : List AV} {xs : List Value} (h : denL E vs = some xs) : xs.length = vs.length := by
  induction vs generalizing xs with
  | nil => simp [denL] at h; subst h; rfl
  | cons v vs ih => obtain ⟨x, zs, _, hz, rfl⟩ := denL_cons.1 h; simp [ih hz]

theorem denL_get {E : Env} {vs : List AV} {xs : List Value} (h : denL E vs = some xs) {i : Nat} {v : AV} (hv : vs[i]? = some v) : ∃ x, xs[i]? = some x ∧ den E v = some x := by
  induction vs generalizing xs i with
  | nil => simp at hv
  | cons u vs ih =>
    obtain ⟨x, zs, hx, hz, rfl⟩ := denL_cons.1 h
    cases i with
    | zero => simp at hv; subst hv; exact ⟨x, by simp, hx⟩
    | succ i => simpa using ih hz (by simpa using hv)

theorem denL_drop {E : Env} {vs : List AV} {xs : List Value} (h : denL E vs = some xs) (i : Nat) : denL E (vs.drop i) = some (xs.drop i) := by
  induction vs generalizing xs i with
  | nil => simp [denL] at h; subst h; simp [denL]
  | cons u vs ih =>
    obtain ⟨x, zs, hx, hz, rfl⟩ := denL_cons.1 h
    cases i with
    | zero => simpa using h
    | succ i => simpa using ih hz i

theorem denL_take {E : Env} {vs : List AV} {xs : List Value} (h : denL E vs = some xs) (i : Nat) : denL E (vs.take i) = some (xs.take i) := by
  induction vs generalizing xs i with
  | nil => simp [denL] at h; subst h; simp [denL]
  | cons u vs ih =>
    obtain ⟨x, zs, hx, hz, rfl⟩ := denL_cons.1 h
    cases i with
    | zero => simp [denL]
    | succ i => simp only [List.take_succ_cons]; exact denL_cons.2 ⟨x, _, hx, ih hz i, rfl⟩

theorem denL_set {E : Env} {vs : List AV} {xs : List Value} (h : denL E vs = some xs) (i : Nat) {v : AV} {x : Value} (hv : den E v = some x) : denL E (vs.set i v) = some (xs.set i x) := by
  induction vs generalizing xs i with
  | nil => simp [denL] at h; subst h; simp [denL]
  | cons u vs ih =>
    obtain ⟨y, zs, hx, hz, rfl⟩ := denL_cons.1 h
    cases i with
    | zero => simp only [List.set_cons_zero]; exact denL_cons.2 ⟨x, _, hv, hz, rfl⟩
    | succ i => simp only [List.set_cons_succ]; exact denL_cons.2 ⟨y, _, hx, ih hz i, rfl⟩

theorem denL_replicate {E : Env} {v : AV} {x : Value} (hv : den E v = some x) (n : Nat) : denL E (List.replicate n v) = some (List.replicate n x) := by
  induction n with
  | zero => rfl
  | succ n ih => simp only [List.replicate_succ]; exact denL_cons.2 ⟨x, _, hv, ih, rfl⟩

/-- The constants of the code. -/
def ofConst : Nat → Value → Option AV
  | 0, _ => none
  | _ + 1, .bool b => some (.bool b)
  | _ + 1, .int k n => some (.int k n)
  | _ + 1, .string s => some (.str s.data.toList)
  | _ + 1, .pointer none => some .nilptr
  | _ + 1, .slice none 0 0 => some .nilslice
  | n + 1, .agg cs => if allOne cs.toList then (cs.toList.mapM (ofConst n)).map .agg else none
  | n + 1, .tuple cs => (cs.toList.mapM (ofConst n)).map .tuple
  | _ + 1, .nilFunc => some .nilfunc
  | _ + 1, .nilIface => some .niliface
  | n + 1, .iface t v => (ofConst n v).map (.iface t)
  | _ + 1, _ => none

theorem denL_of_mapM {E : Env} {f : Value → Option AV} (hf : ∀ x v, f x = some v → den E v = some x) : ∀ (xs : List Value) (vs : List AV), xs.mapM f = some vs → denL E vs = some xs
  | [], vs, h => by simp at h; subst h; rfl
  | x :: xs, vs, h => by
    simp only [List.mapM_cons, Option.bind_eq_bind, Option.bind_eq_some_iff, Option.pure_def, Option.some.injEq] at h
    obtain ⟨v, hv, us, hu, rfl⟩ := h
    exact denL_cons.2 ⟨x, xs, hf x v hv, denL_of_mapM hf xs us hu, rfl⟩

theorem den_ofConst {E : Env} : ∀ (n : Nat) (x : Value) (v : AV), ofConst n x = some v → den E v = some x
  | 0, _, _, h => by simp [ofConst] at h
  | n + 1, x, v, h => by
    cases x with
    | bool b => simp [ofConst] at h; subst h; rfl
    | int k m => simp [ofConst] at h; subst h; rfl
    | string s => simp [ofConst] at h; subst h; simp [den]
    | pointer a => cases a with
      | none => simp [ofConst] at h; subst h; rfl
      | some a => simp [ofConst] at h
    | slice a l c =>
      cases a with
      | none => cases l with
        | zero => cases c with
          | zero => simp [ofConst] at h; subst h; rfl
          | succ c => simp [ofConst] at h
        | succ l => simp [ofConst] at h
      | some a => simp [ofConst] at h
    | agg cs =>
      simp only [ofConst] at h
      split at h
      · rename_i h1
        simp only [Option.map_eq_some_iff] at h
        obtain ⟨vs, hv, rfl⟩ := h
        simp [den, denL_of_mapM (fun x v => den_ofConst n x v) _ _ hv, h1]
      · cases h
    | tuple cs =>
      simp only [ofConst, Option.map_eq_some_iff] at h
      obtain ⟨vs, hv, rfl⟩ := h
      simp [den, denL_of_mapM (fun x v => den_ofConst n x v) _ _ hv]
    | nilFunc => simp [ofConst] at h; subst h; rfl
    | nilIface => simp [ofConst] at h; subst h; rfl
    | iface t y =>
      simp only [ofConst, Option.map_eq_some_iff] at h
      obtain ⟨vs, hv, rfl⟩ := h
      simp [den, den_ofConst n _ _ hv]
    | float k b => simp [ofConst] at h
    | complex k a b => simp [ofConst] at h
    | map r => simp [ofConst] at h
    | chan r => simp [ofConst] at h
    | func f a b => simp [ofConst] at h

/-- Cells: values that denote one cell each. -/
def denC (E : Env) (cs : List AV) (xs : List Value) : Prop := denL E cs = some xs ∧ allOne xs = true

theorem denC_mono {E E' : Env} (h : Env.le E E') {vs : List AV} {xs : List Value} (k : denC E vs xs) : denC E' vs xs := ⟨denL_mono h _ _ k.1, k.2⟩
theorem denC_agg {E : Env} {cs : List AV} {x : Value} : den E (.agg cs) = some x ↔ ∃ xs, denC E cs xs ∧ x = .agg xs.toArray := by
  simp only [den, Option.bind_eq_some_iff, denC]
  constructor
  · rintro ⟨xs, hx, h⟩; split at h
    · rename_i h1; cases h; exact ⟨xs, ⟨hx, h1⟩, rfl⟩
    · cases h
  · rintro ⟨xs, ⟨hx, h1⟩, rfl⟩; exact ⟨xs, hx, by rw [if_pos h1]⟩
theorem denC_append {E : Env} {vs us : List AV} {xs ys : List Value} (h : denC E vs xs) (k : denC E us ys) : denC E (vs ++ us) (xs ++ ys) :=
  ⟨denL_append h.1 k.1, by simpa [allOne] using ⟨by simpa [allOne] using h.2, by simpa [allOne] using k.2⟩⟩
theorem denC_drop {E : Env} {vs : List AV} {xs : List Value} (h : denC E vs xs) (i : Nat) : denC E (vs.drop i) (xs.drop i) :=
  ⟨denL_drop h.1 i, by have := h.2; simp only [allOne, List.all_eq_true] at this ⊢; exact fun x hx => this x (List.mem_of_mem_drop hx)⟩
theorem denC_take {E : Env} {vs : List AV} {xs : List Value} (h : denC E vs xs) (i : Nat) : denC E (vs.take i) (xs.take i) :=
  ⟨denL_take h.1 i, by have := h.2; simp only [allOne, List.all_eq_true] at this ⊢; exact fun x hx => this x (List.mem_of_mem_take hx)⟩
theorem denC_length {E : Env} {vs : List AV} {xs : List Value} (h : denC E vs xs) : xs.length = vs.length := denL_length h.1
theorem denC_get {E : Env} {vs : List AV} {xs : List Value} (h : denC E vs xs) {i : Nat} {v : AV} (hv : vs[i]? = some v) : ∃ x, xs[i]? = some x ∧ den E v = some x := denL_get h.1 hv

/-- The cells of a value. -/
def AV.cells : AV → List AV
  | .agg cs => cs
  | .tuple _ => [.bad]
  | v => [v]

theorem denC_cells {E : Env} {v : AV} {x : Value} (h : den E v = some x) (hb : ∀ vs, v ≠ .tuple vs) : ∃ xs, denC E v.cells xs ∧ x.cells = xs.toArray := by
  cases v with
  | agg cs => obtain ⟨xs, hx, rfl⟩ := denC_agg.1 h; exact ⟨xs, hx, rfl⟩
  | tuple vs => exact absurd rfl (hb vs)
  | bad => simp [den] at h
  | bool b => cases h; exact ⟨[_], ⟨rfl, rfl⟩, rfl⟩
  | int k n => cases h; exact ⟨[_], ⟨rfl, rfl⟩, rfl⟩
  | str s => cases h; exact ⟨[_], ⟨rfl, rfl⟩, rfl⟩
  | nilptr => cases h; exact ⟨[_], ⟨rfl, rfl⟩, rfl⟩
  | nilslice => cases h; exact ⟨[_], ⟨rfl, rfl⟩, rfl⟩
  | gptr g off => cases h; exact ⟨[_], ⟨rfl, rfl⟩, rfl⟩
  | nilfunc => cases h; exact ⟨[_], ⟨rfl, rfl⟩, rfl⟩
  | niliface => cases h; exact ⟨[_], ⟨rfl, rfl⟩, rfl⟩
  | ptr nm off => have h' := h; simp only [den, Option.map_eq_some_iff] at h; obtain ⟨p, hp, rfl⟩ := h; exact ⟨[_], ⟨denL_cons.2 ⟨_, _, h', rfl, rfl⟩, rfl⟩, rfl⟩
  | slice nm off l c => have h' := h; simp only [den, Option.map_eq_some_iff] at h; obtain ⟨p, hp, rfl⟩ := h; exact ⟨[_], ⟨denL_cons.2 ⟨_, _, h', rfl, rfl⟩, rfl⟩, rfl⟩
  | vec nm l =>
    have h' := h; simp only [den, Option.bind_eq_some_iff] at h; obtain ⟨p, hp, hq⟩ := h
    split at hq
    · cases hq; exact ⟨[_], ⟨denL_cons.2 ⟨_, _, h', rfl, rfl⟩, rfl⟩, rfl⟩
    · cases hq
  | dsl nm l =>
    have h' := h; simp only [den, Option.bind_eq_some_iff] at h; obtain ⟨p, hp, hq⟩ := h
    split at hq
    · split at hq
      · cases hq; exact ⟨[_], ⟨denL_cons.2 ⟨_, _, h', rfl, rfl⟩, rfl⟩, rfl⟩
      · cases hq
    · split at hq
      · cases hq; exact ⟨[_], ⟨denL_cons.2 ⟨_, _, h', rfl, rfl⟩, rfl⟩, rfl⟩
      · cases hq
  | dptr nm l =>
    have h' := h; simp only [den, Option.bind_eq_some_iff] at h; obtain ⟨p, hp, hq⟩ := h
    split at hq
    · cases hq
    · cases hq; exact ⟨[_], ⟨denL_cons.2 ⟨_, _, h', rfl, rfl⟩, rfl⟩, rfl⟩
  | iface t v => have h' := h; simp only [den, Option.map_eq_some_iff] at h; obtain ⟨p, hp, rfl⟩ := h; exact ⟨[_], ⟨denL_cons.2 ⟨_, _, h', rfl, rfl⟩, rfl⟩, rfl⟩
  | func f as cs =>
    have h' := h; simp only [den] at h
    split at h
    · cases h; exact ⟨[_], ⟨denL_cons.2 ⟨_, _, h', rfl, rfl⟩, rfl⟩, rfl⟩
    · cases h

/-- What is known of a block. 'cells': all its cells. 'vec': its first cells (what is behind them is spare room). 'ro': some cells of it, from 'off' on, that are never written. 'flat': the cells of a slice, nil or not, that are never written. 'dead': nothing any more. -/
inductive AObj where
  | cells (cs : List AV) (t : TypeId)
  | vec (cs : List AV) (t : TypeId) (sz : Nat)
  | ro (off : Nat) (cs : List AV)
  | flat (m : Bool) (cs : List AV)
  | iter (s : List UInt8) (pos : Nat)
  | dead
  deriving Inhabited

def AObj.owned : AObj → Bool
  | .ro _ _ => false
  | .flat _ _ => false
  | .dead => false
  | _ => true
/-- Made by the call itself (or handed over to it): its block is new. -/
def AObj.mine : AObj → Bool
  | .flat m _ => m
  | .ro _ _ => false
  | .dead => false
  | _ => true
theorem mine_owned {o : AObj} (h : o.owned = true) : o.mine = true := by cases o <;> first | rfl | cases h
def AObj.live : AObj → Bool
  | .dead => false
  | _ => true

/-- No cell of a row of n is marked. -/
def okM (m : Nat × Nat) (n : Nat) : Prop := m = (0, 0) ∨ n ≤ m.1

def ObjR (E : Env) (w : World) (b : Nat) (c : Cap) : AObj → Prop
  | .cells cs t => ∃ xs, denC E cs xs ∧ w.heap[b]? = some (.cells xs.toArray t (0, 0))
  | .vec cs t sz => ∃ xs ys, denC E cs xs ∧ (∃ m, w.heap[b]? = some (.cells (xs ++ ys).toArray t m) ∧ okM m (xs ++ ys).length) ∧ (xs ++ ys).length = c.n * sz ∧ c.o = 0 ∧ c.z = false
  | .ro off cs => ∃ xs, denC E cs xs ∧ (∀ i x, xs[i]? = some x → w.cell? ⟨b, off + i, none⟩ = some x) ∧ b < w.heap.size
  | .flat _ cs => ∃ xs, denC E cs xs ∧ (c.z = true → cs = []) ∧ (c.z = false → b < w.heap.size ∧ ∀ i x, xs[i]? = some x → w.cell? ⟨b, c.o + i, none⟩ = some x)
  | .iter s pos => w.heap[b]? = some (.stringIter ⟨s.toArray⟩ pos)
  | .dead => True

/-- The block that an object leans on: none, of a nil slice. -/
def touches (b : Nat) (c : Cap) : AObj → Nat → Prop
  | .flat _ _, k => c.z = false ∧ k = b
  | _, k => k = b
def AObj.isFlat : AObj → Bool
  | .flat _ _ => true
  | _ => false
theorem touches_fit {b k : Nat} {c : Cap} {p q : AObj} (h : q.isFlat = true → p.isFlat = true) (ht : touches b c p k) : touches b c q k := by
  cases q with
  | flat m cs =>
    have := h rfl
    cases p <;> first | exact ht | simp [AObj.isFlat] at this
  | cells cs t => exact (by cases p <;> first | exact ht | exact ht.2)
  | vec cs t sz => exact (by cases p <;> first | exact ht | exact ht.2)
  | ro off cs => exact (by cases p <;> first | exact ht | exact ht.2)
  | iter s pos => exact (by cases p <;> first | exact ht | exact ht.2)
  | dead => exact (by cases p <;> first | exact ht | exact ht.2)
theorem touches_owned {b : Nat} {c : Cap} {o : AObj} (h : o.owned = true) : touches b c o b := by cases o <;> first | rfl | cases h
theorem touches_eq {b k : Nat} {c : Cap} {o : AObj} (h : touches b c o k) : k = b := by cases o <;> first | exact h | exact h.2
theorem touches_of_flat {b k : Nat} {c : Cap} {p o : AObj} (hp : p.isFlat = true) (ht : touches b c p k) : touches b c o k := by
  have he := touches_eq ht
  cases o with
  | flat m cs => cases p <;> first | exact ht | simp [AObj.isFlat] at hp
  | cells a b => exact he
  | vec a b c => exact he
  | ro a b => exact he
  | iter a b => exact he
  | dead => exact he
theorem mine_live {o : AObj} (h : o.mine = true) : o.live = true := by cases o <;> first | rfl | cases h
/-- As it is lent to a call. -/
def AObj.lent : AObj → AObj
  | .flat _ cs => .flat false cs
  | o => o
theorem lent_mine {o : AObj} (h : o.lent.mine = true) : o.owned = true := by cases o <;> first | rfl | cases h
theorem lent_owned {o : AObj} : o.lent.owned = o.owned := by cases o <;> rfl
theorem lent_live {o : AObj} : o.lent.live = o.live := by cases o <;> rfl
theorem lent_touches {b k : Nat} {c : Cap} {o : AObj} : touches b c o.lent k ↔ touches b c o k := by cases o <;> exact Iff.rfl
theorem lent_obj {E : Env} {w : World} {b : Nat} {c : Cap} {o : AObj} (h : ObjR E w b c o) : ObjR E w b c o.lent := by cases o <;> exact h

theorem ObjR.mono {E E' : Env} (h : Env.le E E') {w : World} {b : Nat} {c : Cap} {o : AObj} (k : ObjR E w b c o) : ObjR E' w b c o := by
  cases o with
  | cells cs t => obtain ⟨xs, hx, hw⟩ := k; exact ⟨xs, denC_mono h hx, hw⟩
  | vec cs t sz => obtain ⟨xs, ys, hx, hw, hl⟩ := k; exact ⟨xs, ys, denC_mono h hx, hw, hl⟩
  | ro off cs => obtain ⟨xs, hx, hw, hb⟩ := k; exact ⟨xs, denC_mono h hx, hw, hb⟩
  | flat m cs => obtain ⟨xs, hx, hz, hw⟩ := k; exact ⟨xs, denC_mono h hx, hz, hw⟩
  | iter s pos => exact k
  | dead => exact k

theorem ObjR.block {E : Env} {w w' : World} {b : Nat} {c : Cap} {o : AObj} (k : ObjR E w b c o) (hb : o.live = true → touches b c o b → w'.heap[b]? = w.heap[b]?) : ObjR E w' b c o := by
  cases o with
  | cells cs t => obtain ⟨xs, hx, hw⟩ := k; exact ⟨xs, hx, (hb rfl rfl).trans hw⟩
  | vec cs t sz => obtain ⟨xs, ys, hx, ⟨m, hw, hm⟩, hl⟩ := k; exact ⟨xs, ys, hx, ⟨m, (hb rfl rfl).trans hw, hm⟩, hl⟩
  | ro off cs =>
    obtain ⟨xs, hx, hw, hl⟩ := k
    have hb := hb rfl rfl
    refine ⟨xs, hx, fun i x hi => ?_, ?_⟩
    · rw [← hw i x hi]; simp only [World.cell?, hb]
    · have : w.heap[b]? ≠ none := by simp [hl]
      rw [← hb] at this; simpa using this
  | flat m cs =>
    obtain ⟨xs, hx, hz, hw⟩ := k
    refine ⟨xs, hx, hz, fun h0 => ?_⟩
    obtain ⟨hl, hw⟩ := hw h0
    have hb := hb rfl ⟨h0, rfl⟩
    refine ⟨?_, fun i x hi => ?_⟩
    · have : w.heap[b]? ≠ none := by simp [hl]
      rw [← hb] at this; simpa using this
    · rw [← hw i x hi]; simp only [World.cell?, hb]
  | iter s pos => exact (hb rfl rfl).trans k
  | dead => trivial

theorem ObjR.lt {E : Env} {w : World} {b : Nat} {c : Cap} {o : AObj} (k : ObjR E w b c o) (hl : o.live = true) (ht : touches b c o b) : b < w.heap.size := by
  cases o with
  | cells cs t => obtain ⟨xs, hx, hw⟩ := k; exact (Array.getElem?_eq_some_iff.1 hw).1
  | vec cs t sz => obtain ⟨xs, ys, hx, ⟨m, hw, hm⟩, hl⟩ := k; exact (Array.getElem?_eq_some_iff.1 hw).1
  | ro off cs => obtain ⟨xs, hx, hw, hb⟩ := k; exact hb
  | flat m cs => obtain ⟨xs, hx, hz, hw⟩ := k; exact (hw ht.1).1
  | iter s pos => exact (Array.getElem?_eq_some_iff.1 k).1
  | dead => simp [AObj.live] at hl

structure AState where
  slots : List (Option AV)
  mem : List (Option AObj)
  deriving Inhabited

/-- The tables of the program stand in the world, in no block that may be written. -/
def gcells (l : List (IntKind × Int)) : List AV := l.map fun p => .int p.1 p.2
def gvals (l : List (IntKind × Int)) : List Value := l.map fun p => .int p.1 p.2
theorem denC_gcells (E : Env) : ∀ l : List (IntKind × Int), denC E (gcells l) (gvals l)
  | [] => ⟨rfl, rfl⟩
  | p :: l => ⟨denL_cons.2 ⟨_, _, rfl, (denC_gcells E l).1, rfl⟩, (denC_gcells E l).2⟩
def GlobOK (w : World) (M : Nat → Prop) : Prop := ∀ g l, gtab g = some l → g < w.heap.size ∧ ¬ M g ∧ ∀ (i : Nat) x, (gvals l)[i]? = some x → w.cell? ⟨g, i, none⟩ = some x

/-- The state 's' holds of the activation and the world, since the world 'w0' in which the call began; 'M': the blocks of 'w0' that the call may write. -/
structure Rel (w0 : World) (M : Nat → Prop) (E : Env) (s : AState) (a : Act) (w : World) : Prop where
  size : a.tmps.size = s.slots.length
  slots : ∀ (t : Nat) (v : AV), s.slots[t]? = some (some v) → ∃ x : Value, a.tmps[t]? = some x ∧ den E v = some x
  defers : a.defers = []
  fresh : ∀ n : Nat, s.mem[n]? = some none → E n = none
  mem : ∀ (n : Nat) (o : AObj), s.mem[n]? = some (some o) → ∃ b c, E n = some (b, c) ∧ ObjR E w b c o ∧ (o.mine = true → touches b c o b → w0.heap.size ≤ b ∨ M b)
  apart : ∀ (n m : Nat) (o o' : AObj) (b : Nat) (c : Cap) (b' : Nat) (c' : Cap), s.mem[n]? = some (some o) → s.mem[m]? = some (some o') → o.owned = true → o'.live = true → E n = some (b, c) → E m = some (b', c') → n ≠ m → ¬ touches b' c' o' b
  frame : ∀ k : Nat, k < w0.heap.size → ¬ M k → w.heap[k]? = w0.heap[k]?
  grow : w0.heap.size ≤ w.heap.size
  os : w.os = w0.os
  tape : w.tape = w0.tape
  output : w.output = w0.output
  glob : GlobOK w0 M

def AState.ev (s : AState) : Operand → Option AV
  | .tmp t => (s.slots[t]?).join
  | .const v => ofConst 4 v
  | .global g => some (.gptr g 0)
  | .func f => some (.func f [] [])

theorem Rel.ev {w0 : World} {M : Nat → Prop} {E : Env} {s : AState} {a : Act} {w : World} (h : Rel w0 M E s a w) {x : Operand} {v : AV} (hv : s.ev x = some v) : den E v = some (a.eval x) := by
  cases x with
  | tmp t =>
    simp only [AState.ev, Option.join_eq_some_iff] at hv
    obtain ⟨y, hy, hd⟩ := h.slots t v hv
    simp only [Act.eval, Array.getD_eq_getD_getElem?, hy, Option.getD_some]; exact hd
  | const c => exact den_ofConst _ _ _ hv
  | global g => simp [AState.ev] at hv; subst hv; simp [den, Act.eval]
  | func f => simp [AState.ev] at hv; subst hv; simp [den, denL, Act.eval]

theorem Rel.globNow {w0 : World} {M : Nat → Prop} {E : Env} {s : AState} {a : Act} {w : World} (h : Rel w0 M E s a w) : GlobOK w (fun k => ∃ (n : Nat) (o : AObj) (c : Cap), s.mem[n]? = some (some o) ∧ o.owned = true ∧ E n = some (k, c)) := by
  intro g l hg
  obtain ⟨h1, h2, h3⟩ := h.glob g l hg
  have hf := h.frame g h1 h2
  refine ⟨Nat.lt_of_lt_of_le h1 h.grow, ?_, fun i x hi => ?_⟩
  · rintro ⟨n, o, c, hn, ho, hE⟩
    obtain ⟨b, c', hE', _, hm⟩ := h.mem n o hn
    rw [hE] at hE'; cases hE'
    rcases hm (mine_owned ho) (touches_owned ho) with k | k
    · omega
    · exact h2 k
  · rw [← h3 i x hi]; simp only [World.cell?, hf]

/-- A draw changes nothing. -/
theorem Rel.drew {w0 : World} {M : Nat → Prop} {E : Env} {s : AState} {a : Act} {w : World} (h : Rel w0 M E s a w) (n : Nat) : Rel w0 M E s a { w with drawn := n } :=
  { size := h.size, slots := h.slots, defers := h.defers, fresh := h.fresh, frame := h.frame, grow := h.grow, os := h.os, tape := h.tape, output := h.output, apart := h.apart, glob := h.glob,
    mem := fun n o hn => let ⟨b, c, he, ho, hm⟩ := h.mem n o hn; ⟨b, c, he, ho.block fun _ _ => rfl, hm⟩ }

end Go.Proofs.YtpdhfopfjoinnaaDoor.Sx
