import Derived.Orders
import Derived.Lib.DecodeN
import Derived.Laws.Sem
import Derived.RangeFuncRecord
import Derived.RangeFuncLeaves
import Derived.OrdersIn
import Derived.LoopNIn
import Derived.Laws.Cells
import Derived.Laws.StructEq
import Derived.Laws.Small
import GoSem.Core.Utf8
import Derived.LaidEqlPtr
import Derived.Lib.Builder
import Derived.IntWalk
import Derived.Laws.Strings
import Derived.ChangeKeysEq
namespace Go.Proofs.YtphhepnldndbhaaGreatDoor.Sx
def gtab : Nat → Option (List (Go.IntKind × Int))
  | 1 => some ((List.range 256).map fun c => (.u8, (Go.Lib.firstT c : Int)))
  | 2 => some ((List.range 32).map fun j => (.u8, ((if j % 2 = 0 then Go.Lib.accLo (j / 2) else Go.Lib.accHi (j / 2) : Nat) : Int)))
  | _ => none
def gstr : Nat → Option (List (List UInt8))
  | 0 => some [[], [35, 78, 85, 76, 76, 33], [35, 68, 73, 86, 47, 48, 33], [35, 86, 65, 76, 85, 69, 33], [35, 82, 69, 70, 33], [35, 78, 65, 77, 69, 63], [35, 78, 85, 77, 33], [35, 78, 47, 65], [35, 83, 80, 73, 76, 76, 33], [35, 67, 73, 82, 67, 33]]
  | _ => none
def gint : Nat → Bool
  | 4 => true
  | _ => false
def gerr : Nat → Bool := fun _ => false
end Go.Proofs.YtphhepnldndbhaaGreatDoor.Sx
namespace Go.Proofs.YtphhepnldndbhaaGreatDoor.Sx
open Go
inductive AV where
  | bool (b : Bool)
  | int (k : IntKind) (n : Int)
  | str (s : List UInt8)
  | ptr (nm off : Nat)
  | nilptr
  | slice (nm off len cap : Nat)
  | vec (nm len : Nat)
  | qzz
  | agg (cs : List AV)
  | tuple (vs : List AV)
  | func (f : FuncId) (first caps : List AV)
  | nilfunc
  | nilmap
  | iface (t : TypeId) (v : AV)
  | niliface
  | dsl (nm len : Nat)
  | dptr (nm off : Nat)
  | gptr (g off : Nat)
  | rptr (nm w i j : Nat)
  | vsl (nm w off len : Nat)
  | mapp (nm : Nat)
  | bad
  deriving Inhabited
inductive CK where
  | int (k : IntKind)
  | str
  | bool
  | any
  | nils
  | sl (sh : List CK)
inductive CV where
  | mk (n : Int) (s : List UInt8) (b : Bool) (l : List (List CV))
  deriving Inhabited
def CV.n : CV → Int
  | .mk n _ _ _ => n
def CV.s : CV → List UInt8
  | .mk _ s _ _ => s
def CV.b : CV → Bool
  | .mk _ _ b _ => b
def CV.l : CV → List (List CV)
  | .mk _ _ _ l => l
def cellV : CK → CV → Option Value
  | .int k, c => some (.int k c.n)
  | .str, c => some (.string ⟨c.s.toArray⟩)
  | .bool, c => some (.bool c.b)
  | .nils, _ => some (.slice none 0 0)
  | _, _ => none
def cellA : CK → CV → AV
  | .int k, c => .int k c.n
  | .str, c => .str c.s
  | .bool, c => .bool c.b
  | .nils, _ => .qzz
  | _, _ => .bad
def rowCV (r : List CV) (j : Nat) : CV := r.getD j (.mk 0 [] false [])
def rowAt (rows : List (List CV)) (i : Nat) : List CV := rows.getD i []
def rowA (sh : List CK) (r : List CV) : List AV := (List.range sh.length).map fun j => cellA (sh.getD j .any) (rowCV r j)
structure Cap where
  n : Nat
  o : Nat := 0
  z : Bool := false
  sub : Nat → Nat → Option (Nat × Nat × Nat) := fun _ _ => none
  a : Option Addr := none
def under (c : Cap) (k : Nat) : Prop := ∃ i j p, c.sub i j = some p ∧ p.1 = k
def Cap.bare (c : Cap) : Prop := ∀ k, ¬ under c k
theorem Cap.bare_of {c : Cap} (h : ∀ i j, c.sub i j = none) : c.bare := fun k ⟨i, j, p, e, _⟩ => by rw [h i j] at e; cases e
instance {n : Nat} : OfNat Cap n := ⟨{ n := n }⟩
abbrev Env := Nat → Option (Nat × Cap)
def allOne (xs : List Value) : Bool := xs.all Value.oneCell'
def yF : FuncId := 1152921504606846976
def yfOf (E : Env) : List AV → List AV → Option Value
  | [.ptr nm 0], [] => (E nm).map fun p => .func (.yield p.1) #[] #[]
  | _, _ => none
mutual
def den (E : Env) : AV → Option Value
  | .bool b => some (.bool b)
  | .int k n => some (.int k n)
  | .str s => some (.string ⟨s.toArray⟩)
  | .ptr nm off => (E nm).map fun p => .pointer (some ⟨p.1, off, none⟩)
  | .nilptr => some (.pointer none)
  | .slice nm off len cap => (E nm).map fun p => .slice (some ⟨p.1, off, none⟩) len cap
  | .vec nm len => (E nm).bind fun p => if p.2.z = false ∧ p.2.o = 0 ∧ len ≤ p.2.n then some (.slice (some ⟨p.1, 0, none⟩) len p.2.n) else none
  | .dsl nm len => (E nm).bind fun p => if p.2.z then (if len = 0 then some (.slice p.2.a 0 0) else none) else (if len ≤ p.2.n then some (.slice (some ⟨p.1, p.2.o, none⟩) len p.2.n) else none)
  | .dptr nm off => (E nm).bind fun p => if p.2.z then none else some (.pointer (some ⟨p.1, p.2.o + off, none⟩))
  | .gptr g off => some (.pointer (some ⟨g, off, none⟩))
  | .rptr nm w i j => (E nm).bind fun p => if p.2.z then none else some (.pointer (some ⟨p.1, p.2.o + (i * w + j), none⟩))
  | .vsl nm w off len => (E nm).bind fun p => if p.2.z = false ∧ off + len ≤ p.2.n then some (.slice (some ⟨p.1, p.2.o + (if off = p.2.n then 0 else off * w), none⟩) len (p.2.n - off)) else none
  | .mapp nm => (E nm).map fun p => .map (some p.1)
  | .qzz => some (.slice none 0 0)
  | .agg cs => (denL E cs).bind fun xs => if allOne xs then some (.agg xs.toArray) else none
  | .tuple vs => (denL E vs).map fun xs => .tuple xs.toArray
  | .func f as cs => if f = yF then yfOf E as cs else match denL E as, denL E cs with
    | some xs, some ys => some (.func (.func f) xs.toArray ys.toArray)
    | _, _ => none
  | .bad => none
  | .nilfunc => some .nilFunc
  | .nilmap => some (.map none)
  | .iface t v => (den E v).map fun x => .iface t x
  | .niliface => some .nilIface
def denL (E : Env) : List AV → Option (List Value)
  | [] => some []
  | v :: vs => match den E v, denL E vs with
    | some x, some xs => some (x :: xs)
    | _, _ => none
end
def Env.le (E E' : Env) : Prop := ∀ n p, E n = some p → E' n = some p
theorem Env.le.refl (E : Env) : Env.le E E := fun _ _ h => h
theorem Env.le.trans {A B C : Env} (h : Env.le A B) (k : Env.le B C) : Env.le A C := fun n p e => k n p (h n p e)
theorem yfOf_some {E : Env} {as cs : List AV} {x : Value} (h : yfOf E as cs = some x) : ∃ nm p, as = [.ptr nm 0] ∧ cs = [] ∧ E nm = some p ∧ x = .func (.yield p.1) #[] #[] := by
  unfold yfOf at h
  split at h
  · simp only [Option.map_eq_some_iff] at h; obtain ⟨p, hp, rfl⟩ := h; exact ⟨_, p, rfl, rfl, hp, rfl⟩
  · cases h
theorem yfOf_mono {E E' : Env} (h : Env.le E E') {as cs : List AV} {x : Value} (e : yfOf E as cs = some x) : yfOf E' as cs = some x := by
  obtain ⟨nm, p, rfl, rfl, hp, rfl⟩ := yfOf_some e
  simp [yfOf, h _ _ hp]
mutual
theorem den_mono {E E' : Env} (h : Env.le E E') : ∀ (v : AV) (x : Value), den E v = some x → den E' v = some x
  | .bool b, x, e => e
  | .int k n, x, e => e
  | .str s, x, e => e
  | .ptr nm off, x, e => by
    simp only [den, Option.map_eq_some_iff] at e ⊢; obtain ⟨p, hp, hx⟩ := e; exact ⟨p, h _ _ hp, hx⟩
  | .nilptr, x, e => e
  | .mapp nm, x, e => by
    simp only [den, Option.map_eq_some_iff] at e ⊢; obtain ⟨p, hp, hx⟩ := e; exact ⟨p, h _ _ hp, hx⟩
  | .slice nm off len cap, x, e => by
    simp only [den, Option.map_eq_some_iff] at e ⊢; obtain ⟨p, hp, hx⟩ := e; exact ⟨p, h _ _ hp, hx⟩
  | .vec nm len, x, e => by
    simp only [den, Option.bind_eq_some_iff] at e ⊢; obtain ⟨p, hp, hx⟩ := e; exact ⟨p, h _ _ hp, hx⟩
  | .dsl nm len, x, e => by
    simp only [den, Option.bind_eq_some_iff] at e ⊢; obtain ⟨p, hp, hx⟩ := e; exact ⟨p, h _ _ hp, hx⟩
  | .dptr nm len, x, e => by
    simp only [den, Option.bind_eq_some_iff] at e ⊢; obtain ⟨p, hp, hx⟩ := e; exact ⟨p, h _ _ hp, hx⟩
  | .rptr nm w i j, x, e => by
    simp only [den, Option.bind_eq_some_iff] at e ⊢; obtain ⟨p, hp, hx⟩ := e; exact ⟨p, h _ _ hp, hx⟩
  | .vsl nm w off len, x, e => by
    simp only [den, Option.bind_eq_some_iff] at e ⊢; obtain ⟨p, hp, hx⟩ := e; exact ⟨p, h _ _ hp, hx⟩
  | .qzz, x, e => e
  | .gptr g off, x, e => e
  | .agg cs, x, e => by
    simp only [den, Option.bind_eq_some_iff] at e ⊢; obtain ⟨p, hp, hx⟩ := e; exact ⟨p, denL_mono h cs p hp, hx⟩
  | .tuple cs, x, e => by
    simp only [den, Option.map_eq_some_iff] at e ⊢; obtain ⟨p, hp, hx⟩ := e; exact ⟨p, denL_mono h cs p hp, hx⟩
  | .func f as cs, x, e => by
    simp only [den] at e ⊢
    split at e
    · rename_i hf; rw [if_pos hf]; exact yfOf_mono h e
    · rename_i hf
      rw [if_neg hf]
      split at e
      · rename_i ys zs hy hz; rw [denL_mono h as ys hy, denL_mono h cs zs hz]; exact e
      · cases e
  | .bad, x, e => by simp [den] at e
  | .nilfunc, x, e => e
  | .nilmap, x, e => e
  | .iface t v, x, e => by
    simp only [den, Option.map_eq_some_iff] at e ⊢; obtain ⟨p, hp, hx⟩ := e; exact ⟨p, den_mono h v p hp, hx⟩
  | .niliface, x, e => e
theorem denL_mono {E E' : Env} (h : Env.le E E') : ∀ (vs : List AV) (xs : List Value), denL E vs = some xs → denL E' vs = some xs
  | [], xs, e => e
  | v :: vs, xs, e => by
    simp only [denL] at e ⊢
    split at e
    · rename_i x ys hx hys
      rw [den_mono h v x hx, denL_mono h vs ys hys]; exact e
    · cases e
end
theorem qxz {E : Env} {v : AV} {vs : List AV} {xs : List Value} : denL E (v :: vs) = some xs ↔ ∃ x ys, den E v = some x ∧ denL E vs = some ys ∧ xs = x :: ys := by
  simp only [denL]
  constructor
  · intro h; split at h
    · rename_i x ys hx hy; cases h; exact ⟨x, ys, hx, hy, rfl⟩
    · cases h
  · rintro ⟨x, ys, hx, hy, rfl⟩; rw [hx, hy]
theorem denL_append {E : Env} {vs us : List AV} {xs ys : List Value} (h : denL E vs = some xs) (k : denL E us = some ys) : denL E (vs ++ us) = some (xs ++ ys) := by
  induction vs generalizing xs with
  | nil => simp [denL] at h; subst h; simpa using k
  | cons v vs ih =>
    obtain ⟨x, zs, hx, hz, rfl⟩ := qxz.1 h
    simp only [List.cons_append]
    exact qxz.2 ⟨x, zs ++ ys, hx, ih hz, rfl⟩
theorem denL_length {E : Env} {vs : List AV} {xs : List Value} (h : denL E vs = some xs) : xs.length = vs.length := by
  induction vs generalizing xs with
  | nil => simp [denL] at h; subst h; rfl
  | cons v vs ih => obtain ⟨x, zs, _, hz, rfl⟩ := qxz.1 h; simp [ih hz]
theorem denL_get {E : Env} {vs : List AV} {xs : List Value} (h : denL E vs = some xs) {i : Nat} {v : AV} (hv : vs[i]? = some v) : ∃ x, xs[i]? = some x ∧ den E v = some x := by
  induction vs generalizing xs i with
  | nil => simp at hv
  | cons u vs ih =>
    obtain ⟨x, zs, hx, hz, rfl⟩ := qxz.1 h
    cases i with
    | zero => simp at hv; subst hv; exact ⟨x, by simp, hx⟩
    | succ i => simpa using ih hz (by simpa using hv)
theorem denL_drop {E : Env} {vs : List AV} {xs : List Value} (h : denL E vs = some xs) (i : Nat) : denL E (vs.drop i) = some (xs.drop i) := by
  induction vs generalizing xs i with
  | nil => simp [denL] at h; subst h; simp [denL]
  | cons u vs ih =>
    obtain ⟨x, zs, hx, hz, rfl⟩ := qxz.1 h
    cases i with
    | zero => simpa using h
    | succ i => simpa using ih hz i
theorem denL_take {E : Env} {vs : List AV} {xs : List Value} (h : denL E vs = some xs) (i : Nat) : denL E (vs.take i) = some (xs.take i) := by
  induction vs generalizing xs i with
  | nil => simp [denL] at h; subst h; simp [denL]
  | cons u vs ih =>
    obtain ⟨x, zs, hx, hz, rfl⟩ := qxz.1 h
    cases i with
    | zero => simp [denL]
    | succ i => simp only [List.take_succ_cons]; exact qxz.2 ⟨x, _, hx, ih hz i, rfl⟩
def ofConst : Nat → Value → Option AV
  | 0, _ => none
  | _ + 1, .bool b => some (.bool b)
  | _ + 1, .int k n => some (.int k n)
  | _ + 1, .string s => some (.str s.data.toList)
  | _ + 1, .pointer none => some .nilptr
  | _ + 1, .slice none 0 0 => some .qzz
  | n + 1, .agg cs => if allOne cs.toList then (cs.toList.mapM (ofConst n)).map .agg else none
  | n + 1, .tuple cs => (cs.toList.mapM (ofConst n)).map .tuple
  | _ + 1, .nilFunc => some .nilfunc
  | _ + 1, .map none => some .nilmap
  | _ + 1, .nilIface => some .niliface
  | n + 1, .iface t v => (ofConst n v).map (.iface t)
  | _ + 1, _ => none
theorem denL_of_mapM {E : Env} {f : Value → Option AV} (hf : ∀ x v, f x = some v → den E v = some x) : ∀ (xs : List Value) (vs : List AV), xs.mapM f = some vs → denL E vs = some xs
  | [], vs, h => by simp at h; subst h; rfl
  | x :: xs, vs, h => by
    simp only [List.mapM_cons, Option.bind_eq_bind, Option.bind_eq_some_iff, Option.pure_def, Option.some.injEq] at h
    obtain ⟨v, hv, us, hu, rfl⟩ := h
    exact qxz.2 ⟨x, xs, hf x v hv, denL_of_mapM hf xs us hu, rfl⟩
theorem den_ofConst {E : Env} : ∀ (n : Nat) (x : Value) (v : AV), ofConst n x = some v → den E v = some x
  | 0, _, _, h => by simp [ofConst] at h
  | n + 1, x, v, h => by
    cases x with
    | bool b => simp [ofConst] at h; subst h; rfl
    | int k m => simp [ofConst] at h; subst h; rfl
    | string s => simp [ofConst] at h; subst h; simp [den]
    | pointer a => cases a with
      | none => simp [ofConst] at h; subst h; rfl
      | some a => simp [ofConst] at h
    | slice a l c =>
      cases a with
      | none => cases l with
        | zero => cases c with
          | zero => simp [ofConst] at h; subst h; rfl
          | succ c => simp [ofConst] at h
        | succ l => simp [ofConst] at h
      | some a => simp [ofConst] at h
    | agg cs =>
      simp only [ofConst] at h
      split at h
      · rename_i h1
        simp only [Option.map_eq_some_iff] at h
        obtain ⟨vs, hv, rfl⟩ := h
        simp [den, denL_of_mapM (fun x v => den_ofConst n x v) _ _ hv, h1]
      · cases h
    | tuple cs =>
      simp only [ofConst, Option.map_eq_some_iff] at h
      obtain ⟨vs, hv, rfl⟩ := h
      simp [den, denL_of_mapM (fun x v => den_ofConst n x v) _ _ hv]
    | nilFunc => simp [ofConst] at h; subst h; rfl
    | nilIface => simp [ofConst] at h; subst h; rfl
    | iface t y =>
      simp only [ofConst, Option.map_eq_some_iff] at h
      obtain ⟨vs, hv, rfl⟩ := h
      simp [den, den_ofConst n _ _ hv]
    | float k b => simp [ofConst] at h
    | complex k a b => simp [ofConst] at h
    | map r =>
      cases r with
      | none => simp [ofConst] at h; subst h; rfl
      | some r => simp [ofConst] at h
    | chan r => simp [ofConst] at h
    | func f a b => simp [ofConst] at h
def denC (E : Env) (cs : List AV) (xs : List Value) : Prop := denL E cs = some xs ∧ allOne xs = true
theorem denC_mono {E E' : Env} (h : Env.le E E') {vs : List AV} {xs : List Value} (k : denC E vs xs) : denC E' vs xs := ⟨denL_mono h _ _ k.1, k.2⟩
theorem denC_agg {E : Env} {cs : List AV} {x : Value} : den E (.agg cs) = some x ↔ ∃ xs, denC E cs xs ∧ x = .agg xs.toArray := by
  simp only [den, Option.bind_eq_some_iff, denC]
  constructor
  · rintro ⟨xs, hx, h⟩; split at h
    · rename_i h1; cases h; exact ⟨xs, ⟨hx, h1⟩, rfl⟩
    · cases h
  · rintro ⟨xs, ⟨hx, h1⟩, rfl⟩; exact ⟨xs, hx, by rw [if_pos h1]⟩
theorem denC_append {E : Env} {vs us : List AV} {xs ys : List Value} (h : denC E vs xs) (k : denC E us ys) : denC E (vs ++ us) (xs ++ ys) :=
  ⟨denL_append h.1 k.1, by simpa [allOne] using ⟨by simpa [allOne] using h.2, by simpa [allOne] using k.2⟩⟩
theorem denC_drop {E : Env} {vs : List AV} {xs : List Value} (h : denC E vs xs) (i : Nat) : denC E (vs.drop i) (xs.drop i) :=
  ⟨denL_drop h.1 i, by have := h.2; simp only [allOne, List.all_eq_true] at this ⊢; exact fun x hx => this x (List.mem_of_mem_drop hx)⟩
theorem denC_take {E : Env} {vs : List AV} {xs : List Value} (h : denC E vs xs) (i : Nat) : denC E (vs.take i) (xs.take i) :=
  ⟨denL_take h.1 i, by have := h.2; simp only [allOne, List.all_eq_true] at this ⊢; exact fun x hx => this x (List.mem_of_mem_take hx)⟩
theorem qxu {E : Env} {vs : List AV} {xs : List Value} (h : denC E vs xs) : xs.length = vs.length := denL_length h.1
theorem denC_get {E : Env} {vs : List AV} {xs : List Value} (h : denC E vs xs) {i : Nat} {v : AV} (hv : vs[i]? = some v) : ∃ x, xs[i]? = some x ∧ den E v = some x := denL_get h.1 hv
def AV.cells : AV → List AV
  | .agg cs => cs
  | .tuple _ => [.bad]
  | v => [v]
theorem denC_cells {E : Env} {v : AV} {x : Value} (h : den E v = some x) (hb : ∀ vs, v ≠ .tuple vs) : ∃ xs, denC E v.cells xs ∧ x.cells = xs.toArray := by
  cases v with
  | agg cs => obtain ⟨xs, hx, rfl⟩ := denC_agg.1 h; exact ⟨xs, hx, rfl⟩
  | tuple vs => exact absurd rfl (hb vs)
  | bad => simp [den] at h
  | bool b => cases h; exact ⟨[_], ⟨rfl, rfl⟩, rfl⟩
  | int k n => cases h; exact ⟨[_], ⟨rfl, rfl⟩, rfl⟩
  | str s => cases h; exact ⟨[_], ⟨rfl, rfl⟩, rfl⟩
  | nilptr => cases h; exact ⟨[_], ⟨rfl, rfl⟩, rfl⟩
  | qzz => cases h; exact ⟨[_], ⟨rfl, rfl⟩, rfl⟩
  | gptr g off => cases h; exact ⟨[_], ⟨rfl, rfl⟩, rfl⟩
  | nilfunc => cases h; exact ⟨[_], ⟨rfl, rfl⟩, rfl⟩
  | nilmap => cases h; exact ⟨[_], ⟨rfl, rfl⟩, rfl⟩
  | niliface => cases h; exact ⟨[_], ⟨rfl, rfl⟩, rfl⟩
  | ptr nm off => have h' := h; simp only [den, Option.map_eq_some_iff] at h; obtain ⟨p, hp, rfl⟩ := h; exact ⟨[_], ⟨qxz.2 ⟨_, _, h', rfl, rfl⟩, rfl⟩, rfl⟩
  | mapp nm => have h' := h; simp only [den, Option.map_eq_some_iff] at h; obtain ⟨p, hp, rfl⟩ := h; exact ⟨[_], ⟨qxz.2 ⟨_, _, h', rfl, rfl⟩, rfl⟩, rfl⟩
  | slice nm off l c => have h' := h; simp only [den, Option.map_eq_some_iff] at h; obtain ⟨p, hp, rfl⟩ := h; exact ⟨[_], ⟨qxz.2 ⟨_, _, h', rfl, rfl⟩, rfl⟩, rfl⟩
  | vec nm l =>
    have h' := h; simp only [den, Option.bind_eq_some_iff] at h; obtain ⟨p, hp, hq⟩ := h
    split at hq
    · cases hq; exact ⟨[_], ⟨qxz.2 ⟨_, _, h', rfl, rfl⟩, rfl⟩, rfl⟩
    · cases hq
  | vsl nm w off l =>
    have h' := h; simp only [den, Option.bind_eq_some_iff] at h; obtain ⟨p, hp, hq⟩ := h
    split at hq
    · cases hq; exact ⟨[_], ⟨qxz.2 ⟨_, _, h', rfl, rfl⟩, rfl⟩, rfl⟩
    · cases hq
  | dsl nm l =>
    have h' := h; simp only [den, Option.bind_eq_some_iff] at h; obtain ⟨p, hp, hq⟩ := h
    split at hq
    · split at hq
      · cases hq; exact ⟨[_], ⟨qxz.2 ⟨_, _, h', rfl, rfl⟩, rfl⟩, rfl⟩
      · cases hq
    · split at hq
      · cases hq; exact ⟨[_], ⟨qxz.2 ⟨_, _, h', rfl, rfl⟩, rfl⟩, rfl⟩
      · cases hq
  | dptr nm l =>
    have h' := h; simp only [den, Option.bind_eq_some_iff] at h; obtain ⟨p, hp, hq⟩ := h
    split at hq
    · cases hq
    · cases hq; exact ⟨[_], ⟨qxz.2 ⟨_, _, h', rfl, rfl⟩, rfl⟩, rfl⟩
  | rptr nm w i j =>
    have h' := h; simp only [den, Option.bind_eq_some_iff] at h; obtain ⟨p, hp, hq⟩ := h
    split at hq
    · cases hq
    · cases hq; exact ⟨[_], ⟨qxz.2 ⟨_, _, h', rfl, rfl⟩, rfl⟩, rfl⟩
  | iface t v => have h' := h; simp only [den, Option.map_eq_some_iff] at h; obtain ⟨p, hp, rfl⟩ := h; exact ⟨[_], ⟨qxz.2 ⟨_, _, h', rfl, rfl⟩, rfl⟩, rfl⟩
  | func f as cs =>
    have h' := h; simp only [den] at h
    split at h
    · obtain ⟨nm, p, rfl, rfl, hp, rfl⟩ := yfOf_some h; exact ⟨[_], ⟨qxz.2 ⟨_, _, h', rfl, rfl⟩, rfl⟩, rfl⟩
    · split at h
      · cases h; exact ⟨[_], ⟨qxz.2 ⟨_, _, h', rfl, rfl⟩, rfl⟩, rfl⟩
      · cases h
inductive LSt where
  | ready
  | busy
  | done (j : Code)
def LSt.st : LSt → LoopState
  | .ready => .ready
  | .busy => .busy
  | .done _ => .done
def LSt.pend : LSt → Option Code
  | .done j => some j
  | _ => none
inductive AObj where
  | cells (cs : List AV) (t : TypeId)
  | vec (cs : List AV) (t : TypeId) (sz : Nat)
  | ro (off : Nat) (cs : List AV)
  | flat (m : Bool) (cs : List AV)
  | flatR (m : Bool) (sh : List CK) (rows : List (List CV))
  | flatN (sh : List CK) (rows : List (List CV))
  | iter (s : List UInt8) (pos : Nat)
  | shut (cs : List AV) (t : TypeId) (sz : Nat)
  | mapS (n : Nat) (ks : List (List Int))
  | loopR (up : LSt) (n : Nat) (ix : List Nat) (cs : List AV) (ps : List Tmp) (asg body : Code)
  | dead
  deriving Inhabited
def AObj.owned : AObj → Bool
  | .ro _ _ => false
  | .flat _ _ => false
  | .flatR _ _ _ => false
  | .flatN _ _ => false
  | .dead => false
  | _ => true
def AObj.mine : AObj → Bool
  | .flat m _ => m
  | .flatR m _ _ => m
  | .flatN _ _ => false
  | .ro _ _ => false
  | .dead => false
  | _ => true
theorem mine_owned {o : AObj} (h : o.owned = true) : o.mine = true := by cases o <;> first | rfl | cases h
def AObj.live : AObj → Bool
  | .dead => false
  | _ => true
def keyV (k : List Int) : Value := .agg (k.map (Value.int .i64)).toArray
def okM (m : Nat × Nat) (n : Nat) : Prop := m = (0, 0) ∨ n ≤ m.1
def kidsOf (c : CV) : List Int := c.l.map fun r => (rowCV r 0).n
def KidAt (w : World) (b : Nat) (c : Cap) (n i j : Nat) (k : IntKind) (l : List Int) : Prop :=
  match c.sub i j with
  | none => l = [] ∧ ∃ q : Option Addr, w.cell? ⟨b, c.o + (i * n + j), none⟩ = some (.slice q 0 0)
  | some p => l.length ≤ p.2.2 ∧ w.cell? ⟨b, c.o + (i * n + j), none⟩ = some (.slice (some ⟨p.1, p.2.1, none⟩) l.length p.2.2) ∧ ∀ t x, (l.map (Value.int k))[t]? = some x → w.cell? ⟨p.1, p.2.1 + t, none⟩ = some x
theorem KidAt.block {w w' : World} {b : Nat} {c : Cap} {n i j : Nat} {k : IntKind} {l : List Int} (h : KidAt w b c n i j k l) (hb : w'.heap[b]? = w.heap[b]?) (hn : ∀ k, under c k → w'.heap[k]? = w.heap[k]?) : KidAt w' b c n i j k l := by
  unfold KidAt at h ⊢
  cases e : c.sub i j with
  | none => rw [e] at h; obtain ⟨h1, q, h2⟩ := h; exact ⟨h1, q, by rw [← h2]; simp only [World.cell?, hb]⟩
  | some p =>
    rw [e] at h
    have := hn p.1 ⟨i, j, p, e, rfl⟩
    exact ⟨h.1, by rw [← h.2.1]; simp only [World.cell?, hb], fun t x hx => by rw [← h.2.2 t x hx]; simp only [World.cell?, this]⟩
def ObjR (E : Env) (w : World) (b : Nat) (c : Cap) : AObj → Prop
  | .cells cs t => ∃ xs, denC E cs xs ∧ w.heap[b]? = some (.cells xs.toArray t (0, 0))
  | .vec cs t sz => ∃ xs ys, denC E cs xs ∧ (∃ m, w.heap[b]? = some (.cells (xs ++ ys).toArray t m) ∧ okM m (xs ++ ys).length) ∧ (xs ++ ys).length = c.n * sz ∧ c.o = 0 ∧ c.z = false
  | .ro off cs => ∃ xs, denC E cs xs ∧ (∀ i x, xs[i]? = some x → w.cell? ⟨b, off + i, none⟩ = some x) ∧ b < w.heap.size
  | .flat _ cs => ∃ xs, denC E cs xs ∧ (c.z = true → cs = []) ∧ (c.z = false → b < w.heap.size ∧ ∀ i x, xs[i]? = some x → w.cell? ⟨b, c.o + i, none⟩ = some x)
  | .flatR _ sh rows => (c.z = true → rows = []) ∧ (c.z = false → b < w.heap.size ∧ ∀ (i j : Nat) (v : Value), i < rows.length → j < sh.length → cellV (sh.getD j .any) (rowCV (rowAt rows i) j) = some v → w.cell? ⟨b, c.o + (i * sh.length + j), none⟩ = some v)
  | .flatN sh rows => (∀ k, under c k → k < w.heap.size) ∧ (c.z = true → rows = []) ∧ (c.z = false → b < w.heap.size ∧ (∀ (i j : Nat) (v : Value), i < rows.length → j < sh.length → cellV (sh.getD j .any) (rowCV (rowAt rows i) j) = some v → w.cell? ⟨b, c.o + (i * sh.length + j), none⟩ = some v) ∧ ∀ (i j : Nat) (k : IntKind), i < rows.length → sh[j]? = some (.sl [.int k]) → KidAt w b c sh.length i j k (kidsOf (rowCV (rowAt rows i) j)))
  | .iter s pos => w.heap[b]? = some (.stringIter ⟨s.toArray⟩ pos)
  | .shut cs t sz => ∃ xs ys, denC E cs xs ∧ (∃ m, w.heap[b]? = some (.cells (xs ++ ys).toArray t m)) ∧ (xs ++ ys).length = c.n * sz ∧ c.o = 0 ∧ c.z = false
  | .mapS n ks => (∀ k ∈ ks, k.length = n) ∧ ∃ (es : Array MapEntry) (clock : Nat), w.heap[b]? = some (.map es clock) ∧ es.toList.map (fun e => (e.key, e.val)) = ks.map fun k => (keyV k, .bool true)
  | .loopR up n ix cs ps asg body => ∃ (xs : List Value) (r : Loop), denL E cs = some xs ∧ w.heap[b]? = some (.loop r) ∧ r.state = up.st ∧ r.pending = up.pend ∧ r.params = ps.toArray ∧ r.assign = asg ∧ r.body = body ∧ r.tmps.size = n ∧
      ∀ (i t : Nat) (x : Value), ix[i]? = some t → xs[i]? = some x → r.tmps[t]? = some x
  | .dead => True
def touches (b : Nat) (c : Cap) : AObj → Nat → Prop
  | .flat _ _, k => c.z = false ∧ k = b
  | .flatR _ _ _, k => c.z = false ∧ k = b
  | .flatN _ _, k => c.z = false ∧ k = b
  | _, k => k = b
def AObj.isFlat : AObj → Bool
  | .flat _ _ => true
  | .flatR _ _ _ => true
  | .flatN _ _ => true
  | _ => false
def AObj.isNest : AObj → Bool
  | .flatN _ _ => true
  | _ => false
theorem touches_fit {b k : Nat} {c : Cap} {p q : AObj} (h : q.isFlat = true → p.isFlat = true) (ht : touches b c p k) : touches b c q k := by
  cases q with
  | flat m cs =>
    have := h rfl
    cases p <;> first | exact ht | simp [AObj.isFlat] at this
  | flatR m sh rows =>
    have := h rfl
    cases p <;> first | exact ht | simp [AObj.isFlat] at this
  | flatN sh rows =>
    have := h rfl
    cases p <;> first | exact ht | simp [AObj.isFlat] at this
  | cells cs t => exact (by cases p <;> first | exact ht | exact ht.2)
  | vec cs t sz => exact (by cases p <;> first | exact ht | exact ht.2)
  | ro off cs => exact (by cases p <;> first | exact ht | exact ht.2)
  | iter s pos => exact (by cases p <;> first | exact ht | exact ht.2)
  | shut cs t sz => exact (by cases p <;> first | exact ht | exact ht.2)
  | mapS n ks => exact (by cases p <;> first | exact ht | exact ht.2)
  | loopR up n ix cs ps asg body => exact (by cases p <;> first | exact ht | exact ht.2)
  | dead => exact (by cases p <;> first | exact ht | exact ht.2)
theorem touches_owned {b : Nat} {c : Cap} {o : AObj} (h : o.owned = true) : touches b c o b := by cases o <;> first | rfl | cases h
theorem touches_eq {b k : Nat} {c : Cap} {o : AObj} (h : touches b c o k) : k = b := by cases o <;> first | exact h | exact h.2
theorem touches_of_flat {b k : Nat} {c : Cap} {p o : AObj} (hp : p.isFlat = true) (ht : touches b c p k) : touches b c o k := by
  have he := touches_eq ht
  cases o with
  | flat m cs => cases p <;> first | exact ht | simp [AObj.isFlat] at hp
  | flatR m sh rows => cases p <;> first | exact ht | simp [AObj.isFlat] at hp
  | flatN sh rows => cases p <;> first | exact ht | simp [AObj.isFlat] at hp
  | cells a b => exact he
  | vec a b c => exact he
  | ro a b => exact he
  | iter a b => exact he
  | shut a b c => exact he
  | mapS n ks => exact he
  | loopR up n ix cs ps asg body => exact he
  | dead => exact he
theorem mine_live {o : AObj} (h : o.mine = true) : o.live = true := by cases o <;> first | rfl | cases h
def AObj.lent : AObj → AObj
  | .flat _ cs => .flat false cs
  | .flatR _ sh rows => .flatR false sh rows
  | o => o
theorem lent_mine {o : AObj} (h : o.lent.mine = true) : o.owned = true := by cases o <;> first | rfl | cases h
theorem lent_owned {o : AObj} : o.lent.owned = o.owned := by cases o <;> rfl
theorem lent_live {o : AObj} : o.lent.live = o.live := by cases o <;> rfl
theorem lent_touches {b k : Nat} {c : Cap} {o : AObj} : touches b c o.lent k ↔ touches b c o k := by cases o <;> exact Iff.rfl
theorem lent_obj {E : Env} {w : World} {b : Nat} {c : Cap} {o : AObj} (h : ObjR E w b c o) : ObjR E w b c o.lent := by cases o <;> exact h
theorem ObjR.mono {E E' : Env} (h : Env.le E E') {w : World} {b : Nat} {c : Cap} {o : AObj} (k : ObjR E w b c o) : ObjR E' w b c o := by
  cases o with
  | cells cs t => obtain ⟨xs, hx, hw⟩ := k; exact ⟨xs, denC_mono h hx, hw⟩
  | vec cs t sz => obtain ⟨xs, ys, hx, hw, hl⟩ := k; exact ⟨xs, ys, denC_mono h hx, hw, hl⟩
  | ro off cs => obtain ⟨xs, hx, hw, hb⟩ := k; exact ⟨xs, denC_mono h hx, hw, hb⟩
  | flat m cs => obtain ⟨xs, hx, hz, hw⟩ := k; exact ⟨xs, denC_mono h hx, hz, hw⟩
  | flatR m sh rows => exact k
  | flatN sh rows => exact k
  | iter s pos => exact k
  | shut cs t sz => obtain ⟨xs, ys, hx, hw, hl⟩ := k; exact ⟨xs, ys, denC_mono h hx, hw, hl⟩
  | mapS n ks => exact k
  | loopR up n ix cs ps asg body => obtain ⟨xs, r, hx, hw⟩ := k; exact ⟨xs, r, denL_mono h _ _ hx, hw⟩
  | dead => exact k
theorem ObjR.block {E : Env} {w w' : World} {b : Nat} {c : Cap} {o : AObj} (k : ObjR E w b c o) (hb : o.live = true → touches b c o b → w'.heap[b]? = w.heap[b]?) (hn : o.isNest = true → ∀ k, under c k → w'.heap[k]? = w.heap[k]?) : ObjR E w' b c o := by
  cases o with
  | cells cs t => obtain ⟨xs, hx, hw⟩ := k; exact ⟨xs, hx, (hb rfl rfl).trans hw⟩
  | vec cs t sz => obtain ⟨xs, ys, hx, ⟨m, hw, hm⟩, hl⟩ := k; exact ⟨xs, ys, hx, ⟨m, (hb rfl rfl).trans hw, hm⟩, hl⟩
  | ro off cs =>
    obtain ⟨xs, hx, hw, hl⟩ := k
    have hb := hb rfl rfl
    refine ⟨xs, hx, fun i x hi => ?_, ?_⟩
    · rw [← hw i x hi]; simp only [World.cell?, hb]
    · have : w.heap[b]? ≠ none := by simp [hl]
      rw [← hb] at this; simpa using this
  | flat m cs =>
    obtain ⟨xs, hx, hz, hw⟩ := k
    refine ⟨xs, hx, hz, fun h0 => ?_⟩
    obtain ⟨hl, hw⟩ := hw h0
    have hb := hb rfl ⟨h0, rfl⟩
    refine ⟨?_, fun i x hi => ?_⟩
    · have : w.heap[b]? ≠ none := by simp [hl]
      rw [← hb] at this; simpa using this
    · rw [← hw i x hi]; simp only [World.cell?, hb]
  | flatR m sh rows =>
    obtain ⟨hz, hw⟩ := k
    refine ⟨hz, fun h0 => ?_⟩
    obtain ⟨hl, hw⟩ := hw h0
    have hb := hb rfl ⟨h0, rfl⟩
    refine ⟨?_, fun i j v h1 h2 h3 => ?_⟩
    · have : w.heap[b]? ≠ none := by simp [hl]
      rw [← hb] at this; simpa using this
    · rw [← hw i j v h1 h2 h3]; simp only [World.cell?, hb]
  | flatN sh rows =>
    obtain ⟨hu, hz, hw⟩ := k
    have hn := hn rfl
    refine ⟨fun k hk => ?_, hz, fun h0 => ?_⟩
    · have h1 := hu k hk
      have : w.heap[k]? ≠ none := by simp [h1]
      rw [← hn k hk] at this; simpa using this
    · obtain ⟨hl, hw, hkid⟩ := hw h0
      have hb := hb rfl ⟨h0, rfl⟩
      refine ⟨?_, fun i j v h1 h2 h3 => ?_, fun i j k h1 h2 => (hkid i j k h1 h2).block hb hn⟩
      · have : w.heap[b]? ≠ none := by simp [hl]
        rw [← hb] at this; simpa using this
      · rw [← hw i j v h1 h2 h3]; simp only [World.cell?, hb]
  | iter s pos => exact (hb rfl rfl).trans k
  | shut cs t sz => obtain ⟨xs, ys, hx, ⟨m, hw⟩, hl⟩ := k; exact ⟨xs, ys, hx, ⟨m, (hb rfl rfl).trans hw⟩, hl⟩
  | mapS n ks => obtain ⟨h1, es, cl, hw, hl⟩ := k; exact ⟨h1, es, cl, (hb rfl rfl).trans hw, hl⟩
  | loopR up n ix cs ps asg body => obtain ⟨xs, r, hx, hw, hl⟩ := k; exact ⟨xs, r, hx, (hb rfl rfl).trans hw, hl⟩
  | dead => trivial
theorem ObjR.lt {E : Env} {w : World} {b : Nat} {c : Cap} {o : AObj} (k : ObjR E w b c o) (hl : o.live = true) (ht : touches b c o b) : b < w.heap.size := by
  cases o with
  | cells cs t => obtain ⟨xs, hx, hw⟩ := k; exact (Array.getElem?_eq_some_iff.1 hw).1
  | vec cs t sz => obtain ⟨xs, ys, hx, ⟨m, hw, hm⟩, hl⟩ := k; exact (Array.getElem?_eq_some_iff.1 hw).1
  | ro off cs => obtain ⟨xs, hx, hw, hb⟩ := k; exact hb
  | flat m cs => obtain ⟨xs, hx, hz, hw⟩ := k; exact (hw ht.1).1
  | flatR m sh rows => exact (k.2 ht.1).1
  | flatN sh rows => exact (k.2.2 ht.1).1
  | iter s pos => exact (Array.getElem?_eq_some_iff.1 k).1
  | shut cs t sz => obtain ⟨xs, ys, hx, ⟨m, hw⟩, hl⟩ := k; exact (Array.getElem?_eq_some_iff.1 hw).1
  | mapS n ks => obtain ⟨h1, es, cl, hw, hl⟩ := k; exact (Array.getElem?_eq_some_iff.1 hw).1
  | loopR up n ix cs ps asg body => obtain ⟨xs, r, hx, hw, hl⟩ := k; exact (Array.getElem?_eq_some_iff.1 hw).1
  | dead => simp [AObj.live] at hl
theorem ObjR.ltN {E : Env} {w : World} {b : Nat} {c : Cap} {o : AObj} (k : ObjR E w b c o) (h : o.isNest = true) {j : Nat} (hj : under c j) : j < w.heap.size := by
  cases o with
  | flatN sh rows => exact k.1 j hj
  | _ => cases h
structure AState where
  slots : List (Option AV)
  mem : List (Option AObj)
  deriving Inhabited
def gcells (l : List (IntKind × Int)) : List AV := l.map fun p => .int p.1 p.2
def gvals (l : List (IntKind × Int)) : List Value := l.map fun p => .int p.1 p.2
theorem denC_gcells (E : Env) : ∀ l : List (IntKind × Int), denC E (gcells l) (gvals l)
  | [] => ⟨rfl, rfl⟩
  | p :: l => ⟨qxz.2 ⟨_, _, rfl, (denC_gcells E l).1, rfl⟩, (denC_gcells E l).2⟩
def gcellsS (l : List (List UInt8)) : List AV := l.map .str
def gvalsS (l : List (List UInt8)) : List Value := l.map fun s => .string ⟨s.toArray⟩
theorem denC_gcellsS (E : Env) : ∀ l : List (List UInt8), denC E (gcellsS l) (gvalsS l)
  | [] => ⟨rfl, rfl⟩
  | p :: l => ⟨qxz.2 ⟨_, _, rfl, (denC_gcellsS E l).1, rfl⟩, (denC_gcellsS E l).2⟩
def gAll (g : Nat) : Option (List AV × List Value) := match gtab g with
  | some l => some (gcells l, gvals l)
  | none => match gstr g with
    | some l => some (gcellsS l, gvalsS l)
    | none => none
theorem denC_gAll (E : Env) {g : Nat} {p : List AV × List Value} (h : gAll g = some p) : denC E p.1 p.2 := by
  unfold gAll at h
  split at h
  · cases h; exact denC_gcells E _
  · split at h
    · cases h; exact denC_gcellsS E _
    · cases h
def cellsSay (g : Nat) (c : Nat → Option Value) : Prop := (∀ p, gAll g = some p → ∀ (i : Nat) x, p.2[i]? = some x → c i = some x) ∧ (gerr g = true → ∃ t v, c 0 = some (.iface t v)) ∧ (gint g = true → ∃ n, c 0 = some (.int .i64 n))
def gAny (g : Nat) : Bool := (gAll g).isSome || gerr g || gint g
def GlobOK (w : World) (M : Nat → Prop) : Prop := ∀ g, gAny g = true → g < w.heap.size ∧ ¬ M g ∧ cellsSay g fun i => w.cell? ⟨g, i, none⟩
theorem GlobOK.all {w : World} {M : Nat → Prop} (h : GlobOK w M) {g : Nat} {p : List AV × List Value} (hg : gAll g = some p) : g < w.heap.size ∧ ¬ M g ∧ ∀ (i : Nat) x, p.2[i]? = some x → w.cell? ⟨g, i, none⟩ = some x := by
  obtain ⟨h1, h2, h3, _⟩ := h g (by unfold gAny; rw [hg]; rfl)
  exact ⟨h1, h2, h3 p hg⟩
theorem GlobOK.tab {w : World} {M : Nat → Prop} (h : GlobOK w M) {g : Nat} {l : List (IntKind × Int)} (hg : gtab g = some l) : g < w.heap.size ∧ ¬ M g ∧ ∀ (i : Nat) x, (gvals l)[i]? = some x → w.cell? ⟨g, i, none⟩ = some x :=
  h.all (p := (gcells l, gvals l)) (by unfold gAll; rw [hg])
theorem GlobOK.int {w : World} {M : Nat → Prop} (h : GlobOK w M) {g : Nat} (hg : gint g = true) : ∃ n, w.cell? ⟨g, 0, none⟩ = some (.int .i64 n) := by
  obtain ⟨_, _, _, h4⟩ := h g (by unfold gAny; rw [hg, Bool.or_true])
  exact h4.2 hg
def DefOK (lim : Nat) (w : World) (ds : List Deferred) : Prop :=
  (∀ d ∈ ds, ∃ D, d = { target := .collected D, args := #[] } ∧ lim ≤ D ∧ w.heap[D]? = some (.deferred (some []))) ∧ ds.Pairwise fun a b => a.target ≠ b.target
theorem DefOK.nil (lim : Nat) (w : World) : DefOK lim w [] := ⟨fun d h => absurd h List.not_mem_nil, List.Pairwise.nil⟩
theorem DefOK.keep {lim : Nat} {w w' : World} {ds : List Deferred} (h : DefOK lim w ds) (k : ∀ D : Nat, w.heap[D]? = some (.deferred (some [])) → w'.heap[D]? = some (.deferred (some []))) : DefOK lim w' ds :=
  ⟨fun d hd => let ⟨D, e, hl, hh⟩ := h.1 d hd; ⟨D, e, hl, k D hh⟩, h.2⟩
theorem owned_undeferred {E : Env} {w : World} {b : Nat} {c : Cap} {o : AObj} (h : ObjR E w b c o) (ho : o.owned = true) : w.heap[b]? ≠ some (.deferred (some [])) := by
  intro e
  cases o with
  | cells cs t => obtain ⟨xs, hx, hw⟩ := h; rw [hw] at e; cases e
  | vec cs t sz => obtain ⟨xs, ys, hx, ⟨m, hw, _⟩, hl⟩ := h; rw [hw] at e; cases e
  | ro off cs => cases ho
  | flat m cs => cases ho
  | flatR m sh rows => cases ho
  | flatN sh rows => cases ho
  | iter s pos => have h' : w.heap[b]? = some (.stringIter ⟨s.toArray⟩ pos) := h; rw [h'] at e; cases e
  | shut cs t sz => obtain ⟨xs, ys, hx, ⟨m, hw⟩, hl⟩ := h; rw [hw] at e; cases e
  | mapS n ks => obtain ⟨h1, es, cl, hw, hl⟩ := h; rw [hw] at e; cases e
  | loopR up n ix cs ps asg body => obtain ⟨xs, r, hx, hw, hl⟩ := h; rw [hw] at e; cases e
  | dead => cases ho
structure Rel (w0 : World) (M : Nat → Prop) (E : Env) (s : AState) (a : Act) (w : World) : Prop where
  size : a.tmps.size = s.slots.length
  slots : ∀ (t : Nat) (v : AV), s.slots[t]? = some (some v) → ∃ x : Value, a.tmps[t]? = some x ∧ den E v = some x
  defers : DefOK w0.heap.size w a.defers
  fresh : ∀ n : Nat, s.mem[n]? = some none → E n = none
  mem : ∀ (n : Nat) (o : AObj), s.mem[n]? = some (some o) → ∃ b c, E n = some (b, c) ∧ ObjR E w b c o ∧ (o.mine = true → touches b c o b → w0.heap.size ≤ b ∨ M b)
  apart : ∀ (n m : Nat) (o o' : AObj) (b : Nat) (c : Cap) (b' : Nat) (c' : Cap), s.mem[n]? = some (some o) → s.mem[m]? = some (some o') → o.owned = true → o'.live = true → E n = some (b, c) → E m = some (b', c') → n ≠ m → ¬ touches b' c' o' b
  frame : ∀ k : Nat, k < w0.heap.size → ¬ M k → w.heap[k]? = w0.heap[k]?
  grow : w0.heap.size ≤ w.heap.size
  os : w.os = w0.os
  tape : w.tape = w0.tape
  output : w.output = w0.output
  glob : GlobOK w0 M
  nest : ∀ (m b : Nat) (c : Cap) (k : Nat), E m = some (b, c) → under c k → k < w0.heap.size ∧ ¬ M k
def AState.ev (s : AState) : Operand → Option AV
  | .tmp t => (s.slots[t]?).join
  | .const v => ofConst 4 v
  | .global g => some (.gptr g 0)
  | .func f => if Nat.beq f yF then none else some (.func f [] [])
theorem Rel.ev {w0 : World} {M : Nat → Prop} {E : Env} {s : AState} {a : Act} {w : World} (h : Rel w0 M E s a w) {x : Operand} {v : AV} (hv : s.ev x = some v) : den E v = some (a.eval x) := by
  cases x with
  | tmp t =>
    simp only [AState.ev, Option.join_eq_some_iff] at hv
    obtain ⟨y, hy, hd⟩ := h.slots t v hv
    simp only [Act.eval, Array.getD_eq_getD_getElem?, hy, Option.getD_some]; exact hd
  | const c => exact den_ofConst _ _ _ hv
  | global g => simp [AState.ev] at hv; subst hv; simp [den, Act.eval]
  | func f =>
    simp only [AState.ev] at hv
    split at hv
    · cases hv
    · rename_i hf
      cases hv
      have hf : f ≠ yF := fun e => hf (by rw [e]; exact Nat.beq_refl yF)
      simp [den, denL, Act.eval, hf]
theorem Rel.globNow {w0 : World} {M : Nat → Prop} {E : Env} {s : AState} {a : Act} {w : World} (h : Rel w0 M E s a w) : GlobOK w (fun k => ∃ (n : Nat) (o : AObj) (c : Cap), s.mem[n]? = some (some o) ∧ o.owned = true ∧ E n = some (k, c)) := by
  intro g hg
  obtain ⟨h1, h2, h3⟩ := h.glob g hg
  have hf := h.frame g h1 h2
  refine ⟨Nat.lt_of_lt_of_le h1 h.grow, ?_, ?_⟩
  · rintro ⟨n, o, c, hn, ho, hE⟩
    obtain ⟨b, c', hE', _, hm⟩ := h.mem n o hn
    rw [hE] at hE'; cases hE'
    rcases hm (mine_owned ho) (touches_owned ho) with k | k
    · omega
    · exact h2 k
  · have e : (fun i => w.cell? ⟨g, i, none⟩) = fun i => w0.cell? ⟨g, i, none⟩ := by funext i; simp only [World.cell?, hf]
    rw [e]; exact h3
theorem Rel.drew {w0 : World} {M : Nat → Prop} {E : Env} {s : AState} {a : Act} {w : World} (h : Rel w0 M E s a w) (n : Nat) : Rel w0 M E s a { w with drawn := n } :=
  { size := h.size, slots := h.slots, defers := h.defers.keep fun _ e => e, fresh := h.fresh, frame := h.frame, grow := h.grow, os := h.os, tape := h.tape, output := h.output, apart := h.apart, glob := h.glob, nest := h.nest,
    mem := fun n o hn => let ⟨b, c, he, ho, hm⟩ := h.mem n o hn; ⟨b, c, he, ho.block (fun _ _ => rfl) (fun _ _ _ => rfl), hm⟩ }
end Go.Proofs.YtphhepnldndbhaaGreatDoor.Sx
namespace Go.Proofs.YtphhepnldndbhaaGreatDoor.Sx
open Go
structure Upd (b : Nat) (w w' : World) : Prop where
  keep : ∀ k : Nat, k ≠ b → w'.heap[k]? = w.heap[k]?
  size : w'.heap.size = w.heap.size
  os : w'.os = w.os
  tape : w'.tape = w.tape
  output : w'.output = w.output
theorem Upd.refl (b : Nat) (w : World) : Upd b w w := ⟨fun _ _ => rfl, rfl, rfl, rfl, rfl⟩
theorem Upd.trans {b : Nat} {x y z : World} (h : Upd b x y) (k : Upd b y z) : Upd b x z :=
  ⟨fun n hn => (k.keep n hn).trans (h.keep n hn), k.size.trans h.size, k.os.trans h.os, k.tape.trans h.tape, k.output.trans h.output⟩
theorem cell_of_block {w : World} {b : Nat} {cs : Array Value} {t : TypeId} {fr : Nat × Nat} (h : w.heap[b]? = some (.cells cs t fr)) (j : Nat) : w.cell? ⟨b, j, none⟩ = cs[j]? := by
  simp only [World.cell?, h]; rfl
theorem setCell_block {w : World} {b : Nat} {cs : Array Value} {t : TypeId} {m : Nat × Nat} (h : w.heap[b]? = some (.cells cs t m)) (j : Nat) (v : Value) :
    (w.setCell ⟨b, j, none⟩ v).heap[b]? = some (.cells (cs.setIfInBounds j v) t m) ∧ Upd b w (w.setCell ⟨b, j, none⟩ v) := by
  refine ⟨?_, ?_, ?_, rfl, rfl, rfl⟩
  · simp [World.setCell, Array.getElem?_modify, h]
  · intro k hk
    simp only [World.setCell, Array.getElem?_modify]
    rw [if_neg (by omega)]
  · simp [World.setCell]
theorem Addr.add_none (b o n : Nat) : (Addr.mk b o none).add n = ⟨b, o + n, none⟩ := by
  unfold Addr.add; split
  · rename_i h; simp [h]
  · rfl
def over (cs : List Value) (off : Nat) : List Value → List Value
  | [] => cs
  | v :: vs => over (cs.set off v) (off + 1) vs
theorem over_eq : ∀ (vs cs : List Value) (off : Nat), off + vs.length ≤ cs.length → over cs off vs = cs.take off ++ vs ++ cs.drop (off + vs.length)
  | [], cs, off, h => by simp [over]
  | v :: vs, cs, off, h => by
    simp only [List.length_cons] at h
    rw [over, over_eq vs _ _ (by simp; omega)]
    apply List.ext_getElem?
    intro i
    simp only [List.getElem?_append, List.getElem?_take, List.getElem?_drop, List.length_append, List.length_take, List.length_set, List.length_cons, List.getElem?_set]
    have e1 : min (off + 1) cs.length = off + 1 := by omega
    have e2 : min off cs.length = off := by omega
    rw [e1, e2]
    by_cases h1 : i < off
    · simp [show i < off + 1 + vs.length by omega, show i < off + 1 by omega, show i < off + (vs.length + 1) by omega, h1, show off ≠ i by omega]
    · by_cases h2 : i = off
      · subst h2; simp [show i < i + 1 + vs.length by omega, show i < i + (vs.length + 1) by omega, show i < cs.length by omega]
      · by_cases h3 : i < off + 1 + vs.length
        · simp only [h3, show ¬ i < off + 1 by omega, show i < off + (vs.length + 1) by omega, h1, if_true, if_false]
          rw [show i - off = (i - (off + 1)) + 1 by omega, List.getElem?_cons_succ]
        · simp only [h3, show ¬ i < off + (vs.length + 1) by omega, if_false]
          rw [if_neg (by omega)]
          congr 1; omega
theorem run_storeCells {P : Program} {b : Nat} {t : TypeId} {m : Nat × Nat} : ∀ (vs : List Value) (cs : List Value) (off i : Nat) (w : World), w.heap[b]? = some (.cells cs.toArray t m) → okM m cs.length → off + i + vs.length ≤ cs.length → allOne vs = true →
    ∃ w', (storeCells ⟨b, off, none⟩ vs i).run P w = .ok () w' ∧ w'.heap[b]? = some (.cells (over cs (off + i) vs).toArray t m) ∧ Upd b w w'
  | [], cs, off, i, w, h, hm, hl, ho => ⟨w, rfl, h, .refl _ _⟩
  | v :: vs, cs, off, i, w, h, hm, hl, ho => by
    simp only [List.length_cons] at hl
    simp only [allOne, List.all_cons, Bool.and_eq_true] at ho
    obtain ⟨hb, hu⟩ := setCell_block h (off + i) v
    simp only [List.setIfInBounds_toArray] at hb
    obtain ⟨w', hr, hw, hu'⟩ := run_storeCells vs (cs.set (off + i) v) off (i + 1) _ hb (by simpa using hm) (by simp; omega) (by simpa [allOne] using ho.2)
    refine ⟨w', ?_, hw, hu.trans hu'⟩
    have hlt : off + i < cs.length := by omega
    simp only [storeCells, Sem.run_bind, Addr.add_none]
    rw [run_store P w _ v _ ho.1]
    have hc : w.cell? ⟨b, off + i, none⟩ = some cs[off + i] := by rw [cell_of_block h]; simp [hlt]
    have hf : w.frozen? ⟨b, off + i, none⟩ = false := by
      obtain ⟨m1, m2⟩ := m
      rcases hm with e | e
      · cases e; simp [World.frozen?, h]
      · simp only [World.frozen?, h, Bool.and_eq_false_imp, decide_eq_true_eq, decide_eq_false_iff_not]; intro h1; simp only at e; omega
    rw [hc]; simp only [hf, Bool.false_eq_true, if_false, Result.andThen_ok]
    exact hr
theorem run_loadCells_window {P : Program} {w : World} {b off : Nat} (xs : List Value) (h : ∀ (i : Nat) x, xs[i]? = some x → w.cell? ⟨b, off + i, none⟩ = some x) :
    (loadCells ⟨b, off, none⟩ xs.length).run P w = .ok xs.toArray w :=
  run_loadCells_list w _ xs fun j v hv => by rw [Addr.add_none]; exact h j v hv
def AObj.known : AObj → Option (Nat × List AV)
  | .cells cs _ => some (0, cs)
  | .vec cs _ _ => some (0, cs)
  | .ro off cs => some (off, cs)
  | .flat _ _ => none
  | .flatR _ _ _ => none
  | .flatN _ _ => none
  | .iter _ _ => none
  | .shut cs _ _ => some (0, cs)
  | .mapS _ _ => none
  | .loopR _ _ _ _ _ _ _ => none
  | .dead => none
theorem ObjR.window {E : Env} {w : World} {b : Nat} {c : Cap} {o : AObj} (h : ObjR E w b c o) {off : Nat} {cs : List AV} (k : o.known = some (off, cs)) :
    ∃ xs, denC E cs xs ∧ ∀ (i : Nat) x, xs[i]? = some x → w.cell? ⟨b, off + i, none⟩ = some x := by
  cases o with
  | cells cs' t =>
    simp only [AObj.known, Option.some.injEq, Prod.mk.injEq] at k; obtain ⟨rfl, rfl⟩ := k
    obtain ⟨xs, hx, hw⟩ := h
    exact ⟨xs, hx, fun i x hi => by rw [Nat.zero_add, cell_of_block hw]; simpa using hi⟩
  | vec cs' t sz =>
    simp only [AObj.known, Option.some.injEq, Prod.mk.injEq] at k; obtain ⟨rfl, rfl⟩ := k
    obtain ⟨xs, ys, hx, ⟨m, hw, hm⟩, hl⟩ := h
    refine ⟨xs, hx, fun i x hi => ?_⟩
    rw [Nat.zero_add, cell_of_block hw]
    have hlt := (List.getElem?_eq_some_iff.1 hi).1
    simp only [List.getElem?_toArray, List.getElem?_append_left hlt, hi]
  | ro off' cs' =>
    simp only [AObj.known, Option.some.injEq, Prod.mk.injEq] at k; obtain ⟨rfl, rfl⟩ := k
    obtain ⟨xs, hx, hw, hl⟩ := h
    exact ⟨xs, hx, hw⟩
  | flat m cs => simp [AObj.known] at k
  | flatR m sh rows => simp [AObj.known] at k
  | flatN sh rows => simp [AObj.known] at k
  | iter s p => simp [AObj.known] at k
  | shut cs' t sz =>
    simp only [AObj.known, Option.some.injEq, Prod.mk.injEq] at k; obtain ⟨rfl, rfl⟩ := k
    obtain ⟨xs, ys, hx, ⟨m, hw⟩, hl⟩ := h
    refine ⟨xs, hx, fun i x hi => ?_⟩
    rw [Nat.zero_add, cell_of_block hw]
    have hlt := (List.getElem?_eq_some_iff.1 hi).1
    simp only [List.getElem?_toArray, List.getElem?_append_left hlt, hi]
  | mapS n ks => simp [AObj.known] at k
  | loopR up n ix cs ps asg body => simp [AObj.known] at k
  | dead => simp [AObj.known] at k
end Go.Proofs.YtphhepnldndbhaaGreatDoor.Sx
namespace Go.Proofs.YtphhepnldndbhaaGreatDoor.Sx
open Go
def AllP : List Prop → Prop
  | [] => True
  | p :: ps => p ∧ AllP ps
theorem qzu {a b : List Prop} : AllP (a ++ b) ↔ AllP a ∧ AllP b := by
  induction a with
  | nil => simp [AllP]
  | cons p ps ih => simp [AllP, ih, and_assoc]
structure CallH where
  ren : List Nat
  args : List AV
  pre : List AObj
  res : AV
  post : List AObj
structure Hint where
  nm : List Nat := []
  val : Option AV := none
  obj : Option (List AObj) := none
  skip : Bool := false
  call : Option CallH := none
  view : Nat := 0
structure Foot where
  rd : List Nat
  ws : List Nat
  al : List Nat
def Foot.wr (F : Foot) : Bool := !F.ws.isEmpty
structure Res where
  obl : List Prop
  val : AV
  upd : List AObj
  new : List AObj
def Foot.no : Foot := ⟨[], [], []⟩
def fin (h : Hint) (obl : List Prop) (v : AV) : Res :=
  match h.val with
  | some v' => ⟨obl ++ [v = v'], v', [], []⟩
  | none => ⟨obl, v, [], []⟩
theorem fin_spec {h : Hint} {obl : List Prop} {v : AV} (k : AllP (fin h obl v).obl) : AllP obl ∧ (fin h obl v).val = v ∧ (fin h obl v).upd = [] ∧ (fin h obl v).new = [] := by
  unfold fin at k ⊢
  split
  · rename_i v' hv
    rw [hv] at k
    have := (qzu.1 k)
    exact ⟨this.1, this.2.1.symm, rfl, rfl⟩
  · rename_i hv; rw [hv] at k; exact ⟨k, rfl, rfl, rfl⟩
def intBin (op : BinOp) (k : IntKind) (x y : Int) : Option (List Prop × AV) :=
  match op with
  | .add => some ([], .int k (k.wrap (x + y)))
  | .sub => some ([], .int k (k.wrap (x - y)))
  | .mul => some ([], .int k (k.wrap (x * y)))
  | .quo => some ([y ≠ 0], .int k (k.wrap (x.tdiv y)))
  | .rem => some ([y ≠ 0], .int k (x.tmod y))
  | .and => some ([], .int k (k.wrap (BitVec.ofInt k.bits x &&& BitVec.ofInt k.bits y).toNat))
  | .or => some ([], .int k (k.wrap (BitVec.ofInt k.bits x ||| BitVec.ofInt k.bits y).toNat))
  | .xor => some ([], .int k (k.wrap (BitVec.ofInt k.bits x ^^^ BitVec.ofInt k.bits y).toNat))
  | .andNot => some ([], .int k (k.wrap (BitVec.ofInt k.bits x &&& ~~~ BitVec.ofInt k.bits y).toNat))
  | .eql => some ([], .bool (x == y))
  | .neq => some ([], .bool (x != y))
  | .lss => some ([], .bool (decide (x < y)))
  | .leq => some ([], .bool (decide (x ≤ y)))
  | .gtr => some ([], .bool (decide (x > y)))
  | .geq => some ([], .bool (decide (x ≥ y)))
  | _ => none
def strBin (op : BinOp) (x y : List UInt8) : Option (List Prop × AV) :=
  match op with
  | .add => some ([x.length + y.length ≤ 9223372036854775807], .str (x ++ y))
  | .eql => some ([], .bool (x == y))
  | .neq => some ([], .bool (!(x == y)))
  | .lss => some ([], .bool (Op.bytesLess x y))
  | .leq => some ([], .bool (Op.bytesLess x y || x == y))
  | .gtr => some ([], .bool (!(Op.bytesLess x y || x == y)))
  | .geq => some ([], .bool (!Op.bytesLess x y))
  | _ => none
def isAggD : TypeDesc → Bool
  | .struct _ | .array _ _ => true
  | _ => false
def partA (P : Program) (t : TypeId) (cs : List AV) (off : Nat) : Option AV :=
  match P.underlying t with
  | some d => if isAggD d then some (.agg ((cs.drop off).take (P.cellsOf t))) else cs[off]?
  | none => none
def unInts (k : IntKind) : List AV → Option (List Int)
  | [] => some []
  | .int k' n :: r => if k' = k then (unInts k r).map (n :: ·) else none
  | _ :: _ => none
def aeqInts (P : Program) (d n : Nat) (e : TypeId) (xs ys : List AV) : Option Bool :=
  match P.underlying e with
  | some (.int k) => match unInts k xs, unInts k ys with
    | some a, some b => if P.cellsOf e = 1 ∧ a.length = n ∧ b.length = n ∧ 1 ≤ d then some (a == b) else none
    | _, _ => none
  | _ => none
mutual
def aeq (P : Program) : Nat → TypeId → AV → AV → Option Bool
  | 0, _, _, _ => none
  | d + 1, t, x, y =>
    match P.underlying t, x, y with
    | some .bool, .bool a, .bool b => some (a == b)
    | some (.int _), .int k a, .int k' b => if k = k' then some (a == b) else none
    | some .string, .str a, .str b => some (a == b)
    | some (.struct fs), .agg xs, .agg ys => if P.stoodInHeld t then none else aeqFields P d xs ys fs.toList
    | some (.array n e), .agg xs, .agg ys => aeqInts P d n e xs ys
    | _, _, _ => none
def aeqFields (P : Program) : Nat → List AV → List AV → List Field → Option Bool
  | 0, _, _, _ => none
  | _ + 1, _, _, [] => some true
  | d + 1, xs, ys, f :: fs =>
    if f.name ≠ "_" then
      match partA P f.type xs f.offset, partA P f.type ys f.offset with
      | some a, some b =>
        match aeq P d f.type a b, aeqFields P d xs ys fs with
        | some r, some s => some (r && s)
        | _, _ => none
      | _, _ => none
    else aeqFields P d xs ys fs
end
def ptrEq : AV → AV → Option Bool
  | .nilptr, .nilptr => some true
  | .ptr _ _, .nilptr => some false
  | .nilptr, .ptr _ _ => some false
  | .ptr n o, .ptr m q => if n = m ∧ o = q then some true else none
  | _, _ => none
def binA (P : Program) (op : BinOp) (xType : TypeId) (x y : AV) : Option (List Prop × AV) :=
  match op, x, y with
  | .shl, .int k a, .int _ b => some ([0 ≤ b], .int k (k.wrap (a * 2 ^ (min b.toNat k.bits))))
  | .shr, .int k a, .int _ b => some ([0 ≤ b], .int k (a.fdiv (2 ^ (min b.toNat k.bits))))
  | _, .int k a, .int k' b => if k = k' then intBin op k a b else none
  | _, .str a, .str b => strBin op a b
  | .eql, .bool a, .bool b => match P.underlying xType with | some .bool => some ([], .bool (a == b)) | _ => none
  | .neq, .bool a, .bool b => match P.underlying xType with | some .bool => some ([], .bool (!(a == b))) | _ => none
  | .eql, .agg a, .agg b => if P.eqGuardType P.depth xType then none else (aeq P 100 xType (.agg a) (.agg b)).map fun r => ([], .bool r)
  | .neq, .agg a, .agg b => if P.eqGuardType P.depth xType then none else (aeq P 100 xType (.agg a) (.agg b)).map fun r => ([], .bool (!r))
  | .eql, x, y => match P.underlying xType with | some (.pointer te) => if (P.info? te).isSome then (ptrEq x y).map fun r => ([], .bool r) else none | _ => none
  | .neq, x, y => match P.underlying xType with | some (.pointer te) => if (P.info? te).isSome then (ptrEq x y).map fun r => ([], .bool (!r)) else none | _ => none
  | _, _, _ => none
def unA (op : UnOp) (x : AV) : Option (List Prop × AV) :=
  match op, x with
  | .neg, .int k n => some ([], .int k (k.wrap (0 - n)))
  | .xor, .int k n => some ([], .int k (k.wrap (BitVec.ofInt k.bits (if k.signed then -1 else k.max) ^^^ BitVec.ofInt k.bits n).toNat))
  | .not, .bool b => some ([], .bool (!b))
  | _, _ => none
def u8s (s : List UInt8) : List AV := s.map fun b => .int .u8 b.toNat
def encL (n : Int) : List UInt8 := (Utf8.encode n).data.toList
def convA (P : Program) (src dst : TypeId) (x : AV) : Option (List Prop × AV) :=
  match P.underlying src, P.underlying dst, x with
  | some _, some (.int k), .int _ n => some ([], .int k (k.wrap n))
  | some _, some .string, .str s => some ([], .str s)
  | some _, some .string, .int _ n => some ([], .str (encL n))
  | _, _, _ => none
def fillA (place : Nat → Option (Nat × Nat)) (cells : List AV) : List (Nat × AV) → Option (List Prop × List AV)
  | [] => some ([], cells)
  | (i, v) :: rest =>
    match place i with
    | none => none
    | some (off, size) =>
      match fillA place (cells.take off ++ v.cells ++ cells.drop (off + size)) rest with
      | some (o, c) => some ((v.cells.length = size) :: (off + size ≤ cells.length) :: o, c)
      | none => none
def zeroA (P : Program) (t : TypeId) : Option AV := ((P.info? t).bind (·.zero)).bind (ofConst 4)
def AV.notTuple : AV → Bool
  | .tuple _ => false
  | .bad => false
  | _ => true
def partsA : List (Nat × Operand) → List AV → List (Nat × AV)
  | (i, _) :: ps, v :: vs => (i, v) :: partsA ps vs
  | _, _ => []
def buildA (P : Program) (t : TypeId) (parts : List (Nat × AV)) : Option (List Prop × List AV) :=
  match P.underlying t, zeroA P t with
  | some (.struct fs), some z =>
    if z.notTuple && parts.all (fun p => p.2.notTuple) && fs.all (fun f => (P.info? f.type).isSome) then fillA (fun i => (fs[i]?).map fun f => (f.offset, P.cellsOf f.type)) z.cells parts else none
  | some (.array _ e), some z =>
    if z.notTuple && parts.all (fun p => p.2.notTuple) && (P.info? e).isSome then fillA (fun i => some (i * P.cellsOf e, P.cellsOf e)) z.cells parts else none
  | _, _ => none
def loadA (P : Program) (h : Hint) (t : TypeId) (off : Nat) (o : AObj) : Option Res :=
  match o.known, P.underlying t with
  | some (o0, cs), some d =>
    if isAggD d then
      match h.val with
      | some (.agg l) => some ⟨[o0 ≤ off, off - o0 + P.cellsOf t ≤ cs.length, (cs.drop (off - o0)).take (P.cellsOf t) = l], .agg l, [o], []⟩
      | some _ => none
      | none => some ⟨[o0 ≤ off, off - o0 + P.cellsOf t ≤ cs.length], .agg ((cs.drop (off - o0)).take (P.cellsOf t)), [o], []⟩
    else
      match h.val with
      | some v => some ⟨[o0 ≤ off, cs[off - o0]? = some v], v, [o], []⟩
      | none => match cs[off - o0]? with
        | some v => some ⟨[o0 ≤ off], v, [o], []⟩
        | none => none
  | _, _ => none
def AObj.knownD : AObj → Option (List AV)
  | .flat _ cs => some cs
  | .vec cs _ _ => some cs
  | _ => none
def loadD (P : Program) (h : Hint) (t : TypeId) (off : Nat) (o : AObj) (cs : List AV) : Option Res :=
  match P.underlying t, h.val with
  | some d, some v =>
    if isAggD d then
      match v with
      | .agg l => some ⟨[off + P.cellsOf t ≤ cs.length, (cs.drop off).take (P.cellsOf t) = l], .agg l, [o], []⟩
      | _ => none
    else some ⟨[cs[off]? = some v], v, [o], []⟩
  | _, _ => none
def AObj.setCells (cs : List AV) : AObj → Option AObj
  | .cells _ t => some (.cells cs t)
  | .vec _ t sz => some (.vec cs t sz)
  | _ => none
def storeA (P : Program) (h : Hint) (t : TypeId) (off : Nat) (v : AV) (o : AObj) : Option Res :=
  if !v.notTuple || (P.info? t).isNone then none else
  match o.known with
  | some (_, cs) =>
    let n := P.cellsOf t
    match h.obj with
    | some [o'] =>
      match o.setCells (cs.take off ++ v.cells ++ cs.drop (off + n)) with
      | some o1 => some ⟨[v.cells.length = n, off + n ≤ cs.length, o1 = o'], .tuple [], [o'], []⟩
      | none => none
    | _ =>
      match o.setCells (cs.take off ++ v.cells ++ cs.drop (off + n)) with
      | some o1 => some ⟨[v.cells.length = n, off + n ≤ cs.length], .tuple [], [o1], []⟩
      | none => none
  | none => none
def newA (h : Hint) (obl : List Prop) (v : AV) (o : AObj) : Res :=
  match h.obj with
  | some [o'] => ⟨obl ++ [o = o'], v, [], [o']⟩
  | _ => ⟨obl, v, [], [o]⟩
end Go.Proofs.YtphhepnldndbhaaGreatDoor.Sx
namespace Go.Proofs.YtphhepnldndbhaaGreatDoor.Sx
open Go
def AV.name : AV → List Nat
  | .ptr nm _ => [nm]
  | .slice nm _ _ _ => [nm]
  | .vec nm _ => [nm]
  | .dsl nm _ => [nm]
  | .dptr nm _ => [nm]
  | .rptr nm _ _ _ => [nm]
  | .vsl nm _ _ _ => [nm]
  | _ => []
def AV.isDsl : AV → Bool
  | .dsl _ _ => true
  | _ => false
def AV.isVec : AV → Bool
  | .vec _ _ => true
  | _ => false
def isIntD : TypeDesc → Bool
  | .int _ => true
  | _ => false
def footV (h : Hint) (v : AV) : Foot :=
  match h.view, v with
  | 1, _ => ⟨[], [], h.nm⟩
  | 2, .vec nm _ => ⟨[nm], [nm], []⟩
  | _, _ => .no
def moveA (h : Hint) (v : AV) (cs : List AObj) : Option Res :=
  match h.view with
  | 0 => some (fin h [] v)
  | 1 => match v, h.nm with
    | .qzz, [k] => some ⟨[], .dsl k 0, [], [.flat true []]⟩
    | _, _ => none
  | 2 => match v, cs with
    | .vec nm len, [.vec c _ _] => some ⟨[], .dsl nm len, [.flat true c], []⟩
    | _, _ => none
  | _ => none
def keyFs (P : Program) : Nat → List Field → Bool
  | _, [] => true
  | i, f :: fs => (f.name != "_") && Nat.beq f.offset i && (match P.underlying f.type with | some (.int .i64) => true | _ => false) && keyFs P (i + 1) fs
def keyN (P : Program) (t : TypeId) : Option Nat :=
  match P.underlying t with
  | some (.struct fs) => if !P.stoodInHeld t && keyFs P 0 fs.toList then some fs.toList.length else none
  | _ => none
def setN (P : Program) (t : TypeId) : Option Nat :=
  match P.underlying t with
  | some (.map k e) => match zeroA P e with
    | some (.bool false) => keyN P k
    | _ => none
  | _ => none
def memK (ks : List (List Int)) (k : List Int) : Bool := ks.any fun x => k == x
def addK (ks : List (List Int)) (k : List Int) : List (List Int) := cond (memK ks k) ks (ks ++ [k])
def foot (h : Hint) (op : Op) (vals : List AV) : Option Foot :=
  match op, vals with
  | .alloc _, [] => some ⟨[], [], h.nm⟩
  | .box _ _, [_] => some ⟨[], [], h.nm⟩
  | .buildSlice _ _ _, _ => some ⟨[], [], h.nm⟩
  | .makeSlice _ _ _, [_, _] => some ⟨[], [], h.nm⟩
  | .load _ _, [.ptr nm _] => some ⟨[nm], [], []⟩
  | .load _ _, [.dptr nm _] => some ⟨[nm], [], []⟩
  | .load _ _, [.rptr nm _ _ _] => if h.view = 6 then some ⟨[nm], [], h.nm⟩ else some ⟨[nm], [], []⟩
  | .store _ _ _, [.ptr nm _, _] => some ⟨[nm], [nm], []⟩
  | .store _ _ _, [.rptr nm _ _ _, _] => some ⟨[nm], [nm], []⟩
  | .slice _ _ _ _ _, .vec nm _ :: _ => some ⟨[nm], [], []⟩
  | .range _ _, [_] => some ⟨[], [], h.nm⟩
  | .makeMap _ none, [] => some ⟨[], [], h.nm⟩
  | .lookup _ _ _ _, [.mapp nm, _] => some ⟨[nm], [], []⟩
  | .mapUpdate _ _ _ _, [.mapp nm, _, _] => some ⟨[nm], [nm], []⟩
  | .move _, [v] => some (footV h v)
  | .assign _, [v] => some (footV h v)
  | .next _ _, [.ptr nm _] => some ⟨[nm], [nm], []⟩
  | .convert _ _ _, [.str _] => some ⟨[], [], h.nm⟩
  | .convert _ _ _, [v] => some ⟨v.name, [], []⟩
  | .call c, vals =>
    match c.callee, vals with
    | .builtin .append, [s, x] => some ⟨s.name ++ x.name, if s.isVec then s.name else [], h.nm⟩
    | .builtin .clear, [x] => some ⟨x.name, x.name, []⟩
    | .builtin .unsafeSliceData, [x] => some ⟨x.name, [], []⟩
    | .builtin .unsafeString, [x, _] => some ⟨x.name, x.name, []⟩
    | .builtin .copy, [s, x] => some ⟨s.name ++ x.name, s.name, []⟩
    | .builtin _, _ => some .no
    | .value _, _ =>
      match h.call with
      | some k => some ⟨k.ren.take k.pre.length, ((k.ren.zip k.pre).filter fun p => p.2.owned).map (·.1), k.ren.drop k.pre.length⟩
      | none => none
    | _, _ => none
  | _, _ => some .no
def lookS (P : Program) (t : TypeId) (cs' : List AV) (cs : List AObj) : Option Res :=
  match setN P t, unInts .i64 cs', cs with
    | some n, some k, [.mapS m ks] => if Nat.beq n m && Nat.beq k.length n then some ⟨[], .bool (memK ks k), [.mapS m ks], []⟩ else none
    | _, _, _ => none
def updS (P : Program) (t : TypeId) (cs' : List AV) (cs : List AObj) : Option Res :=
  match setN P t, unInts .i64 cs', cs with
    | some n, some k, [.mapS m ks] => if Nat.beq n m && Nat.beq k.length n then some ⟨[], .tuple [], [.mapS m (addK ks k)], []⟩ else none
    | _, _, _ => none
def boundA (d : Nat) : Option Operand → List AV → Option (List Prop × Nat × List AV)
  | none, vs => some ([], d, vs)
  | some _, .int _ i :: vs => some ([0 ≤ i], i.toNat, vs)
  | some _, _ => none
def boundsA (len cap : Nat) (lo hi mx : Option Operand) (vs : List AV) : Option (List Prop × Nat × Nat × Nat) :=
  match boundA 0 lo vs with
  | some (o1, l, vs) =>
    match boundA len hi vs with
    | some (o2, h, vs) =>
      match boundA cap mx vs with
      | some (o3, m, []) => some (o1 ++ o2 ++ o3 ++ [l ≤ h, h ≤ m, m ≤ cap], l, h, m)
      | _ => none
    | none => none
  | none => none
def rowN (sh : List CK) (r : List CV) (j n : Nat) : List AV := (List.range n).map fun q => cellA (sh.getD (j + q) .any) (rowCV r (j + q))
def aggT (P : Program) (t : TypeId) : Bool := match P.underlying t with | some d => isAggD d | none => false
def loadR (P : Program) (t : TypeId) (w i j : Nat) (sh : List CK) (rows : List (List CV)) : Option Res :=
  if aggT P t then
    if (List.range (P.cellsOf t)).all fun q => (cellV (sh.getD (j + q) .any) (rowCV (rowAt rows i) (j + q))).isSome then
      some ⟨[i < rows.length, w = sh.length, j + P.cellsOf t ≤ sh.length], .agg (rowN sh (rowAt rows i) j (P.cellsOf t)), [.flatR false sh rows], []⟩
    else none
  else match P.underlying t, sh[j]? with
  | some d, some k =>
    match cellV k (rowCV (rowAt rows i) j) with
    | some _ => if isAggD d then none else some ⟨[i < rows.length, w = sh.length], cellA k (rowCV (rowAt rows i) j), [.flatR false sh rows], []⟩
    | none => none
  | _, _ => none
def slOf : List CK → Option Nat
  | [] => none
  | .sl [.int .i64] :: _ => some 0
  | _ :: sh => (slOf sh).map (· + 1)
def cellN (nm : Nat) (k : CK) (c : CV) : AV :=
  match k with
  | .sl _ => .dsl nm (kidsOf c).length
  | k => cellA k c
def loadN (P : Program) (t : TypeId) (w i : Nat) (sh : List CK) (rows : List (List CV)) (nm : Nat) : Option Res :=
  match P.underlying t, slOf sh with
  | some d, some q =>
    if isAggD d && ((List.range sh.length).all fun j => Nat.beq j q || (cellV (sh.getD j .any) (rowCV (rowAt rows i) j)).isSome) then
      some ⟨[i < rows.length, w = sh.length, P.cellsOf t = sh.length], .agg ((List.range sh.length).map fun j => cellN nm (sh.getD j .any) (rowCV (rowAt rows i) j)), [.flatN sh rows], [.flat false ((kidsOf (rowCV (rowAt rows i) q)).map (AV.int .i64))]⟩
    else none
  | _, _ => none
def elemsA (sz : Nat) (x : AV) (cs : List AObj) : Option (List Prop × Nat × List AV) :=
  match x, cs with
  | .qzz, [] => some ([], 0, [])
  | .str s, [] => some ([sz = 1], s.length, u8s s)
  | .slice _ off len _, [o] =>
    match o.known with
    | some (o0, c) => some ([o0 ≤ off, off - o0 + len * sz ≤ c.length], len, (c.drop (off - o0)).take (len * sz))
    | none => none
  | .vec _ len, [o] =>
    match o.known with
    | some (o0, c) => some ([o0 = 0, len * sz ≤ c.length], len, c.take (len * sz))
    | none => none
  | .dsl _ len, [o] =>
    match o.knownD with
    | some c => some ([len * sz ≤ c.length], len, c.take (len * sz))
    | none => none
  | .vsl _ w off len, [o] =>
    match o with
    | .vec c _ _ => some ([w = sz, off * sz + len * sz ≤ c.length], len, (c.drop (off * sz)).take (len * sz))
    | _ => none
  | _, _ => none
def grow (h : Hint) (obl : List Prop) (v : AV) (upd : List AObj) (o : AObj) : Res :=
  match h.obj with
  | some [o'] => ⟨obl ++ [o = o'], v, upd, [o']⟩
  | _ => ⟨obl, v, upd, [o]⟩
def EqR (P : Program) (t : TypeId) (x y : AV) (r : Bool) : Prop := ∀ (E : Env) (w : World) (a b : Value), den E x = some a → den E y = some b → (Op.equalIn 10000 t a b).run P w = .ok r w
def eqA (P : Program) (h : Hint) (op : BinOp) (t : TypeId) (x y : AV) : Option Res :=
  if P.eqGuardType P.depth t then none else
  match op, x, y, h.val with
  | .eql, .agg a, .agg b, some (.bool r) => some ⟨[EqR P t (.agg a) (.agg b) r], .bool r, [], []⟩
  | .neq, .agg a, .agg b, some (.bool r) => some ⟨[EqR P t (.agg a) (.agg b) r], .bool (!r), [], []⟩
  | _, _, _, _ => none
def isC : Operand → Bool
  | .const _ => true
  | _ => false
def nilEq (P : Program) (t : TypeId) (c : Bool) (x y : AV) : Option Bool :=
  match P.underlying t, x, y with
  | some (.interface _), .niliface, .niliface => if c then some true else none
  | some (.interface _), .niliface, .iface _ _ => some false
  | some (.interface _), .iface _ _, .niliface => some false
  | some (.slice _), .qzz, .qzz => some true
  | some (.slice _), .vec _ _, .qzz => some false
  | some (.slice _), .slice _ _ _ _, .qzz => some false
  | some (.func _ _ _), .nilfunc, .nilfunc => some true
  | some (.func _ _ _), .func _ _ _, .nilfunc => some false
  | _, _, _ => none
def overA (h : Hint) (ob : List Prop) (off : Nat) (vc : List AV) (v : AV) (o : AObj) : Option Res :=
  match o.known with
  | some (_, cs) =>
    match o.setCells (cs.take off ++ vc ++ cs.drop (off + vc.length)) with
    | some o1 =>
      match h.obj with
      | some [o'] => some ⟨ob ++ [off + vc.length ≤ cs.length, o1 = o'], v, [o'], []⟩
      | _ => some ⟨ob ++ [off + vc.length ≤ cs.length], v, [o1], []⟩
    | none => none
  | none => none
def sliceDataA (vs : List AV) (cs : List AObj) : Option Res :=
  match vs, cs with
  | [.qzz], [] => some ⟨[], .nilptr, [], []⟩
  | [.vec nm _], [.vec c t sz] => some ⟨[0 < c.length], .ptr nm 0, [.vec c t sz], []⟩
  | [.vec nm _], [.shut c t sz] => some ⟨[0 < c.length], .ptr nm 0, [.shut c t sz], []⟩
  | _, _ => none
def unsafeStrA (P : Program) (h : Hint) (c : Call) (vs : List AV) (cs : List AObj) : Option Res :=
  match vs, cs, c.argTypes.toList with
  | [.nilptr, .int .i64 n], [], [_, _] => some ⟨[n = 0], .str [], [], []⟩
  | [.ptr _ 0, .int .i64 n], [.vec cs t sz], [pt, _] =>
    match P.underlying pt with
    | some (.pointer e) =>
      if e = t ∧ P.cellsOf t = 1 then
        match h.val with
        | some (.str s) => some ⟨[cs = u8s s, n = s.length, s ≠ [], s.length < 9223372036854775808], .str s, [.shut (u8s s) t sz], []⟩
        | _ => none
      else none
    | _ => none
  | [.ptr _ 0, .int .i64 n], [.shut cs t sz], [pt, _] =>
    match P.underlying pt with
    | some (.pointer e) =>
      if e = t ∧ P.cellsOf t = 1 then
        match h.val with
        | some (.str s) => some ⟨[cs = u8s s, n = s.length, s ≠ [], s.length < 9223372036854775808], .str s, [.shut (u8s s) t sz], []⟩
        | _ => none
      else none
    | _ => none
  | _, _, _ => none
def clearA (P : Program) (h : Hint) (c : Call) (x : AV) (cs : List AObj) : Option Res :=
  match (c.argTypes[0]?).bind P.underlying with
  | some (.slice e) =>
    match zeroA P e with
    | some z =>
      if !z.notTuple then none else
      match x, cs with
      | .qzz, [] => some ⟨[], .tuple [], [], []⟩
      | .slice _ off len _, [o] => overA h [] off (List.replicate len z.cells).flatten (.tuple []) o
      | .vec _ len, [o] => overA h [] 0 (List.replicate len z.cells).flatten (.tuple []) o
      | _, _ => none
    | none => none
  | _ => none
def appendA (P : Program) (h : Hint) (c : Call) (s x : AV) (cs : List AObj) : Option Res :=
  match (c.argTypes[0]?).bind P.underlying, (c.argTypes[1]?).bind P.underlying, h.nm with
  | some (.slice e), some tx, [k] =>
    if isIntD tx then none else
    match P.info? e, zeroA P e with
    | some ie, some z =>
      if !(z.notTuple && z.cells.length == ie.size && 0 < ie.size) then none else
      match s, cs with
      | .qzz, cx =>
        match elemsA ie.size x cx with
        | some (ob, n, new) => some (grow h (ob ++ [0 < n, 2 * n * ie.bytes ≤ 281474976710656, 2 * n < 9223372036854775808]) (.vec k n) cx (.vec new e ie.size))
        | none => none
      | .vec _ len, .vec old te sz :: cx => if te != e then none else
        if sz == ie.size then
          match elemsA ie.size x cx with
          | some (ob, n, new) => some (grow h (ob ++ [old.length = len * ie.size, 2 * (len + n) * ie.bytes ≤ 281474976710656, 2 * (len + n) < 9223372036854775808]) (.vec k (len + n)) (.dead :: cx) (.vec (old ++ new) te ie.size))
          | none => none
        else none
      | .slice _ off len cap, o :: cx =>
        match o.known, elemsA ie.size x cx with
        | some (o0, oc), some (ob, n, new) => some (grow h (ob ++ [o0 ≤ off, off - o0 + len * ie.size ≤ oc.length, len = cap, 0 < n, 2 * (len + n) * ie.bytes ≤ 281474976710656, 2 * (len + n) < 9223372036854775808]) (.vec k (len + n)) (o :: cx) (.vec ((oc.drop (off - o0)).take (len * ie.size) ++ new) e ie.size))
        | _, _ => none
      | _, _ => none
    | _, _ => none
  | some (.slice e), some tx, [] =>
    if isIntD tx then none else
    match P.info? e, s, cs with
    | some ie, .qzz, cs =>
      match elemsA ie.size x cs with
      | some (ob, n, _) => some ⟨ob ++ [n = 0], .qzz, cs, []⟩
      | none => none
    | some ie, .slice nm off len cap, o :: cx =>
      match elemsA ie.size x cx with
      | some (ob, n, _) => some ⟨ob ++ [n = 0, len ≤ cap], .slice nm off len cap, o :: cx, []⟩
      | none => none
    | _, _, _ => none
  | _, _, _ => none
def copyA (P : Program) (h : Hint) (e : TypeId) (s x : AV) (cs : List AObj) : Option Res :=
  match P.info? e, s, cs with
  | some ie, .slice _ off len _, o :: cx =>
    match o.known, elemsA ie.size x cx with
    | some (_, oc), some (ob, n, c) =>
      match o.setCells (oc.take off ++ c ++ oc.drop (off + c.length)) with
      | some o1 => match h.obj with
        | some [o'] => some ⟨ob ++ [n ≤ len, off + c.length ≤ oc.length, o1 = o'], .int .i64 n, o' :: cx, []⟩
        | _ => some ⟨ob ++ [n ≤ len, off + c.length ≤ oc.length], .int .i64 n, o1 :: cx, []⟩
      | none => none
    | _, _ => none
  | _, _, _ => none
def sealR (h : Hint) (r : Res) : Res :=
  if h.view = 4 then
    match r.val, r.new with
    | .vec k n, [.vec c _ _] => ⟨r.obl, .dsl k n, r.upd, [.flat true c]⟩
    | _, _ => r
  else r
def lenA (P : Program) (t : TypeId) (x : AV) : Option AV :=
  match P.underlying t, x with
  | some .string, .str s => some (.int .i64 s.length)
  | some (.array n _), _ => some (.int .i64 n)
  | some (.slice _), .slice _ _ n _ => some (.int .i64 n)
  | some (.slice _), .vec _ n => some (.int .i64 n)
  | some (.slice _), .qzz => some (.int .i64 0)
  | some (.slice _), .dsl _ n => some (.int .i64 n)
  | some (.slice _), .vsl _ _ _ n => some (.int .i64 n)
  | _, _ => none
def capA (P : Program) (t : TypeId) (x : AV) : Option AV :=
  match P.underlying t, x with
  | some (.slice _), .slice _ _ _ n => some (.int .i64 n)
  | some (.slice _), .qzz => some (.int .i64 0)
  | _, _ => none
def AV.isSlice : AV → Bool
  | .qzz => true
  | .slice _ _ _ _ => true
  | .vec _ _ => true
  | _ => false
def minA (x y : AV) : Option AV :=
  match x, y with
  | .int k x, .int _ y => some (.int k (if y < x then y else x))
  | _, _ => none
def maxA (x y : AV) : Option AV :=
  match x, y with
  | .int k x, .int _ y => some (.int k (if y > x then y else x))
  | _, _ => none
def ok1 (h : Hint) (r : Option (List Prop × AV)) : Option Res := r.map fun p => fin h p.1 p.2
def sliceA (P : Program) (h : Hint) (t : TypeId) (lo hi mx : Option Operand) (x : AV) (vs : List AV) (cs : List AObj) : Option Res :=
  match P.underlying t, x, cs with
  | some (.array n e), .ptr nm off, [] => if (P.info? e).isNone then none else
    match boundsA n n lo hi mx vs with
    | some (ob, l, u, m) => some (fin h ob (.slice nm (if m = l then off else off + l * P.cellsOf e) (u - l) (m - l)))
    | none => none
  | some .string, .str s, [] =>
    match boundsA s.length s.length lo hi mx vs with
    | some (ob, l, u, _) => if mx.isNone then some (fin h ob (.str ((s.drop l).take (u - l)))) else none
    | none => none
  | some (.slice e), .slice nm off len cap, [] => if (P.info? e).isNone then none else
    match boundsA len cap lo hi mx vs with
    | some (ob, l, u, m) => some (fin h ob (.slice nm (if m = l then off else off + l * P.cellsOf e) (u - l) (m - l)))
    | none => none
  | some (.slice e), .vec nm len, [o] => if (P.info? e).isNone then none else
    match lo, mx, o with
    | none, none, .vec c _ sz => if sz != P.cellsOf e then none else
      match boundA len hi vs with
      | some (ob, u, []) =>
        match h.val with
        | some v' => some ⟨ob ++ [0 < P.cellsOf e, u * P.cellsOf e ≤ c.length, AV.vec nm u = v'], v', [o], []⟩
        | none => some ⟨ob ++ [0 < P.cellsOf e, u * P.cellsOf e ≤ c.length], .vec nm u, [o], []⟩
      | _ => none
    | some _, none, _ =>
      match boundA 0 lo vs with
      | some (o1, l, vs1) =>
        match boundA len hi vs1 with
        | some (o2, u, []) => some ⟨o1 ++ (o2 ++ [l ≤ u, u ≤ len]), .vsl nm (P.cellsOf e) l (u - l), [o], []⟩
        | _ => none
      | none => none
    | _, _, _ => none
  | some (.slice e), .dsl nm len, [] => if (P.info? e).isNone then none else
    match lo, mx with
    | none, none =>
      match boundA len hi vs with
      | some (ob, u, []) => some (fin h (ob ++ [u ≤ len]) (.dsl nm u))
      | _ => none
    | some _, none =>
      match boundA 0 lo vs with
      | some (o1, l, vs1) =>
        match boundA len hi vs1 with
        | some (o2, u, []) => some (fin h (o1 ++ (o2 ++ [l ≤ u, u ≤ len])) (if l = 0 then .dsl nm u else .vsl nm (P.cellsOf e) l (u - l)))
        | _ => none
      | none => none
    | _, _ => none
  | some (.slice e), .qzz, [] => if (P.info? e).isNone then none else
    match boundsA 0 0 lo hi mx vs with
    | some (ob, _, _, _) => some (fin h ob .qzz)
    | none => none
  | _, _, _ => none
def act (P : Program) (h : Hint) (o : Op) (vals : List AV) (cs : List AObj) : Option Res :=
  match o, vals with
  | .move _, [v] => moveA h v cs
  | .assign _, [v] => moveA h v cs
  | .pick _ _ _, [.bool c, a, b] => some (fin h [] (if c then a else b))
  | .alloc t, [] => match zeroA P t, h.nm with
    | some z, [k] => if z.notTuple then some (newA h [] (.ptr k 0) (.cells z.cells t)) else none
    | _, _ => none
  | .box t _, [v] => match h.nm with
    | [k] => if v.notTuple then some (newA h [] (.ptr k 0) (.cells v.cells t)) else none
    | _ => none
  | .build t ps, vs => match buildA P t (partsA ps.toList vs) with
    | some (ob, c) => if ps.size == vs.length then some (fin h ob (.agg c)) else none
    | none => none
  | .buildSlice t len ps, vs => match P.underlying t, h.nm with
    | some (.slice e), [k] => match P.info? e, zeroA P e with
      | some ie, some z =>
        if ps.size == vs.length && 0 < ie.size && len * ie.size ≤ 16777216 && (partsA ps.toList vs).all (fun p => p.2.notTuple) && z.cells.length == ie.size && z.notTuple then
          match fillA (fun i => some (i * ie.size, ie.size)) (List.replicate len z.cells).flatten (partsA ps.toList vs) with
          | some (ob, c) => if h.view = 3 ∨ h.view = 4 then some (sealR h (newA h (ob ++ [c.length = len * ie.size]) (.vec k len) (.vec c e ie.size))) else some (newA h ob (.slice k 0 len len) (.cells c e))
          | none => none
        else none
      | _, _ => none
    | _, _ => none
  | .makeSlice t _ _, [.int _ len, .int _ cap] => match P.underlying t, h.nm with
    | some (.slice e), [k] => match P.info? e, zeroA P e with
      | some ie, some z =>
        if 0 < ie.size && z.cells.length == ie.size && z.notTuple then
          if h.view = 3 then some (newA h [0 ≤ len, len = cap, cap * ie.bytes ≤ 281474976710656, cap < 9223372036854775808] (.vec k cap.toNat) (.vec (List.replicate cap.toNat z.cells).flatten e ie.size))
          else some (newA h [0 ≤ len, len ≤ cap, cap * ie.bytes ≤ 281474976710656, cap < 9223372036854775808] (.slice k 0 len.toNat cap.toNat) (.cells (List.replicate cap.toNat z.cells).flatten e))
        else none
      | _, _ => none
    | _, _ => none
  | .load t _, [.ptr _ off] => match cs with
    | [o] => loadA P h t off o
    | _ => none
  | .load t _, [.dptr _ off] => match cs with
    | [o] => match o.knownD with
      | some c => loadD P h t off o c
      | none => none
    | _ => none
  | .load t _, [.rptr _ w i j] => if h.view = 6 then (match cs, h.nm, j with
    | [.flatN sh rows], [k], 0 => loadN P t w i sh rows k
    | _, _, _ => none) else match cs with
    | [.flatR _ sh rows] => loadR P t w i j sh rows
    | [.vec c te sz] => loadA P h t (i * w + j) (.vec c te sz)
    | _ => none
  | .load t _, [.gptr g off] => match gAll g, cs with
    | some l, [] => match loadA P h t off (.ro 0 l.1) with
      | some r => some ⟨r.obl, r.val, [], []⟩
      | none => none
    | _, _ => none
  | .store t _ _, [.ptr _ off, v] => match cs with
    | [o] => storeA P h t off v o
    | _ => none
  | .store t _ _, [.rptr _ w i j, v] => match cs with
    | [.vec c te sz] => storeA P h t (i * w + j) v (.vec c te sz)
    | _ => none
  | .nilCheck _, [.ptr nm off] => some (fin h [] (.ptr nm off))
  | .nilCheck _, [.gptr nm off] => some (fin h [] (.gptr nm off))
  | .nilCheck _, [.func f a c] => some (fin h [] (.func f a c))
  | .binOp op t p q _, [x, y] => if h.nm = [0] then eqA P h op t x y else
    match nilEq P t (isC p || isC q) x y, op with
    | some r, .eql => some (fin h [] (.bool r))
    | some r, .neq => some (fin h [] (.bool (!r)))
    | _, _ => ok1 h (binA P op t x y)
  | .unOp op _ _, [x] => ok1 h (unA op x)
  | .convert src dst _, [x] =>
    match P.underlying src, P.underlying dst, x, cs, h.nm with
    | some _, some (.slice e), .str s, [], [k] =>
      match P.underlying e with
      | some (.int .u8) => some (newA h [] (.vec k s.length) (.vec (u8s s) e 1))
      | _ => none
    | some (.slice e), some .string, .qzz, [], [] =>
      match P.underlying e with
      | some (.int .u8) => some (fin h [] (.str []))
      | _ => none
    | some (.slice e), some .string, x, [o], [] => if x.isDsl then none else
      match P.underlying e, elemsA 1 x [o], h.val with
      | some (.int .u8), some (ob, _, c), some (.str s) => some ⟨ob ++ [c = u8s s], .str s, [o], []⟩
      | _, _, _ => none
    | some (.pointer t), some .unsafePointer, .ptr nm off, [.cells c ty], [] =>
      match P.info? t with
      | some j => if j.size ≠ 0 then some ⟨[off < c.length], .ptr nm off, [.cells c ty], []⟩ else none
      | none => none
    | some .unsafePointer, some (.pointer u), .ptr nm off, [.cells c ty], [] =>
      match P.info? u with
      | some _ => some ⟨[liesAt P P.depth ty (c.length / P.cellsOf ty) off u 1 = true], .ptr nm off, [.cells c ty], []⟩
      | none => none
    | _, _, _, [], [] => ok1 h (convA P src dst x)
    | _, _, _, _, _ => none
  | .makeInterface t _, [v] => match P.underlying t with
    | some (.interface _) => none
    | some _ => if v.notTuple then some (fin h [] (.iface t v)) else none
    | none => none
  | .makeFunc (.func f) a c, vs => if a.size + c.size == vs.length && !Nat.beq f yF then some (fin h [] (.func f (vs.take a.size) (vs.drop a.size))) else none
  | .slice t _ lo hi mx, x :: vs => if mx.isSome && hi.isNone then none else sliceA P h t lo hi mx x vs cs
  | .fieldAddr t _ f, [.ptr nm off] => match P.underlying t with
    | some (.struct fs) => match fs[f]? with
      | some fd => if (P.info? fd.type).isSome && P.cellsOf fd.type ≠ 0 then some (fin h [] (.ptr nm (off + fd.offset))) else none
      | none => none
    | _ => none
  | .fieldAddr t _ f, [.dptr nm off] => match P.underlying t with
    | some (.struct fs) => match fs[f]? with
      | some fd => if (P.info? fd.type).isSome && P.cellsOf fd.type ≠ 0 then some (fin h [] (.dptr nm (off + fd.offset))) else none
      | none => none
    | _ => none
  | .fieldAddr t _ f, [.rptr nm w i j] => match P.underlying t with
    | some (.struct fs) => match fs[f]? with
      | some fd => if (P.info? fd.type).isSome && P.cellsOf fd.type ≠ 0 then some (fin h [] (.rptr nm w i (j + fd.offset))) else none
      | none => none
    | _ => none
  | .fieldAddr t _ f, [.gptr nm off] => match P.underlying t with
    | some (.struct fs) => match fs[f]? with
      | some fd => if (P.info? fd.type).isSome && P.cellsOf fd.type ≠ 0 then some (fin h [] (.gptr nm (off + fd.offset))) else none
      | none => none
    | _ => none
  | .field t _ f, [.agg c] => match P.underlying t with
    | some (.struct fs) => match fs[f]? with
      | some fd =>
        match P.underlying fd.type with
        | some d =>
          if isAggD d then some (fin h [fd.offset + P.cellsOf fd.type ≤ c.length] (.agg ((c.drop fd.offset).take (P.cellsOf fd.type))))
          else match h.val with
            | some v => some ⟨[c[fd.offset]? = some v], v, [], []⟩
            | none => (c[fd.offset]?).map fun v => ⟨[], v, [], []⟩
        | none => none
      | none => none
    | _ => none
  | .indexAddr t _ _, [x, .int _ i] => match P.underlying t, x with
    | some (.array n e), .ptr nm off => if (P.info? e).isSome then some (fin h [0 ≤ i, i < n] (.ptr nm (off + i.toNat * P.cellsOf e))) else none
    | some (.array n e), .gptr nm off => if (P.info? e).isSome then some (fin h [0 ≤ i, i < n] (.gptr nm (off + i.toNat * P.cellsOf e))) else none
    | some (.slice e), .slice nm off len _ => if (P.info? e).isSome then some (fin h [0 ≤ i, i < len] (.ptr nm (off + i.toNat * P.cellsOf e))) else none
    | some (.slice e), .vec nm len => if (P.info? e).isSome then some (fin h [0 ≤ i, i < len] (if h.view = 5 then .rptr nm (P.cellsOf e) i.toNat 0 else .ptr nm (i.toNat * P.cellsOf e))) else none
    | some (.slice e), .dsl nm len => if (P.info? e).isSome then some (fin h [0 ≤ i, i < len] (if h.view = 5 then .rptr nm (P.cellsOf e) i.toNat 0 else .dptr nm (i.toNat * P.cellsOf e))) else none
    | some (.slice e), .vsl nm w off len => if (P.info? e).isSome then some (fin h [0 ≤ i, i < len, w = P.cellsOf e] (.rptr nm w (off + i.toNat) 0)) else none
    | _, _ => none
  | .index t _ _, [x, .int _ i] => match P.underlying t, x with
    | some .string, .str s => match h.val with
      | some (.int .u8 b) => some ⟨[0 ≤ i, (s[i.toNat]?).map (fun c => (c.toNat : Int)) = some b], .int .u8 b, [], []⟩
      | some _ => none
      | none => (s[i.toNat]?).map fun c => ⟨[0 ≤ i], .int .u8 c.toNat, [], []⟩
    | some (.array n e), .agg c => match P.underlying e with
      | some d => if isAggD d then some (fin h [0 ≤ i, i < n, i.toNat * P.cellsOf e + P.cellsOf e ≤ c.length] (.agg ((c.drop (i.toNat * P.cellsOf e)).take (P.cellsOf e))))
        else match h.val with
          | some v => some ⟨[0 ≤ i, i < n, c[i.toNat * P.cellsOf e]? = some v], v, [], []⟩
          | none => (c[i.toNat * P.cellsOf e]?).map fun v => ⟨[0 ≤ i, i < n], v, [], []⟩
      | none => none
    | _, _ => none
  | .extract _ i, [.tuple vs] => (vs[i]?).map fun v => fin h [] v
  | .range t _, [.str s] => match P.underlying t, h.nm with
    | some .string, [k] => some (newA h [] (.ptr k 0) (.iter s 0))
    | _, _ => none
  | .next _ true, [.ptr _ 0] => match cs, h.val with
    | [.iter s pos], some (.tuple [.bool true, .int .i64 p, .int .i32 c]) =>
      match h.obj with
      | some [.iter s' pos'] => some ⟨[s = s', pos < s.length, (pos : Int) = p, ((Utf8.decode ⟨s.toArray⟩ pos).1 : Int) = c, pos + (Utf8.decode ⟨s.toArray⟩ pos).2 = pos'], .tuple [.bool true, .int .i64 p, .int .i32 c], [.iter s' pos'], []⟩
      | _ => none
    | [.iter s pos], some (.tuple [.bool false]) => some ⟨[s.length ≤ pos], .tuple [.bool false], [.iter s pos], []⟩
    | _, _ => none
  | .makeMap t none, [] => match setN P t, h.nm with
    | some n, [k] => some (newA h [] (.mapp k) (.mapS n []))
    | _, _ => none
  | .lookup t _ _ false, [.mapp _, .agg cs'] => lookS P t cs' cs
  | .mapUpdate t _ _ _, [.mapp _, .agg cs', .bool true] => updS P t cs' cs
  | .call c, vs =>
    match c.callee with
    | .builtin .len => match c.argTypes[0]?, vs with
      | some t, [x] => (lenA P t x).map fun v => fin h [] v
      | _, _ => none
    | .builtin .min => match vs with
      | [x, y] => (minA x y).map fun v => fin h [] v
      | _ => none
    | .builtin .max => match vs with
      | [x, y] => (maxA x y).map fun v => fin h [] v
      | _ => none
    | .builtin .append => match vs with
      | [s, x] => (appendA P h c s x cs).map (sealR h)
      | _ => none
    | .builtin .clear => match vs with
      | [x] => clearA P h c x cs
      | _ => none
    | .builtin .unsafeSliceData => sliceDataA vs cs
    | .builtin .cap => match c.argTypes[0]?, vs with
      | some t, [x] => (capA P t x).map fun v => fin h [] v
      | _, _ => none
    | .builtin .copy => match (c.argTypes[0]?).bind P.underlying, vs with
      | some (.slice e), [s, .qzz] => if (P.info? e).isSome && s.isSlice then some ⟨[], .int .i64 0, cs, []⟩ else none
      | some (.slice e), [s, x] => copyA P h e s x cs
      | _, _ => none
    | .builtin .unsafeString => unsafeStrA P h c vs cs
    | _ => none
  | _, _ => none
end Go.Proofs.YtphhepnldndbhaaGreatDoor.Sx
set_option linter.unusedSimpArgs false
namespace Go.Proofs.YtphhepnldndbhaaGreatDoor.Sx
open Go
structure Eff (E E' : Env) (w w' : World) (F : Foot) (upd new : List AObj) : Prop where
  le : Env.le E E'
  only : ∀ n, n ∉ F.al → E' n = E n
  wrote : F.wr = true → ∀ (i n : Nat) (o : AObj), F.rd[i]? = some n → upd[i]? = some o → ∃ b c, E n = some (b, c) ∧ ObjR E' w' b c o
  made : ∀ (i n : Nat) (o : AObj), F.al[i]? = some n → new[i]? = some o → ∃ b c, E' n = some (b, c) ∧ ObjR E' w' b c o ∧
    (touches b c o b → w.heap.size ≤ b ∨ (F.wr = true ∧ ∃ (j m : Nat) (c' : Cap), F.rd[j]? = some m ∧ upd[j]? = some AObj.dead ∧ E m = some (b, c')) ∨ (o.mine = false ∧ ∃ (m b0 : Nat) (c0 : Cap), E m = some (b0, c0) ∧ under c0 b))
  bare : ∀ (n b : Nat) (c : Cap) (k : Nat), n ∈ F.al → E' n = some (b, c) → under c k → ∃ (m b0 : Nat) (c0 : Cap), E m = some (b0, c0) ∧ under c0 k
  keep : ∀ k : Nat, k < w.heap.size → (∀ n ∈ F.ws, ∀ c, E n ≠ some (k, c)) → w'.heap[k]? = w.heap[k]?
  newApart : ∀ (i j n m : Nat) (o o' : AObj) (b : Nat) (c : Cap) (b' : Nat) (c' : Cap), F.al[i]? = some n → F.al[j]? = some m → new[i]? = some o → new[j]? = some o' → o.owned = true → o'.live = true → E' n = some (b, c) → E' m = some (b', c') → i ≠ j → ¬ touches b' c' o' b
  grow : w.heap.size ≤ w'.heap.size
  os : w'.os = w.os
  tape : w'.tape = w.tape
  output : w'.output = w.output
def Good (E : Env) (w : World) (F : Foot) (upd new : List AObj) (val : AV) (r : Result Next) : Prop :=
  ∃ x w' E', (r = .ok (.value x) w' ∨ (r = .ok .skip w' ∧ x = undef)) ∧ den E' val = some x ∧ Eff E E' w w' F upd new
theorem Eff.same {E : Env} {w : World} {F : Foot} {upd : List AObj} (h : F.wr = false) (ha : F.al = []) : Eff E E w w F upd [] :=
  { le := .refl _, only := fun _ _ => rfl, wrote := fun e => by (rw [h] at e; cases e), made := fun i n o _ e => by simp at e, keep := fun _ _ _ => rfl,
    newApart := fun i j n m o o' b c b' c' e => by simp [ha] at e, bare := fun n b c k e => by simp [ha] at e, grow := Nat.le_refl _, os := rfl, tape := rfl, output := rfl }
theorem Good.pure {E : Env} {w : World} {F : Foot} {upd : List AObj} {val : AV} {r : Result Next} {x : Value} (h : F.wr = false) (ha : F.al = []) (hr : r = .ok (.value x) w) (hd : den E val = some x) : Good E w F upd [] val r :=
  ⟨x, w, E, .inl hr, hd, .same h ha⟩
theorem den1 {E : Env} {v : AV} {x : Value} (h : denL E [v] = some [x]) : den E v = some x := by
  obtain ⟨y, ys, hy, _, e⟩ := qxz.1 h; cases e; exact hy
theorem denL_split {E : Env} {v : AV} {vs : List AV} {x : Value} {xs : List Value} (h : denL E (v :: vs) = some (x :: xs)) : den E v = some x ∧ denL E vs = some xs := by
  obtain ⟨y, ys, hy, hz, e⟩ := qxz.1 h; cases e; exact ⟨hy, hz⟩
variable {P : Program} {E : Env} {w : World}
theorem underlying_info {t : TypeId} {d : TypeDesc} (h : P.underlying t = some d) : ∃ i, P.info? t = some i := by
  unfold Program.underlying at h
  split at h <;> first | exact ⟨_, by assumption⟩ | cases h
theorem run_underlying' {t : TypeId} {d : TypeDesc} (h : P.underlying t = some d) : (underlying t).run P w = .ok d w := run_underlying h w
theorem run_sizeOf' {t : TypeId} {i : TypeInfo} (h : P.info? t = some i) : (sizeOf t).run P w = .ok (P.cellsOf t) w := by
  simp [sizeOf, typeInfo, h, Program.cellsOf]
theorem run_isAgg' {t : TypeId} {d : TypeDesc} (h : P.underlying t = some d) : (isAgg t).run P w = .ok (isAggD d) w := by
  simp only [isAgg, Sem.run_bind, run_underlying' h, Result.andThen_ok]
  cases d <;> rfl
theorem good_move {x : Operand} {ρ : Operand → Value} {o : Oper} (ho : o.op = .move x ∨ o.op = .assign x) {v : AV} {h : Hint} {F : Foot} (hF : F = .no) (hv : den E v = some (ρ x)) (k : AllP (fin h [] v).obl) :
    Good E w F (fin h [] v).upd (fin h [] v).new (fin h [] v).val ((execOp ρ o).run P w) := by
  obtain ⟨_, e1, e2, e3⟩ := fin_spec k
  rw [e1, e3]
  refine Good.pure (by rw [hF]; rfl) (by rw [hF]; rfl) ?_ hv
  rcases ho with ho | ho <;> simp [execOp, ho]
theorem intBin_run {op : BinOp} {k : IntKind} {x y : Int} {t : TypeId} {ob : List Prop} {v : AV} (h : intBin op k x y = some (ob, v)) (hob : AllP ob) :
    ∃ z, (binOp op t (.int k x) (.int k y)).run P w = .ok z w ∧ den E v = some z := by
  cases op <;> simp only [intBin, Option.some.injEq, Prod.mk.injEq, reduceCtorEq] at h <;>
    (obtain ⟨rfl, rfl⟩ := h) <;>
    (first
      | (refine ⟨_, ?_, rfl⟩; simp [binOp, Op.intArith, Op.intCmp, Op.intBits]; done)
      | (refine ⟨_, ?_, rfl⟩; have := hob.1; simp [binOp, Op.intDiv, this]; done))
theorem byteArray_toList (s : List UInt8) : (ByteArray.mk s.toArray).toList = s := by rw [ByteArray.toList_eq]
theorem strBin_run {op : BinOp} {x y : List UInt8} {t : TypeId} {ob : List Prop} {v : AV} (h : strBin op x y = some (ob, v)) (hob : AllP ob) :
    ∃ z, (binOp op t (.string ⟨x.toArray⟩) (.string ⟨y.toArray⟩)).run P w = .ok z w ∧ den E v = some z := by
  cases op <;> simp only [strBin, Option.some.injEq, Prod.mk.injEq, reduceCtorEq] at h <;>
    (obtain ⟨rfl, rfl⟩ := h) <;>
    (first
      | (refine ⟨_, ?_, rfl⟩; simp [binOp, Op.stringOp, byteArray_toList]; done)
      | (refine ⟨_, ?_, rfl⟩
         have h1 := hob.1
         have h2 : ¬ (((ByteArray.mk x.toArray).size + (ByteArray.mk y.toArray).size : Nat) : Int) > IntKind.i64.max := by
           show ¬ ((x.length + y.length : Nat) : Int) > 9223372036854775807
           omega
         have h3 : (ByteArray.mk x.toArray) ++ (ByteArray.mk y.toArray) = ByteArray.mk (x ++ y).toArray := by
           apply ByteArray.ext; simp
         simp only [binOp, Op.stringOp, if_neg h2, h3]; rfl))
theorem partA_run {t : TypeId} {cs : List AV} {xs : List Value} {off : Nat} {v : AV} (hc : denC E cs xs) (h : partA P t cs off = some v) :
    ∃ x, (part t xs.toArray off).run P w = .ok x w ∧ den E v = some x := by
  unfold partA at h
  split at h
  · rename_i d hd
    obtain ⟨i, hi⟩ := underlying_info hd
    split at h
    · rename_i ha
      cases h
      refine ⟨_, ?_, denC_agg.2 ⟨_, denC_take (denC_drop hc off) (P.cellsOf t), rfl⟩⟩
      simp only [part, Sem.run_bind, run_isAgg' hd, Result.andThen_ok, ha, if_true, run_sizeOf' hi, Sem.run_pure]
      congr 2
      simp [List.extract_eq_take_drop, List.extract_toArray]
    · rename_i ha
      obtain ⟨x, hx, hd'⟩ := denC_get hc h
      refine ⟨x, ?_, hd'⟩
      simp only [part, Sem.run_bind, run_isAgg' hd, Result.andThen_ok, ha, if_false, List.getElem?_toArray, hx, Bool.false_eq_true]
      rfl
  · cases h
theorem fieldsOf_eq {t : TypeId} {fs : Array Field} (h : P.underlying t = some (.struct fs)) : P.fieldsOf t = fs := by simp [Program.fieldsOf, h]
theorem part_int {P : Program} {e : TypeId} {k k' : IntKind} {w : World} (he : P.underlying e = some (.int k')) (xs : List Int) {i : Nat} (hi : i < xs.length) : (part e (xs.map (Value.int k)).toArray i).run P w = .ok (.int k (xs.getD i 0)) w := by
  simp only [part, Sem.run_bind, run_isAgg' he, isAggD, Result.andThen_ok, Bool.false_eq_true, if_false, List.getElem?_toArray, List.getElem?_map]
  rw [List.getElem?_eq_getElem hi]
  simp [List.getD, hi]
theorem eqItems_ints {P : Program} {D : Nat} {e : TypeId} {k k' : IntKind} {w : World} (he : P.underlying e = some (.int k')) (xs ys : List Int) (hl : xs.length = ys.length) : ∀ (m i : Nat), i + m = xs.length →
    (Op.eqItems (D + 1) e 1 (xs.map (Value.int k)).toArray (ys.map (Value.int k)).toArray (List.range' i m)).run P w = .ok (decide (xs.drop i = ys.drop i)) w
  | 0, i, h => by
    rw [List.drop_eq_nil_of_le (by omega), List.drop_eq_nil_of_le (by omega)]
    simp [Op.eqItems]
  | m + 1, i, h => by
    have ih := eqItems_ints (P := P) (D := D) (w := w) (k := k) he xs ys hl m (i + 1) (by omega)
    have hx : i < xs.length := by omega
    have hy : i < ys.length := by omega
    simp only [List.range'_succ, Op.eqItems, Nat.mul_one, Sem.run_bind, part_int he xs hx, part_int he ys hy, Result.andThen_ok, run_equalIn_int w D e _ _ _ _ he]
    have e : (xs.drop i = ys.drop i) ↔ (xs[i] = ys[i] ∧ xs.drop (i + 1) = ys.drop (i + 1)) := by
      rw [List.drop_eq_getElem_cons hx, List.drop_eq_getElem_cons hy, List.cons.injEq]
    have ex : xs.getD i 0 = xs[i] := by simp [List.getD, hx]
    have ey : ys.getD i 0 = ys[i] := by simp [List.getD, hy]
    have e2 : decide (xs.drop i = ys.drop i) = decide (xs[i] = ys[i] ∧ xs.drop (i + 1) = ys.drop (i + 1)) := decide_eq_decide.2 e
    rw [e2, ex, ey]
    by_cases hc : xs[i] = ys[i]
    · simp only [hc, beq_self_eq_true, Bool.not_true, Bool.false_eq_true, if_false, ih, true_and]
    · have hb : (xs[i] == ys[i]) = false := by simpa using hc
      simp only [hb, Bool.not_false, if_true, Sem.run_pure, hc, false_and, decide_false]
theorem unInts_eq {k : IntKind} : ∀ (xs : List AV) (a : List Int), unInts k xs = some a → xs = a.map (.int k)
  | [], a, h => by cases h; rfl
  | v :: r, a, h => by
    unfold unInts at h
    split at h
    · rename_i e; cases e
    · rename_i k' n r' e
      cases e
      split at h
      · rename_i hk
        subst hk
        simp only [Option.map_eq_some_iff] at h
        obtain ⟨a', h1, rfl⟩ := h
        rw [unInts_eq _ _ h1]; rfl
      · cases h
    · cases h
theorem denL_imap {E : Env} {k : IntKind} : ∀ (l : List Int), denL E (l.map (AV.int k)) = some (l.map (Value.int k))
  | [] => rfl
  | a :: l => by simp only [List.map_cons, denL, den, denL_imap l]
theorem aeqInts_run {E : Env} {w : World} {d D n : Nat} {t e : TypeId} {xs ys : List AV} {a b : Value} {r : Bool} (hD : d ≤ D) (hu : P.underlying t = some (.array n e)) (ha : den E (.agg xs) = some a) (hb : den E (.agg ys) = some b) (h : aeqInts P d n e xs ys = some r) : (Op.equalIn (D + 1) t a b).run P w = .ok r w := by
  unfold aeqInts at h
  split at h
  · rename_i k he
    split at h
    · rename_i l1 l2 h1 h2
      split at h
      · rename_i hc
        obtain ⟨c1, c2, c3, c4⟩ := hc
        cases h
        obtain ⟨D, rfl⟩ : ∃ D', D = D' + 1 := ⟨D - 1, by omega⟩
        obtain ⟨as, g1, rfl⟩ := denC_agg.1 ha
        obtain ⟨bs, g2, rfl⟩ := denC_agg.1 hb
        have e1 := g1.1
        have e2 := g2.1
        rw [unInts_eq _ _ h1, denL_imap] at e1
        rw [unInts_eq _ _ h2, denL_imap] at e2
        cases e1; cases e2
        obtain ⟨i, hi⟩ := underlying_info he
        rw [run_equalIn_array w (D + 1) _ _ hu hi, c1, List.range_eq_range', eqItems_ints he l1 l2 (by omega) n 0 (by omega)]
        simp only [List.drop_zero]
        congr 1
        exact (Bool.beq_eq_decide_eq l1 l2).symm
      · cases h
    · cases h
  · cases h
mutual
theorem aeq_run : ∀ (d : Nat) (D : Nat) (t : TypeId) (x y : AV) (a b : Value) (r : Bool), d ≤ D → den E x = some a → den E y = some b → aeq P d t x y = some r → (Op.equalIn D t a b).run P w = .ok r w
  | 0, D, t, x, y, a, b, r, hD, hx, hy, h => by simp [aeq] at h
  | d + 1, D, t, x, y, a, b, r, hD, hx, hy, h => by
    obtain ⟨D, rfl⟩ : ∃ D', D = D' + 1 := ⟨D - 1, by omega⟩
    simp only [aeq] at h
    split at h
    · rename_i hu; cases hx; cases hy; cases h; exact run_equalIn_bool' w D t _ _ hu
    · rename_i k' k a' k'' b' hu
      split at h
      · rename_i hk; subst hk; cases hx; cases hy; cases h; exact run_equalIn_int w D t _ _ _ _ hu
      · cases h
    · rename_i hu; cases hx; cases hy; cases h; rw [run_equalIn_string w D t _ _ hu, byteArray_toList, byteArray_toList]
    · rename_i fs xs ys hu
      split at h
      · cases h
      · rename_i hs
        obtain ⟨as, ha, rfl⟩ := denC_agg.1 hx
        obtain ⟨bs, hb, rfl⟩ := denC_agg.1 hy
        rw [run_equalIn_struct w D t _ _ (by rw [fieldsOf_eq hu]; exact hu) (by simpa using hs), fieldsOf_eq hu]
        exact aeqFields_run d D xs ys fs.toList as bs r (by omega) ha hb h
    · rename_i n e xs ys hu
      exact aeqInts_run (by omega) hu hx hy h
    · cases h
theorem aeqFields_run : ∀ (d : Nat) (D : Nat) (xs ys : List AV) (fs : List Field) (as bs : List Value) (r : Bool), d ≤ D → denC E xs as → denC E ys bs → aeqFields P d xs ys fs = some r → (Op.eqFields D as.toArray bs.toArray fs).run P w = .ok r w
  | 0, D, xs, ys, fs, as, bs, r, hD, ha, hb, h => by simp [aeqFields] at h
  | d + 1, D, xs, ys, [], as, bs, r, hD, ha, hb, h => by simp [aeqFields] at h; subst h; rfl
  | d + 1, D, xs, ys, f :: fs, as, bs, r, hD, ha, hb, h => by
    simp only [aeqFields] at h
    simp only [Op.eqFields]
    split at h
    · rename_i hn
      rw [if_pos hn]
      split at h
      · rename_i a b hpa hpb
        obtain ⟨x, hx, hdx⟩ := partA_run (w := w) ha hpa
        obtain ⟨y, hy, hdy⟩ := partA_run (w := w) hb hpb
        split at h
        · rename_i r1 r2 h1 h2
          cases h
          simp only [Sem.run_bind, hx, hy, Result.andThen_ok, aeq_run d D f.type a b x y r1 (by omega) hdx hdy h1, Sem.run_ite]
          have ih := aeqFields_run d D xs ys fs as bs r2 (by omega) ha hb h2
          cases r1
          · simp
          · simp [ih]
        · cases h
      · cases h
    · rename_i hn
      rw [if_neg hn]
      exact aeqFields_run d D xs ys fs as bs r (by omega) ha hb h
end
theorem eqGuard_other {op : BinOp} {t : TypeId} {x y : Operand} {a b : Value} (h : op ≠ .eql ∧ op ≠ .neq) : (eqGuard op t x y a b).run P w = .ok () w := by
  unfold eqGuard
  cases op <;> first | rfl | exact absurd rfl h.1 | exact absurd rfl h.2
theorem eqGuard_plain {op : BinOp} {t : TypeId} {x y : Operand} {a b : Value} (h1 : ¬ (a = .nilIface ∧ b = .nilIface)) (h2 : ∀ p q, ¬ (a = .agg p ∧ b = .agg q)) : (eqGuard op t x y a b).run P w = .ok () w := by
  unfold eqGuard
  cases op <;> first
    | rfl
    | (cases a <;> cases b <;> first
        | rfl
        | exact absurd ⟨rfl, rfl⟩ h1
        | exact absurd ⟨rfl, rfl⟩ (h2 _ _))
theorem eqGuard_agg {op : BinOp} {t : TypeId} {x y : Operand} {a b : Array Value} (h : P.eqGuardType P.depth t = false) : (eqGuard op t x y (.agg a) (.agg b)).run P w = .ok () w := by
  unfold eqGuard
  cases op <;> first
    | rfl
    | simp [h]
theorem ptr_den {nm off : Nat} {x : Value} (h : den E (.ptr nm off) = some x) : ∃ b c, E nm = some (b, c) ∧ x = .pointer (some ⟨b, off, none⟩) := by
  simp only [den, Option.map_eq_some_iff] at h
  obtain ⟨⟨b, c⟩, hb, rfl⟩ := h
  exact ⟨b, c, hb, rfl⟩
theorem mapp_den {nm : Nat} {x : Value} (h : den E (.mapp nm) = some x) : ∃ b c, E nm = some (b, c) ∧ x = .map (some b) := by
  simp only [den, Option.map_eq_some_iff] at h
  obtain ⟨⟨b, c⟩, hb, rfl⟩ := h
  exact ⟨b, c, hb, rfl⟩
theorem ptrEq_run {tp te : TypeId} {x y : AV} {a b : Value} {r : Bool} (hx : den E x = some a) (hy : den E y = some b) (hp : P.underlying tp = some (.pointer te)) (hte : (P.info? te).isSome = true) (h : ptrEq x y = some r) :
    (∃ u v, a = .pointer u ∧ b = .pointer v) ∧ (binOp .eql tp a b).run P w = .ok (.bool r) w ∧ (binOp .neq tp a b).run P w = .ok (.bool (!r)) w := by
  obtain ⟨j, hj⟩ := Option.isSome_iff_exists.1 hte
  unfold ptrEq at h
  split at h
  · have ha : a = .pointer none := by simpa [den] using hx.symm
    have hb : b = .pointer none := by simpa [den] using hy.symm
    subst ha; subst hb; cases h
    have key : ∀ d : Nat, (Op.equalIn (d + 1) tp (.pointer none) (.pointer none)).run P w = .ok true w := fun d => by
      simp [Op.equalIn, run_underlying hp, sizeOf, typeInfo, hj]
    exact ⟨⟨_, _, rfl, rfl⟩, by simp [binOp, Op.equal, Op.maxDepth, key 9999], by simp [binOp, Op.equal, Op.maxDepth, key 9999]⟩
  · rename_i nm off
    obtain ⟨b', c', _, rfl⟩ := ptr_den hx
    have hb : b = .pointer none := by simpa [den] using hy.symm
    subst hb; cases h
    have key : ∀ d : Nat, (Op.equalIn (d + 1) tp (.pointer (some ⟨b', off, none⟩)) (.pointer none)).run P w = .ok false w := fun d => by
      simp [Op.equalIn, run_underlying hp, sizeOf, typeInfo, hj]
    exact ⟨⟨_, _, rfl, rfl⟩, by simp [binOp, Op.equal, Op.maxDepth, key 9999], by simp [binOp, Op.equal, Op.maxDepth, key 9999]⟩
  · rename_i nm off
    obtain ⟨b', c', _, rfl⟩ := ptr_den hy
    have ha : a = .pointer none := by simpa [den] using hx.symm
    subst ha; cases h
    have key : ∀ d : Nat, (Op.equalIn (d + 1) tp (.pointer none) (.pointer (some ⟨b', off, none⟩))).run P w = .ok false w := fun d => by
      simp [Op.equalIn, run_underlying hp, sizeOf, typeInfo, hj]
    exact ⟨⟨_, _, rfl, rfl⟩, by simp [binOp, Op.equal, Op.maxDepth, key 9999], by simp [binOp, Op.equal, Op.maxDepth, key 9999]⟩
  · split at h
    · rename_i n o m q hnm
      obtain ⟨rfl, rfl⟩ := hnm
      cases h
      obtain ⟨b1, c1, h1, rfl⟩ := ptr_den hx
      obtain ⟨b2, c2, h2, rfl⟩ := ptr_den hy
      rw [h1] at h2; cases h2
      exact ⟨⟨_, _, rfl, rfl⟩, run_eql_ptr_same w _ hp hj, Lib.run_neq_ptr_same w _ hp hj⟩
    · cases h
  · cases h
theorem binA_run {op : BinOp} {t : TypeId} {x y : AV} {a b : Value} {p q : Operand} {ob : List Prop} {v : AV} (hx : den E x = some a) (hy : den E y = some b) (h : binA P op t x y = some (ob, v)) (hob : AllP ob) :
    ∃ z, (do eqGuard op t p q a b; binOp op t a b : Sem Value).run P w = .ok z w ∧ den E v = some z := by
  unfold binA at h
  split at h
  · cases hx; cases hy; cases h
    have h0 := hob.1
    rename_i k a' k' b'
    refine ⟨_, ?_, rfl⟩
    rw [Sem.run_bind, eqGuard_other (by decide)]
    simp [binOp, Op.shift, show ¬ b' < 0 by omega]
  · cases hx; cases hy; cases h
    have h0 := hob.1
    rename_i k a' k' b'
    refine ⟨_, ?_, rfl⟩
    rw [Sem.run_bind, eqGuard_other (by decide)]
    simp [binOp, Op.shift, show ¬ b' < 0 by omega]
  · rename_i k a' k' b' _ _
    cases hx; cases hy
    split at h
    · rename_i hk; subst hk
      obtain ⟨z, hz, hd⟩ := intBin_run (P := P) (E := E) (w := w) (t := t) h hob
      exact ⟨z, by rw [Sem.run_bind, eqGuard_plain (by simp) (by simp)]; exact hz, hd⟩
    · cases h
  · rename_i a' b'
    cases hx; cases hy
    obtain ⟨z, hz, hd⟩ := strBin_run (P := P) (E := E) (w := w) (t := t) h hob
    exact ⟨z, by rw [Sem.run_bind, eqGuard_plain (by simp) (by simp)]; exact hz, hd⟩
  · split at h
    · rename_i hu; cases hx; cases hy; cases h
      refine ⟨_, ?_, rfl⟩
      rw [Sem.run_bind, eqGuard_plain (by simp) (by simp)]
      simp only [Result.andThen_ok, binOp, Op.equal, Op.maxDepth, Sem.run_bind, run_equalIn_bool' w 9999 t _ _ hu, Sem.run_pure]
    · cases h
  · split at h
    · rename_i hu; cases hx; cases hy; cases h
      refine ⟨_, ?_, rfl⟩
      rw [Sem.run_bind, eqGuard_plain (by simp) (by simp)]
      simp only [Result.andThen_ok, binOp, Op.equal, Op.maxDepth, Sem.run_bind, run_equalIn_bool' w 9999 t _ _ hu, Sem.run_pure]
    · cases h
  · split at h
    · cases h
    · rename_i hg
      simp only [Option.map_eq_some_iff, Prod.mk.injEq] at h
      obtain ⟨r, hr, rfl, rfl⟩ := h
      obtain ⟨as, ha, rfl⟩ := denC_agg.1 hx
      obtain ⟨bs, hb, rfl⟩ := denC_agg.1 hy
      refine ⟨_, ?_, rfl⟩
      rw [Sem.run_bind, eqGuard_agg (by simpa using hg)]
      simp only [Result.andThen_ok, binOp, Op.equal, Op.maxDepth, Sem.run_bind, aeq_run (w := w) 100 10000 t _ _ _ _ r (by decide) hx hy hr, Sem.run_pure]
  · split at h
    · cases h
    · rename_i hg
      simp only [Option.map_eq_some_iff, Prod.mk.injEq] at h
      obtain ⟨r, hr, rfl, rfl⟩ := h
      obtain ⟨as, ha, rfl⟩ := denC_agg.1 hx
      obtain ⟨bs, hb, rfl⟩ := denC_agg.1 hy
      refine ⟨_, ?_, rfl⟩
      rw [Sem.run_bind, eqGuard_agg (by simpa using hg)]
      simp only [Result.andThen_ok, binOp, Op.equal, Op.maxDepth, Sem.run_bind, aeq_run (w := w) 100 10000 t _ _ _ _ r (by decide) hx hy hr, Sem.run_pure]
  · split at h
    · rename_i te hp
      split at h
      · rename_i hte
        simp only [Option.map_eq_some_iff, Prod.mk.injEq] at h
        obtain ⟨r, hr, rfl, rfl⟩ := h
        obtain ⟨⟨u, v, rfl, rfl⟩, k1, k2⟩ := ptrEq_run (w := w) hx hy hp hte hr
        refine ⟨_, ?_, rfl⟩
        rw [Sem.run_bind, eqGuard_plain (by simp) (by simp)]
        exact k1
      · cases h
    · cases h
  · split at h
    · rename_i te hp
      split at h
      · rename_i hte
        simp only [Option.map_eq_some_iff, Prod.mk.injEq] at h
        obtain ⟨r, hr, rfl, rfl⟩ := h
        obtain ⟨⟨u, v, rfl, rfl⟩, k1, k2⟩ := ptrEq_run (w := w) hx hy hp hte hr
        refine ⟨_, ?_, rfl⟩
        rw [Sem.run_bind, eqGuard_plain (by simp) (by simp)]
        exact k2
      · cases h
    · cases h
  · cases h
theorem unA_run {op : UnOp} {x : AV} {a : Value} {ob : List Prop} {v : AV} (hx : den E x = some a) (h : unA op x = some (ob, v)) :
    ∃ z, (Op.unary op a).run P w = .ok z w ∧ den E v = some z := by
  unfold unA at h
  split at h
  · cases hx; cases h; exact ⟨_, rfl, rfl⟩
  · cases hx; cases h; exact ⟨_, rfl, rfl⟩
  · cases hx; cases h; exact ⟨_, rfl, rfl⟩
  · cases h
theorem convA_run {src dst : TypeId} {x : AV} {a : Value} {ob : List Prop} {v : AV} (hx : den E x = some a) (h : convA P src dst x = some (ob, v)) :
    ∃ z, (convert src dst a).run P w = .ok z w ∧ den E v = some z := by
  unfold convA at h
  split at h
  · rename_i d k k' n hs hd
    cases hx; cases h
    refine ⟨_, ?_, rfl⟩
    simp only [convert, Sem.run_bind, run_underlying' hs, run_underlying' hd, Result.andThen_ok, Conv.intToInt]
    cases d <;> simp
  · rename_i d s hs hd
    cases hx; cases h
    refine ⟨_, ?_, rfl⟩
    simp only [convert, Sem.run_bind, run_underlying' hs, run_underlying' hd, Result.andThen_ok]
    cases d <;> simp
  · rename_i d k n hs hd
    cases hx; cases h
    refine ⟨.string (Utf8.encode n), ?_, by simp [den, encL]⟩
    simp only [convert, Sem.run_bind, run_underlying' hs, run_underlying' hd, Result.andThen_ok]
    cases d <;> simp [Conv.intToString]
  · cases h
theorem isC_spec {p : Operand} (h : isC p = true) : ∃ v, p = .const v := by cases p <;> first | exact ⟨_, rfl⟩ | cases h
theorem eqIn_gen {t : TypeId} {td : TypeDesc} {a b : Value} {r : Bool} (hu : P.underlying t = some td) (h : ∀ d' : Nat, (Op.equalIn (d' + 1) t a b).run P w = .ok r w) : (Op.equal t a b).run P w = .ok r w := h 9999
theorem nilOp {op : BinOp} {t : TypeId} {a b : Value} {p q : Operand} {r : Bool} (hop : op = .eql ∨ op = .neq) (h1 : (eqGuard op t p q a b).run P w = .ok () w) (h2 : (Op.equal t a b).run P w = .ok r w) (hb : ∀ o, o = BinOp.eql ∨ o = .neq → binOp o t a b = (if o = .eql then (do pure (.bool (← Op.equal t a b))) else (do pure (.bool (!(← Op.equal t a b)))) : Sem Value)) :
    (do eqGuard op t p q a b; binOp op t a b : Sem Value).run P w = .ok (.bool (if op = .eql then r else !r)) w := by
  rw [Sem.run_bind, h1, Result.andThen_ok, hb op hop]
  rcases hop with rfl | rfl
  · simp only [if_true, Sem.run_bind, h2, Result.andThen_ok, Sem.run_pure]
  · simp only [reduceCtorEq, if_false, Sem.run_bind, h2, Result.andThen_ok, Sem.run_pure]
theorem nilEq_run {t : TypeId} {x y : AV} {a b : Value} {p q : Operand} {r : Bool} {op : BinOp} (hop : op = .eql ∨ op = .neq) (hx : den E x = some a) (hy : den E y = some b) (h : nilEq P t (isC p || isC q) x y = some r) :
    (do eqGuard op t p q a b; binOp op t a b : Sem Value).run P w = .ok (.bool (if op = .eql then r else !r)) w := by
  unfold nilEq at h
  split at h
  · rename_i hu
    split at h
    · rename_i hc
      cases h
      cases hx; cases hy
      refine nilOp hop ?_ (eqIn_gen hu fun d => ?_) ?_
      · simp only [Bool.or_eq_true] at hc
        rcases hc with hc | hc
        · obtain ⟨v, rfl⟩ := isC_spec hc
          rcases hop with rfl | rfl <;> rfl
        · obtain ⟨v, rfl⟩ := isC_spec hc
          rcases hop with rfl | rfl <;> cases p <;> rfl
      · simp only [Op.equalIn, Sem.run_bind, run_underlying' hu, Result.andThen_ok, Sem.run_pure]
      · rintro o (rfl | rfl) <;> rfl
    · cases h
  · rename_i ms t' v hu
    cases h
    cases hx
    simp only [den, Option.map_eq_some_iff] at hy
    obtain ⟨z, hz, rfl⟩ := hy
    refine nilOp hop (eqGuard_plain (by simp) (by simp)) (eqIn_gen hu fun d => ?_) ?_
    · simp only [Op.equalIn, Sem.run_bind, run_underlying' hu, Result.andThen_ok, Sem.run_pure]
    · rintro o (rfl | rfl) <;> rfl
  · rename_i ms t' v hu
    cases h
    cases hy
    simp only [den, Option.map_eq_some_iff] at hx
    obtain ⟨z, hz, rfl⟩ := hx
    refine nilOp hop (eqGuard_plain (by simp) (by simp)) (eqIn_gen hu fun d => ?_) ?_
    · simp only [Op.equalIn, Sem.run_bind, run_underlying' hu, Result.andThen_ok, Sem.run_pure]
    · rintro o (rfl | rfl) <;> rfl
  · rename_i e hu
    cases h; cases hx; cases hy
    refine nilOp hop (eqGuard_plain (by simp) (by simp)) (eqIn_gen hu fun d => ?_) ?_
    · simp only [Op.equalIn, Sem.run_bind, run_underlying' hu, Result.andThen_ok, Sem.run_pure, Option.isNone_none]
    · rintro o (rfl | rfl) <;> rfl
  · rename_i e nm l hu
    cases h; cases hy
    simp only [den, Option.bind_eq_some_iff] at hx
    obtain ⟨pp, hp, hq⟩ := hx
    split at hq
    · cases hq
      refine nilOp hop (eqGuard_plain (by simp) (by simp)) (eqIn_gen hu fun d => ?_) ?_
      · simp only [Op.equalIn, Sem.run_bind, run_underlying' hu, Result.andThen_ok, Sem.run_pure]
      · rintro o (rfl | rfl) <;> rfl
    · cases hq
  · rename_i e nm off l c hu
    cases h; cases hy
    simp only [den, Option.map_eq_some_iff] at hx
    obtain ⟨pp, hp, rfl⟩ := hx
    refine nilOp hop (eqGuard_plain (by simp) (by simp)) (eqIn_gen hu fun d => ?_) ?_
    · simp only [Op.equalIn, Sem.run_bind, run_underlying' hu, Result.andThen_ok, Sem.run_pure]
    · rintro o (rfl | rfl) <;> rfl
  · rename_i hu
    cases h; cases hx; cases hy
    refine nilOp hop (eqGuard_plain (by simp) (by simp)) (eqIn_gen hu fun d => ?_) ?_
    · simp only [Op.equalIn, Sem.run_bind, run_underlying' hu, Result.andThen_ok, Sem.run_pure]
    · rintro o (rfl | rfl) <;> rfl
  · rename_i f as cs hu
    cases h; cases hy
    obtain ⟨fv, u, v, rfl⟩ : ∃ fv u v, a = .func fv u v := by
      simp only [den] at hx
      split at hx
      · obtain ⟨nm, p, rfl, rfl, hp, rfl⟩ := yfOf_some hx; exact ⟨_, _, _, rfl⟩
      · split at hx
        · cases hx; exact ⟨_, _, _, rfl⟩
        · cases hx
    refine nilOp hop (eqGuard_plain (by simp) (by simp)) (eqIn_gen hu fun d => ?_) ?_
    · simp only [Op.equalIn, Sem.run_bind, run_underlying' hu, Result.andThen_ok, Sem.run_pure]
    · rintro o (rfl | rfl) <;> rfl
  · cases h
end Go.Proofs.YtphhepnldndbhaaGreatDoor.Sx
namespace Go.Proofs.YtphhepnldndbhaaGreatDoor.Sx
open Go
variable {P : Program} {E : Env} {w : World}
structure Pre (E : Env) (w : World) (F : Foot) (cs : List AObj) : Prop where
  len : cs.length = F.rd.length
  objs : ∀ (i n : Nat) (o : AObj), F.rd[i]? = some n → cs[i]? = some o → ∃ b c, E n = some (b, c) ∧ ObjR E w b c o
  fresh : ∀ n ∈ F.al, E n = none
  nodup : F.al.Nodup
  rdNodup : F.wr = true → F.rd.Nodup
  apart : ∀ (i j n m : Nat) (o o' : AObj) (b : Nat) (c : Cap) (b' : Nat) (c' : Cap), F.rd[i]? = some n → F.rd[j]? = some m → cs[i]? = some o → cs[j]? = some o' → o.owned = true → o'.live = true → E n = some (b, c) → E m = some (b', c') → n ≠ m → ¬ touches b' c' o' b
  nest : ∀ (m b : Nat) (c : Cap) (k : Nat), E m = some (b, c) → under c k → k < w.heap.size ∧ ∀ (i n : Nat) (o : AObj) (c' : Cap), F.rd[i]? = some n → cs[i]? = some o → o.owned = true → E n ≠ some (k, c')
  glob : GlobOK w (fun k => ∃ (i n : Nat) (o : AObj) (c : Cap), F.rd[i]? = some n ∧ cs[i]? = some o ∧ o.owned = true ∧ E n = some (k, c))
def Env.set (E : Env) (k : Nat) (p : Nat × Cap) : Env := fun n => if n = k then some p else E n
theorem Env.le.set {k : Nat} {p : Nat × Cap} (h : E k = none) : Env.le E (E.set k p) := fun n q e => by
  unfold Env.set; split
  · rename_i hn; subst hn; rw [h] at e; cases e
  · exact e
theorem Env.set_same (E : Env) (k : Nat) (p : Nat × Cap) : E.set k p k = some p := by simp [Env.set]
theorem Env.set_other (E : Env) {k n : Nat} (p : Nat × Cap) (h : n ≠ k) : E.set k p n = E n := by simp [Env.set, h]
theorem push_old {w' : World} {obj : Obj} (h : w'.heap = w.heap.push obj) {k : Nat} (hk : k < w.heap.size) : w'.heap[k]? = w.heap[k]? := by
  rw [h, Array.getElem?_push, if_neg (by omega)]
theorem push_new {w' : World} {obj : Obj} (h : w'.heap = w.heap.push obj) : w'.heap[w.heap.size]? = some obj := by
  rw [h]; simp
theorem Eff.push {w' : World} {obj : Obj} {rd ws : List Nat} {k : Nat} {c : Cap} {upd : List AObj} {o : AObj} (hw : w'.heap = w.heap.push obj) (hos : w'.os = w.os) (ht : w'.tape = w.tape) (hout : w'.output = w.output)
    (hk : E k = none) (ho : ObjR (E.set k (w.heap.size, c)) w' w.heap.size c o)
    (hu : ws ≠ [] → ∀ (i n : Nat) (o : AObj), rd[i]? = some n → upd[i]? = some o → ∃ b c, E n = some (b, c) ∧ ObjR E w b c o)
    (hbare : c.bare := by exact Cap.bare_of fun _ _ => rfl) :
    Eff E (E.set k (w.heap.size, c)) w w' ⟨rd, ws, [k]⟩ upd [o] :=
  { le := .set hk
    only := fun n hn => Env.set_other E _ (by simpa using hn)
    wrote := fun e i n o hr hup => by
      obtain ⟨b, c, he, hob⟩ := hu (by intro h0; rw [h0] at e; cases e) i n o hr hup
      refine ⟨b, c, he, ?_⟩
      cases hl : o.live with
      | true => exact (hob.block (fun h1 h2 => push_old hw (hob.lt h1 h2)) fun h1 k hk => push_old hw (hob.ltN h1 hk)).mono (.set hk)
      | false => cases o <;> simp [AObj.live] at hl; trivial
    made := fun i n o' h1 h2 => by
      cases i with
      | zero => simp at h1 h2; subst h1; subst h2; exact ⟨_, _, Env.set_same E _ _, ho, fun _ => .inl (Nat.le_refl _)⟩
      | succ i => simp at h1
    keep := fun k hk _ => push_old hw hk
    newApart := fun i j n m o1 o2 b c b' c' h1 h2 _ _ _ _ _ _ hne => by
      cases i with
      | zero => cases j with
        | zero => exact absurd rfl hne
        | succ j => simp at h2
      | succ i => simp at h1
    bare := fun n b c1 k1 hn he hu => by
      simp only [List.mem_singleton] at hn; subst hn
      rw [Env.set_same] at he; cases he; exact absurd hu (hbare _)
    grow := by rw [hw]; simp
    os := hos, tape := ht, output := hout }
theorem newA_cases {h : Hint} {ob : List Prop} {v : AV} {o : AObj} (k : AllP (newA h ob v o).obl) : AllP ob ∧ (newA h ob v o).val = v ∧ (newA h ob v o).upd = [] ∧ (newA h ob v o).new = [o] := by
  unfold newA at k ⊢
  split
  · rename_i o' ho
    rw [ho] at k
    have := qzu.1 k
    have e : o = o' := this.2.1
    exact ⟨this.1, rfl, rfl, by rw [e]⟩
  · rename_i ho
    split at k
    · rename_i o' ho'; exact absurd ho' (ho o')
    · exact ⟨k, rfl, rfl, rfl⟩
theorem grow_cases {h : Hint} {ob : List Prop} {v : AV} {u : List AObj} {o : AObj} (k : AllP (grow h ob v u o).obl) : AllP ob ∧ (grow h ob v u o).val = v ∧ (grow h ob v u o).upd = u ∧ (grow h ob v u o).new = [o] := by
  unfold grow at k ⊢
  split
  · rename_i o' ho
    rw [ho] at k
    have := qzu.1 k
    have e : o = o' := this.2.1
    exact ⟨this.1, rfl, rfl, by rw [e]⟩
  · rename_i ho
    split at k
    · rename_i o' ho'; exact absurd ho' (ho o')
    · exact ⟨k, rfl, rfl, rfl⟩
theorem good_cells {k : Nat} {cs : List AV} {xs : List Value} {t : TypeId} {r : Result Next} (hk : E k = none) (hc : denC E cs xs)
    (hr : r = .ok (.value (.pointer (some ⟨w.heap.size, 0, none⟩))) { w with heap := w.heap.push (.cells xs.toArray t) }) :
    Good E w ⟨[], [], [k]⟩ [] [.cells cs t] (.ptr k 0) r :=
  ⟨_, _, E.set k (w.heap.size, 0), .inl hr, by simp [den, Env.set_same], .push rfl rfl rfl rfl hk ⟨xs, denC_mono (.set hk) hc, push_new rfl⟩ (fun e => absurd rfl e)⟩
theorem run_zeroValue {t : TypeId} {z : AV} (h : zeroA P t = some z) : ∃ x, (zeroValue t).run P w = .ok x w ∧ den E z = some x := by
  unfold zeroA at h
  simp only [Option.bind_eq_some_iff] at h
  obtain ⟨x, ⟨i, hi, hz⟩, hx⟩ := h
  exact ⟨x, by simp [zeroValue, typeInfo, hi, hz], den_ofConst _ _ _ hx⟩
theorem notTuple_cells {v : AV} {x : Value} (h : v.notTuple = true) (hd : den E v = some x) : ∃ xs, denC E v.cells xs ∧ x.cells = xs.toArray :=
  denC_cells hd (by rintro vs rfl; simp [AV.notTuple] at h)
theorem good_alloc {o : Oper} {ρ : Operand → Value} {t : TypeId} {z : AV} {k : Nat} (ho : o.op = .alloc t) (hz : zeroA P t = some z) (hn : z.notTuple = true) (hk : E k = none) :
    Good E w ⟨[], [], [k]⟩ [] [.cells z.cells t] (.ptr k 0) ((execOp ρ o).run P w) := by
  obtain ⟨x, hx, hd⟩ := run_zeroValue (w := w) (E := E) hz
  obtain ⟨xs, hc, he⟩ := notTuple_cells hn hd
  refine good_cells hk hc ?_
  simp [execOp, ho, Instr.alloc, hx, newVar, newRow, he]
theorem good_box {o : Oper} {ρ : Operand → Value} {t : TypeId} {x : Operand} {v : AV} {k : Nat} (ho : o.op = .box t x) (hv : den E v = some (ρ x)) (hn : v.notTuple = true) (hk : E k = none) :
    Good E w ⟨[], [], [k]⟩ [] [.cells v.cells t] (.ptr k 0) ((execOp ρ o).run P w) := by
  obtain ⟨xs, hc, he⟩ := notTuple_cells hn hv
  refine good_cells hk hc ?_
  simp [execOp, ho, Instr.box, newVar, newRow, he]
theorem cells_len {v : AV} {x : Value} {xs : List Value} (hc : denC E v.cells xs) (he : x.cells = xs.toArray) : x.cells.size = v.cells.length := by
  rw [he]; simp [qxu hc]
theorem foldl_fill (off : Nat) : ∀ (cs : List Value) (j : Nat) (acc : Array Value), (cs.zipIdx j).foldl (fun cs (c, j) => cs.setIfInBounds (off + j) c) acc = (over acc.toList (off + j) cs).toArray
  | [], j, acc => by simp [over]
  | c :: cs, j, acc => by
    simp only [List.zipIdx_cons, List.foldl_cons]
    rw [foldl_fill off cs (j + 1)]
    simp [over, Nat.add_assoc]
theorem fillA_run {place : Nat → Option (Nat × Nat)} : ∀ (ps : List (Nat × AV)) (qs : List (Nat × Value)) (cs : List AV) (xs : List Value) (ob : List Prop) (c : List AV),
    denC E cs xs → fillA place cs ps = some (ob, c) → AllP ob → (ps.all fun p => p.2.notTuple) = true → qs.map (·.1) = ps.map (·.1) → denL E (ps.map (·.2)) = some (qs.map (·.2)) →
    ∃ ys, Instr.fill place xs.toArray qs = some ys.toArray ∧ denC E c ys
  | [], qs, cs, xs, ob, c, hc, hf, hob, hn, hi, hv => by
    simp at hi; subst hi
    simp only [fillA, Option.some.injEq, Prod.mk.injEq] at hf
    obtain ⟨_, rfl⟩ := hf
    exact ⟨xs, rfl, hc⟩
  | (i, v) :: ps, qs, cs, xs, ob, c, hc, hf, hob, hn, hi, hv => by
    cases qs with
    | nil => simp at hi
    | cons q qs =>
      obtain ⟨j, x⟩ := q
      simp only [List.map_cons, List.cons.injEq] at hi hv
      obtain ⟨rfl, hi⟩ := hi
      obtain ⟨hx, hv⟩ := denL_split hv
      simp only [List.all_cons, Bool.and_eq_true] at hn
      simp only [fillA] at hf
      split at hf
      · cases hf
      · rename_i off size hp
        split at hf
        · rename_i o c' hf'
          simp only [Option.some.injEq, Prod.mk.injEq] at hf
          obtain ⟨rfl, rfl⟩ := hf
          obtain ⟨h1, h2, h3⟩ := hob
          obtain ⟨vs, hvs, hve⟩ := notTuple_cells hn.1 hx
          have hl := cells_len hvs hve
          have hxl := qxu hc
          have hvl := qxu hvs
          have e : (over xs off vs) = xs.take off ++ vs ++ xs.drop (off + size) := by rw [over_eq _ _ _ (by omega), hvl, h1]
          have hc' : denC E (cs.take off ++ v.cells ++ cs.drop (off + size)) (over xs off vs) := by
            rw [e]; exact denC_append (denC_append (denC_take hc _) hvs) (denC_drop hc _)
          obtain ⟨ys, hy, hd⟩ := fillA_run ps qs _ _ _ _ hc' hf' h3 hn.2 hi hv
          refine ⟨ys, ?_, hd⟩
          simp only [Instr.fill, hp]
          rw [if_neg (by rw [hl]; simp; omega)]
          rw [show (x.cells.zipIdx.foldl (fun cs (c, j) => cs.setIfInBounds (off + j) c) xs.toArray) = (over xs off vs).toArray by
            rw [← Array.foldl_toList, Array.toList_zipIdx, hve]
            simpa using foldl_fill off vs 0 xs.toArray]
          exact hy
        · cases hf
theorem partsA_spec {ρ : Operand → Value} : ∀ (ps : List (Nat × Operand)) (vs : List AV), ps.length = vs.length → denL E vs = some (ps.map fun p => ρ p.2) →
    (partsA ps vs).map (·.1) = ps.map (·.1) ∧ denL E ((partsA ps vs).map (·.2)) = some (ps.map fun p => ρ p.2)
  | [], [], _, h => ⟨rfl, rfl⟩
  | [], v :: vs, h, _ => by simp at h
  | p :: ps, [], h, _ => by simp at h
  | (i, x) :: ps, v :: vs, hl, h => by
    simp only [List.map_cons] at h
    obtain ⟨h1, h2⟩ := denL_split h
    obtain ⟨a, b⟩ := partsA_spec ps vs (by simpa using hl) h2
    exact ⟨by simp [partsA, a], qxz.2 ⟨_, _, h1, b, rfl⟩⟩
theorem mapM_sizes {fs : Array Field} (h : fs.all (fun f => (P.info? f.type).isSome) = true) :
    (fs.mapM (fun f => do pure (f.offset, ← sizeOf f.type) : Field → Sem (Nat × Nat))).run P w = .ok (fs.map fun f => (f.offset, P.cellsOf f.type)) w := by
  obtain ⟨l⟩ := fs
  simp only [List.all_toArray] at h
  rw [List.mapM_toArray]
  have key : ∀ l : List Field, (l.all fun f => (P.info? f.type).isSome) = true →
      (l.mapM (fun f => do pure (f.offset, ← sizeOf f.type) : Field → Sem (Nat × Nat))).run P w = .ok (l.map fun f => (f.offset, P.cellsOf f.type)) w := by
    intro l hl
    induction l with
    | nil => rfl
    | cons f l ih =>
      simp only [List.all_cons, Bool.and_eq_true] at hl
      obtain ⟨i, hi⟩ := Option.isSome_iff_exists.1 hl.1
      have ih' := ih hl.2
      simp only [List.mapM_cons, Sem.run_bind, run_sizeOf' hi, Result.andThen_ok, Sem.run_pure, ih', List.map_cons]
  rw [Sem.run_map, key l h]; simp
theorem buildA_run {t : TypeId} {parts : List (Nat × AV)} {qs : List (Nat × Value)} {ob : List Prop} {c : List AV} (h : buildA P t parts = some (ob, c)) (hob : AllP ob)
    (hi : qs.map (·.1) = parts.map (·.1)) (hv : denL E (parts.map (·.2)) = some (qs.map (·.2))) :
    ∃ x, (Instr.build t qs.toArray).run P w = .ok x w ∧ den E (.agg c) = some x := by
  unfold buildA at h
  split at h
  · rename_i fs z hu hz
    split at h
    · rename_i hc
      simp only [Bool.and_eq_true] at hc
      obtain ⟨x, hx, hd⟩ := run_zeroValue (w := w) (E := E) hz
      obtain ⟨xs, hxs, hxe⟩ := notTuple_cells hc.1.1 hd
      have e : (fun i : Nat => (fs[i]?).map fun f => (f.offset, P.cellsOf f.type)) = fun i => (fs.map fun f => (f.offset, P.cellsOf f.type))[i]? := by funext i; simp
      rw [e] at h
      obtain ⟨ys, hy, hdy⟩ := fillA_run _ _ _ _ _ _ hxs h hob hc.1.2 hi hv
      refine ⟨_, ?_, denC_agg.2 ⟨ys, hdy, rfl⟩⟩
      simp only [Instr.build, Sem.run_bind, hx, Result.andThen_ok, run_underlying' hu, mapM_sizes hc.2, hxe, hy]
      rfl
    · cases h
  · rename_i n e z hu hz
    split at h
    · rename_i hc
      simp only [Bool.and_eq_true] at hc
      obtain ⟨x, hx, hd⟩ := run_zeroValue (w := w) (E := E) hz
      obtain ⟨xs, hxs, hxe⟩ := notTuple_cells hc.1.1 hd
      obtain ⟨i, hi'⟩ := Option.isSome_iff_exists.1 hc.2
      obtain ⟨ys, hy, hdy⟩ := fillA_run _ _ _ _ _ _ hxs h hob hc.1.2 hi hv
      refine ⟨_, ?_, denC_agg.2 ⟨ys, hdy, rfl⟩⟩
      simp only [Instr.build, Sem.run_bind, hx, Result.andThen_ok, run_underlying' hu, run_sizeOf' hi', hxe, hy]
      rfl
    · cases h
  · cases h
end Go.Proofs.YtphhepnldndbhaaGreatDoor.Sx
