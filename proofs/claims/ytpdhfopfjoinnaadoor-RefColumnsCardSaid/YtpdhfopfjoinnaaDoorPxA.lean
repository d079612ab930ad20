/- The evaluator, part A: objects that are told by lists, and what each operation does to them. -/
import Derived.Test.YtpdhfopfjoinnaaDoorSxW
set_option linter.unusedVariables false
namespace Go.Proofs.YtpdhfopfjoinnaaDoor.Sx
open Go

/-- An object: as the executor has it, or a row of whole numbers, or of bytes. -/
inductive PObj where
  | raw (o : AObj)
  | vecI (k : IntKind) (l : List Int) (t : TypeId)
  | arrI (k : IntKind) (l : List Int) (t : TypeId)
  | vecB (l : List UInt8) (t : TypeId)
  | arrB (l : List UInt8) (t : TypeId)
  deriving Inhabited

def PObj.toA : PObj → AObj
  | .raw o => o
  | .vecI k l t => .vec (ints k l) t 1
  | .arrI k l t => .cells (ints k l) t
  | .vecB l t => .vec (u8s l) t 1
  | .arrB l t => .cells (u8s l) t

structure PState where
  slots : List (Option AV)
  mem : List (Option PObj)

def memA (m : List (Option PObj)) : List (Option AObj) := m.map (Option.map PObj.toA)
def PState.toA (s : PState) : AState := ⟨s.slots, memA s.mem⟩

def bcond {α : Type} (b : Bool) (x y : α) : α := match b with | true => x | false => y

/-- What is done: what must hold, the hint for the executor, the objects behind it; or one of two. -/
inductive Alt where
  | ok (chk : Bool) (h : Hint) (upd new : List PObj)
  | br (b : Bool) (x y : Alt)

/-- The first name that is free. -/
def frn : List (Option PObj) → Nat
  | [] => 0
  | none :: _ => 0
  | some _ :: m => frn m + 1

def lookP (m : List (Option PObj)) (n : Nat) : Option PObj := (m[n]?).join

def fillB (place : Nat → Option (Nat × Nat)) (n : Nat) : List (Nat × AV) → Bool
  | [] => true
  | (i, v) :: rest => match place i with
    | none => false
    | some (off, size) => Nat.beq v.cells.length size && Nat.ble (off + size) n && fillB place n rest

def buildB (P : Program) (t : TypeId) (parts : List (Nat × AV)) : Bool :=
  match P.underlying t, zeroA P t with
  | some (.struct fs), some z => fillB (fun i => (fs[i]?).map fun f => (f.offset, P.cellsOf f.type)) z.cells.length parts
  | some (.array _ e), some z => fillB (fun i => some (i * P.cellsOf e, P.cellsOf e)) z.cells.length parts
  | _, _ => false

def okP (chk : Bool) : Option Alt := some (.ok chk {} [] [])

def binP (op : BinOp) (x y : AV) : Bool :=
  match op, x, y with
  | .shl, .int _ _, .int _ b => decide (0 ≤ b)
  | .shr, .int _ _, .int _ b => decide (0 ≤ b)
  | .quo, .int _ _, .int _ b => b != 0
  | .rem, .int _ _, .int _ b => b != 0
  | .add, .str a, .str b => decide (a.length + b.length ≤ 9223372036854775807)
  | _, _, _ => true

def strSliceB (n : Nat) : Option Operand → Option Operand → List AV → Bool
  | none, none, [] => true
  | some _, none, [.int _ i] => decide (0 ≤ i ∧ i.toNat ≤ n)
  | none, some _, [.int _ j] => decide (0 ≤ j ∧ j.toNat ≤ n)
  | some _, some _, [.int _ i, .int _ j] => decide (0 ≤ i ∧ 0 ≤ j ∧ i.toNat ≤ j.toNat ∧ j.toNat ≤ n)
  | _, _, _ => false

def bndB : Option Operand → List AV → Bool
  | none, _ => true
  | some _, .int _ i :: _ => decide (0 ≤ i)
  | some _, _ => false

def boundsB (len cap : Nat) (lo hi mx : Option Operand) (vs : List AV) : Bool :=
  match boundA 0 lo vs with
  | some (_, l, vs1) =>
    match boundA len hi vs1 with
    | some (_, h, vs2) =>
      match boundA cap mx vs2 with
      | some (_, m, _) => bndB lo vs && bndB hi vs1 && bndB mx vs2 && decide (l ≤ h ∧ h ≤ m ∧ m ≤ cap)
      | none => false
    | none => false
  | none => false

def PObj.lenP : PObj → Nat
  | .raw (.vec c _ _) => c.length
  | .vecI _ l _ => l.length
  | .vecB l _ => l.length
  | _ => 0
def PObj.sizeP : PObj → Nat
  | .raw (.vec _ _ sz) => sz
  | .vecI _ _ _ => 1
  | .vecB _ _ => 1
  | _ => 0

def sliceP (P : Program) (t : TypeId) (lo hi mx : Option Operand) (x : AV) (vs : List AV) (mem : List (Option PObj)) : Option Alt :=
  match P.underlying t, x with
  | some .string, .str s => if mx.isNone then okP (strSliceB s.length lo hi vs) else none
  | some (.array n _), .ptr _ _ => okP (boundsB n n lo hi mx vs)
  | some (.slice _), .slice _ _ len cap => okP (boundsB len cap lo hi mx vs)
  | some (.slice _), .nilslice => okP (boundsB 0 0 lo hi mx vs)
  | some (.slice e), .vec nm len => match lookP mem nm, boundA len hi vs with
    | some o, some (_, u, _) => if Nat.beq o.sizeP (P.cellsOf e) then some (.ok (bndB hi vs && decide (0 < P.cellsOf e ∧ u * P.cellsOf e ≤ o.lenP)) {} [o] []) else none
    | _, _ => none
  | _, _ => none

/-- A row of tables' cells, from a place on, all of one kind. -/
def tabAt (l : List (IntKind × Int)) (i : Nat) : Int := (l.getD i (.i64, 0)).2
def tabKind (l : List (IntKind × Int)) : IntKind := (l.getD 0 (.i64, 0)).1
def tabOne (k : IntKind) (l : List (IntKind × Int)) : Bool := l.all fun p => p.1 == k

def byteAt (l : List UInt8) (i : Nat) : Int := ((l.getD i 0).toNat : Int)
def toByte (n : Int) : UInt8 := UInt8.ofNat n.toNat

def loadP (P : Program) (t : TypeId) (nm off : Nat) (mem : List (Option PObj)) : Option Alt :=
  match P.underlying t, lookP mem nm with
  | some d, some (.raw o) =>
    match o.known with
    | some (o0, cs) => some (.ok (Nat.ble o0 off && (if isAggD d then Nat.ble (off - o0 + P.cellsOf t) cs.length else true)) {} [.raw o] [])
    | none => none
  | some d, some (.vecI k l e) => if isAggD d then none else some (.ok (decide (off < l.length)) { val := some (.int k (l.getD off 0)) } [.vecI k l e] [])
  | some d, some (.arrI k l e) => if isAggD d then none else some (.ok (decide (off < l.length)) { val := some (.int k (l.getD off 0)) } [.arrI k l e] [])
  | some d, some (.vecB l e) => if isAggD d then none else some (.ok (decide (off < l.length)) { val := some (.int .u8 (byteAt l off)) } [.vecB l e] [])
  | some d, some (.arrB l e) => if isAggD d then none else some (.ok (decide (off < l.length)) { val := some (.int .u8 (byteAt l off)) } [.arrB l e] [])
  | _, _ => none

def loadGP (P : Program) (t : TypeId) (g off : Nat) : Option Alt :=
  match P.underlying t, gtab g with
  | some d, some l =>
    if tabOne (tabKind l) l then
      if isAggD d then some (.ok (decide (off + P.cellsOf t ≤ l.length)) { val := some (.agg ((List.range (P.cellsOf t)).map fun j => .int (tabKind l) (tabAt l (off + j)))) } [] [])
      else some (.ok (decide (off < l.length)) { val := some (.int (tabKind l) (tabAt l off)) } [] [])
    else none
  | _, _ => none

def storeP (P : Program) (t : TypeId) (nm off : Nat) (v : AV) (mem : List (Option PObj)) : Option Alt :=
  match lookP mem nm, v with
  | some (.raw o), v =>
    match o.known with
    | some (_, cs) =>
      match o.setCells (cs.take off ++ v.cells ++ cs.drop (off + P.cellsOf t)) with
      | some o1 => some (.ok (Nat.beq v.cells.length (P.cellsOf t) && Nat.ble (off + P.cellsOf t) cs.length) {} [.raw o1] [])
      | none => none
    | none => none
  | some (.vecI k l e), .int k' n => if k' == k && Nat.beq (P.cellsOf t) 1 then some (.ok (decide (off < l.length)) { obj := some [(PObj.vecI k (l.set off n) e).toA] } [.vecI k (l.set off n) e] []) else none
  | some (.arrI k l e), .int k' n => if k' == k && Nat.beq (P.cellsOf t) 1 then some (.ok (decide (off < l.length)) { obj := some [(PObj.arrI k (l.set off n) e).toA] } [.arrI k (l.set off n) e] []) else none
  | some (.vecB l e), .int k' n => if k' == .u8 && Nat.beq (P.cellsOf t) 1 then some (.ok (decide (off < l.length) && decide (0 ≤ n ∧ n < 256)) { obj := some [(PObj.vecB (l.set off (toByte n)) e).toA] } [.vecB (l.set off (toByte n)) e] []) else none
  | some (.arrB l e), .int k' n => if k' == .u8 && Nat.beq (P.cellsOf t) 1 then some (.ok (decide (off < l.length) && decide (0 ≤ n ∧ n < 256)) { obj := some [(PObj.arrB (l.set off (toByte n)) e).toA] } [.arrB (l.set off (toByte n)) e] []) else none
  | _, _ => none

/-- Cells that are bytes, whole numbers of one kind. -/
def bytesOfA : List AV → Option (Bool × List UInt8)
  | [] => some (true, [])
  | .int .u8 n :: cs => (bytesOfA cs).map fun p => (decide (0 ≤ n ∧ n < 256) && p.1, toByte n :: p.2)
  | _ => none
def intsOfA (k : IntKind) : List AV → Option (List Int)
  | [] => some []
  | .int k' n :: cs => if k' == k then (intsOfA k cs).map (n :: ·) else none
  | _ => none

def roomB (m bytes : Nat) : Bool := decide (2 * m * bytes ≤ 281474976710656 ∧ 2 * m < 9223372036854775808)

/-- What is appended: its cells, or its bytes, and how many. -/
inductive News where
  | cells (ob : Bool) (n : Nat) (c : List AV)
  | bytes (ob : Bool) (n : Nat) (l : List UInt8)
  | nums (ob : Bool) (n : Nat) (k : IntKind) (l : List Int)

def newsP (sz : Nat) (x : AV) (mem : List (Option PObj)) : Option News :=
  match x with
  | .nilslice => some (.cells true 0 [])
  | .str s => some (.bytes (Nat.beq sz 1) s.length s)
  | .slice nm off len _ =>
    match lookP mem nm with
    | some (.raw o) => match o.known with
      | some (o0, c) => some (.cells (Nat.ble o0 off && Nat.ble (off - o0 + len * sz) c.length) len ((c.drop (off - o0)).take (len * sz)))
      | none => none
    | some (.arrB l _) => if Nat.beq sz 1 then some (.bytes (decide (off + len ≤ l.length)) len ((l.drop off).take len)) else none
    | some (.arrI k l _) => if Nat.beq sz 1 then some (.nums (decide (off + len ≤ l.length)) len k ((l.drop off).take len)) else none
    | _ => none
  | .vec nm len =>
    match lookP mem nm with
    | some (.raw o) => match o.known with
      | some (o0, c) => some (.cells (Nat.beq o0 0 && Nat.ble (len * sz) c.length) len (c.take (len * sz)))
      | none => none
    | some (.vecB l _) => if Nat.beq sz 1 then some (.bytes (decide (len ≤ l.length)) len (l.take len)) else none
    | some (.vecI k l _) => if Nat.beq sz 1 then some (.nums (decide (len ≤ l.length)) len k (l.take len)) else none
    | _ => none
  | _ => none

def nameP (x : AV) (mem : List (Option PObj)) : List PObj := x.name.filterMap fun n => lookP mem n

/-- The new row of an append: what it must be, and what it is, out of old cells or none. -/
def growP (P : Program) (e : TypeId) (sz : Nat) (old : Option PObj) (w : News) : Option (Bool × PObj) :=
  match P.underlying e, old, w with
  | some (.int .u8), none, .bytes ob _ l => if Nat.beq sz 1 then some (ob, .vecB l e) else none
  | some (.int .u8), none, .cells ob _ c => if Nat.beq sz 1 then (bytesOfA c).map fun p => (ob && p.1, .vecB p.2 e) else none
  | some (.int .u8), some (.vecB o t), .bytes ob _ l => if Nat.beq sz 1 && t == e then some (ob, .vecB (o ++ l) e) else none
  | some (.int .u8), some (.vecB o t), .cells ob _ c => if Nat.beq sz 1 && t == e then (bytesOfA c).map fun p => (ob && p.1, .vecB (o ++ p.2) e) else none
  | some (.int k), none, .nums ob _ k' l => if Nat.beq sz 1 && k == k' then some (ob, .vecI k l e) else none
  | some (.int k), none, .cells ob _ c => if Nat.beq sz 1 then (intsOfA k c).map fun p => (ob, .vecI k p e) else none
  | some (.int k), some (.vecI k2 o t), .nums ob _ k' l => if Nat.beq sz 1 && t == e && k2 == k' then some (ob, .vecI k2 (o ++ l) e) else none
  | some (.int k), some (.vecI k2 o t), .cells ob _ c => if Nat.beq sz 1 && t == e then (intsOfA k2 c).map fun p => (ob, .vecI k2 (o ++ p) e) else none
  | _, none, .cells ob _ c => some (ob, .raw (.vec c e sz))
  | _, some (.raw (.vec o t s)), .cells ob _ c => if t == e && s == sz then some (ob, .raw (.vec (o ++ c) t s)) else none
  | _, _, _ => none

def News.n : News → Nat
  | .cells _ n _ => n
  | .bytes _ n _ => n
  | .nums _ n _ _ => n
def News.ob : News → Bool
  | .cells b _ _ => b
  | .bytes b _ _ => b
  | .nums b _ _ _ => b
def News.some? : News → Bool
  | .cells _ n _ => Nat.blt 0 n
  | _ => false
def PObj.len : PObj → Nat
  | .raw o => match o.known with | some (_, c) => c.length | none => 0
  | .vecI _ l _ => l.length
  | .arrI _ l _ => l.length
  | .vecB l _ => l.length
  | .arrB l _ => l.length

def appendP (P : Program) (c : Call) (s x : AV) (mem : List (Option PObj)) : Option Alt :=
  match (c.argTypes[0]?).bind P.underlying with
  | some (.slice e) =>
    match P.info? e with
    | some ie =>
      match newsP ie.size x mem with
      | some w =>
        match s with
        | .nilslice =>
          match growP P e ie.size none w with
          | some (b, o) =>
            let yes := Alt.ok (b && roomB w.n ie.bytes) { nm := [frn mem], obj := some [o.toA] } (nameP x mem) [o]
            let no := Alt.ok w.ob {} (nameP x mem) []
            some (match w with
              | .cells _ n _ => match n with
                | 0 => no
                | _ => yes
              | _ => .br (decide (0 < w.n)) yes no)
          | none => none
        | .vec nm len =>
          match lookP mem nm with
          | some old =>
            match growP P e ie.size (some old) w with
            | some (b, o) => some (.ok (b && decide (old.len = len * ie.size) && roomB (len + w.n) ie.bytes) { nm := [frn mem], obj := some [o.toA] } (.raw .dead :: nameP x mem) [o])
            | none => none
          | none => none
        | .slice nm off len cap =>
          match lookP mem nm with
          | some (.raw o) => match o.known, w with
            | some (o0, oc), .cells ob n cx => some (.ok (ob && Nat.ble o0 off && Nat.ble (off - o0 + len * ie.size) oc.length && Nat.beq len cap && Nat.blt 0 n && roomB (len + n) ie.bytes) { nm := [frn mem] } (.raw o :: nameP x mem) [.raw (.vec ((oc.drop (off - o0)).take (len * ie.size) ++ cx) e ie.size)])
            | _, _ => none
          | _ => none
        | _ => none
      | none => none
    | none => none
  | _ => none

/-- Bytes to a string. -/
def stringP (x : AV) (mem : List (Option PObj)) : Option Alt :=
  match x with
  | .vec nm len => match lookP mem nm with
    | some (.vecB l e) => some (.ok (decide (len ≤ l.length)) { val := some (.str (l.take len)) } [.vecB l e] [])
    | _ => none
  | .slice nm off len _ => match lookP mem nm with
    | some (.arrB l e) => some (.ok (decide (off + len ≤ l.length)) { val := some (.str ((l.drop off).take len)) } [.arrB l e] [])
    | some (.raw o) => match o.known with
      | some (o0, c) => match bytesOfA ((c.drop (off - o0)).take (len * 1)) with
        | some (b, l) => some (.ok (b && Nat.ble o0 off && Nat.ble (off - o0 + len * 1) c.length) { val := some (.str l) } [.raw o] [])
        | none => none
      | none => none
    | _ => none
  | _ => none

def convP (P : Program) (src dst : TypeId) (x : AV) (mem : List (Option PObj)) : Option Alt :=
  match P.underlying src, P.underlying dst, x with
  | some _, some (.slice e), .str s => match P.underlying e with
    | some (.int .u8) => some (.ok true { nm := [frn mem] } [] [.vecB s e])
    | _ => none
  | some (.slice e), some .string, .nilslice => match P.underlying e with
    | some (.int .u8) => okP true
    | _ => none
  | some (.slice e), some .string, x => match P.underlying e with
    | some (.int .u8) => stringP x mem
    | _ => none
  | some (.pointer t), some .unsafePointer, .ptr nm off => match lookP mem nm with
    | some (.raw (.cells c ty)) => some (.ok (Nat.blt off c.length) {} [.raw (.cells c ty)] [])
    | _ => none
  | some .unsafePointer, some (.pointer u), .ptr nm off => match lookP mem nm with
    | some (.raw (.cells c ty)) => some (.ok (liesAt P P.depth ty (c.length / P.cellsOf ty) off u 1) {} [.raw (.cells c ty)] [])
    | _ => none
  | some _, some (.int _), .int _ _ => okP true
  | some _, some .string, .str _ => okP true
  | some _, some .string, .int _ _ => okP true
  | _, _, _ => none

def nextP (nm : Nat) (mem : List (Option PObj)) : Option Alt :=
  match lookP mem nm with
  | some (.raw (.iter s pos)) =>
    some (.br (decide (pos < s.length))
      (.ok true { val := some (.tuple [.bool true, .int .i64 pos, .int .i32 (Utf8.decode ⟨s.toArray⟩ pos).1]), obj := some [.iter s (pos + (Utf8.decode ⟨s.toArray⟩ pos).2)] } [.raw (.iter s (pos + (Utf8.decode ⟨s.toArray⟩ pos).2))] [])
      (.ok true { val := some (.tuple [.bool false]) } [.raw (.iter s pos)] []))
  | _ => none

def pact (P : Program) (o : Op) (vals : List AV) (mem : List (Option PObj)) : Option Alt :=
  match o, vals with
  | .move _, [_] => okP true
  | .assign _, [_] => okP true
  | .pick _ _ _, [_, _, _] => okP true
  | .alloc t, [] => (zeroA P t).map fun z => .ok true { nm := [frn mem] } [] [.raw (.cells z.cells t)]
  | .box t _, [v] => some (.ok true { nm := [frn mem] } [] [.raw (.cells v.cells t)])
  | .build t ps, vs => okP (buildB P t (partsA ps.toList vs))
  | .buildSlice t len ps, vs => match P.underlying t with
    | some (.slice e) => match P.info? e, zeroA P e with
      | some ie, some z => match fillA (fun i => some (i * ie.size, ie.size)) (List.replicate len z.cells).flatten (partsA ps.toList vs) with
        | some (_, c) => some (.ok (fillB (fun i => some (i * ie.size, ie.size)) (List.replicate len z.cells).flatten.length (partsA ps.toList vs)) { nm := [frn mem] } [] [.raw (.cells c e)])
        | none => none
      | _, _ => none
    | _ => none
  | .makeSlice t _ _, [.int _ len, .int _ cap] => match P.underlying t with
    | some (.slice e) => match P.info? e, zeroA P e with
      | some ie, some z =>
        let chk := decide (0 ≤ len ∧ len ≤ cap ∧ cap * ie.bytes ≤ 281474976710656 ∧ cap < 9223372036854775808)
        match z with
        | .int .u8 0 => some (.ok chk { nm := [frn mem], obj := some [(PObj.arrB (List.replicate cap.toNat 0) e).toA] } [] [.arrB (List.replicate cap.toNat 0) e])
        | .int k n => some (.ok chk { nm := [frn mem], obj := some [(PObj.arrI k (List.replicate cap.toNat n) e).toA] } [] [.arrI k (List.replicate cap.toNat n) e])
        | z => some (.ok chk { nm := [frn mem] } [] [.raw (.cells (List.replicate cap.toNat z.cells).flatten e)])
      | _, _ => none
    | _ => none
  | .load t _, [.ptr nm off] => loadP P t nm off mem
  | .load t _, [.gptr g off] => loadGP P t g off
  | .store t _ _, [.ptr nm off, v] => storeP P t nm off v mem
  | .nilCheck _, [_] => okP true
  | .binOp op _ _ _ _, [x, y] => okP (binP op x y)
  | .unOp _ _ _, [_] => okP true
  | .convert src dst _, [x] => convP P src dst x mem
  | .makeInterface _ _, [_] => okP true
  | .makeFunc _ _ _, _ => okP true
  | .slice t _ lo hi mx, x :: vs => sliceP P t lo hi mx x vs mem
  | .fieldAddr _ _ _, [_] => okP true
  | .field t _ f, [.agg c] => match P.underlying t with
    | some (.struct fs) => match fs[f]? with
      | some fd => match P.underlying fd.type with
        | some d => okP (if isAggD d then Nat.ble (fd.offset + P.cellsOf fd.type) c.length else true)
        | none => none
      | none => none
    | _ => none
  | .indexAddr t _ _, [x, .int _ i] => match P.underlying t, x with
    | some (.array n _), _ => okP (decide (0 ≤ i ∧ i < n))
    | some (.slice _), .slice _ _ len _ => okP (decide (0 ≤ i ∧ i < len))
    | some (.slice _), .vec _ len => okP (decide (0 ≤ i ∧ i < len))
    | _, _ => none
  | .index t _ _, [x, .int _ i] => match P.underlying t, x with
    | some .string, .str s => some (.ok (decide (0 ≤ i ∧ i.toNat < s.length)) { val := some (.int .u8 (byteAt s i.toNat)) } [] [])
    | some (.array n e), .agg c => match P.underlying e with
      | some d => okP (decide (0 ≤ i ∧ i < n) && (if isAggD d then Nat.ble (i.toNat * P.cellsOf e + P.cellsOf e) c.length else true))
      | none => none
    | _, _ => none
  | .extract _ _, [_] => okP true
  | .range _ _, [.str s] => some (.ok true { nm := [frn mem] } [] [.raw (.iter s 0)])
  | .next _ true, [.ptr nm 0] => nextP nm mem
  | .call c, vs =>
    match c.callee, vs with
    | .builtin .len, [_] => okP true
    | .builtin .min, [_, _] => okP true
    | .builtin .max, [_, _] => okP true
    | .builtin .append, [s, x] => appendP P c s x mem
    | .builtin .cap, [_] => okP true
    | .builtin .copy, [s, .nilslice] => some (.ok true {} (nameP s mem) [])
    | .builtin .unsafeSliceData, [.nilslice] => okP true
    | .builtin .unsafeSliceData, [.vec nm _] => match lookP mem nm with
      | some (.raw (.vec cs t sz)) => some (.ok (Nat.blt 0 cs.length) {} [.raw (.vec cs t sz)] [])
      | some (.vecB l t) => some (.ok (decide (0 < l.length)) {} [.vecB l t] [])
      | _ => none
    | .builtin .unsafeString, [.nilptr, .int .i64 n] => okP (n == 0)
    | .builtin .unsafeString, [.ptr nm 0, .int .i64 n] => match lookP mem nm with
      | some (.vecB l t) => some (.ok (n == (l.length : Int) && !l.isEmpty && decide (l.length < 9223372036854775808)) { val := some (.str l) } [.raw .dead] [])
      | _ => none
    | _, _ => none
  | _, _ => none

end Go.Proofs.YtpdhfopfjoinnaaDoor.Sx
