/- The evaluator, part A: objects that are told by lists, and what each operation does to them. -/
import Derived.Test.YtphhepnldndbhaaGreatDoorGr03
set_option linter.unusedVariables false
namespace Go.Proofs.YtphhepnldndbhaaGreatDoor.Sx
open Go

/-- Rows as cells, and cells as rows. -/
def rowsA (sh : List CK) (rows : List (List CV)) : List AV := rows.flatMap (rowA sh)
def cvOf : CK → AV → Option CV
  | .int k, .int k' n => if k == k' then some (.mk n [] false []) else none
  | .str, .str s => some (.mk 0 s false [])
  | .bool, .bool b => some (.mk 0 [] b [])
  | .nils, .nilslice => some (.mk 0 [] false [])
  | _, _ => none
def rowOf : List CK → List AV → Option (List CV)
  | [], [] => some []
  | k :: sh, a :: cs => match cvOf k a, rowOf sh cs with
    | some c, some r => some (c :: r)
    | _, _ => none
  | _, _ => none
def rowsOf (sh : List CK) : Nat → List AV → Option (List (List CV))
  | 0, [] => some []
  | n + 1, cs => match rowOf sh (cs.take sh.length), rowsOf sh n (cs.drop sh.length) with
    | some r, some rs => some (r :: rs)
    | _, _ => none
  | _, _ => none
def ckOf (P : Program) (t : TypeId) : Option CK :=
  match P.underlying t with
  | some (.int k) => some (.int k)
  | some .string => some .str
  | some .bool => some .bool
  | some (.slice _) => some .nils
  | _ => none
def shapeN (P : Program) : Nat → List Field → Option (List CK)
  | _, [] => some []
  | 0, _ => none
  | n + 1, f :: fs => match (match ckOf P f.type with
      | some k => some [k]
      | none => match P.underlying f.type with
        | some (.struct gs) => shapeN P n gs.toList
        | _ => none), shapeN P n fs with
    | some k, some l => some (k ++ l)
    | _, _ => none
def shapeOf (P : Program) (fs : List Field) : Option (List CK) := shapeN P 64 fs
/-- An object: as the executor has it, or a row of whole numbers, or of bytes. -/
inductive PObj where
  | raw (o : AObj)
  | vecI (k : IntKind) (l : List Int) (t : TypeId)
  | arrI (k : IntKind) (l : List Int) (t : TypeId)
  | vecB (l : List UInt8) (t : TypeId)
  | arrB (l : List UInt8) (t : TypeId)
  | shutB (l : List UInt8) (t : TypeId)
  | vecR (sh : List CK) (rows : List (List CV)) (t : TypeId)
  | arrT (l : List Bool) (t : TypeId)
  | flatI (m : Bool) (l : List Int)
  | flatU (m : Bool) (l : List UInt8)
  deriving Inhabited

def PObj.toA : PObj → AObj
  | .raw o => o
  | .vecI k l t => .vec (ints k l) t 1
  | .arrI k l t => .cells (ints k l) t
  | .vecB l t => .vec (u8s l) t 1
  | .arrB l t => .cells (u8s l) t
  | .shutB l t => .shut (u8s l) t 1
  | .vecR sh rows t => .vec (rowsA sh rows) t sh.length
  | .arrT l t => .cells (l.map .bool) t
  | .flatI m l => .flat m (ints .i64 l)
  | .flatU m l => .flat m (u8s l)

structure PState where
  slots : List (Option AV)
  mem : List (Option PObj)

def memA (m : List (Option PObj)) : List (Option AObj) := m.map (Option.map PObj.toA)
def PState.toA (s : PState) : AState := ⟨s.slots, memA s.mem⟩

def bcond {α : Type} (b : Bool) (x y : α) : α := match b with | true => x | false => y

/-- What is done: what must hold, the hint for the executor, the objects behind it; or one of two. -/
inductive Alt where
  | ok (chk : Bool) (h : Hint) (upd new : List PObj)
  | br (b : Bool) (x y : Alt)

/-- The first name that is free. -/
def frn : List (Option PObj) → Nat
  | [] => 0
  | none :: _ => 0
  | some _ :: m => frn m + 1

def lookP (m : List (Option PObj)) (n : Nat) : Option PObj := (m[n]?).join

def fillB (place : Nat → Option (Nat × Nat)) (n : Nat) : List (Nat × AV) → Bool
  | [] => true
  | (i, v) :: rest => match place i with
    | none => false
    | some (off, size) => Nat.beq v.cells.length size && Nat.ble (off + size) n && fillB place n rest

def buildB (P : Program) (t : TypeId) (parts : List (Nat × AV)) : Bool :=
  match P.underlying t, zeroA P t with
  | some (.struct fs), some z => fillB (fun i => (fs[i]?).map fun f => (f.offset, P.cellsOf f.type)) z.cells.length parts
  | some (.array _ e), some z => fillB (fun i => some (i * P.cellsOf e, P.cellsOf e)) z.cells.length parts
  | _, _ => false

def okP (chk : Bool) : Option Alt := some (.ok chk {} [] [])

def binP (op : BinOp) (x y : AV) : Bool :=
  match op, x, y with
  | .shl, .int _ _, .int _ b => decide (0 ≤ b)
  | .shr, .int _ _, .int _ b => decide (0 ≤ b)
  | .quo, .int _ _, .int _ b => b != 0
  | .rem, .int _ _, .int _ b => b != 0
  | .add, .str a, .str b => decide (a.length + b.length ≤ 9223372036854775807)
  | _, _, _ => true

def strSliceB (n : Nat) : Option Operand → Option Operand → List AV → Bool
  | none, none, [] => true
  | some _, none, [.int _ i] => decide (0 ≤ i ∧ i.toNat ≤ n)
  | none, some _, [.int _ j] => decide (0 ≤ j ∧ j.toNat ≤ n)
  | some _, some _, [.int _ i, .int _ j] => decide (0 ≤ i ∧ 0 ≤ j ∧ i.toNat ≤ j.toNat ∧ j.toNat ≤ n)
  | _, _, _ => false

def bndB : Option Operand → List AV → Bool
  | none, _ => true
  | some _, .int _ i :: _ => decide (0 ≤ i)
  | some _, _ => false

def boundsB (len cap : Nat) (lo hi mx : Option Operand) (vs : List AV) : Bool :=
  match boundA 0 lo vs with
  | some (_, l, vs1) =>
    match boundA len hi vs1 with
    | some (_, h, vs2) =>
      match boundA cap mx vs2 with
      | some (_, m, _) => bndB lo vs && bndB hi vs1 && bndB mx vs2 && decide (l ≤ h ∧ h ≤ m ∧ m ≤ cap)
      | none => false
    | none => false
  | none => false

def PObj.lenP : PObj → Nat
  | .raw (.vec c _ _) => c.length
  | .vecI _ l _ => l.length
  | .vecB l _ => l.length
  | .vecR sh rows _ => rows.length * sh.length
  | _ => 0
def PObj.sizeP : PObj → Nat
  | .raw (.vec _ _ sz) => sz
  | .vecI _ _ _ => 1
  | .vecB _ _ => 1
  | .vecR sh _ _ => sh.length
  | _ => 0

def sliceP (P : Program) (t : TypeId) (lo hi mx : Option Operand) (x : AV) (vs : List AV) (mem : List (Option PObj)) : Option Alt :=
  match P.underlying t, x with
  | some .string, .str s => if mx.isNone then okP (strSliceB s.length lo hi vs) else none
  | some (.array n _), .ptr _ _ => okP (boundsB n n lo hi mx vs)
  | some (.slice _), .slice _ _ len cap => okP (boundsB len cap lo hi mx vs)
  | some (.slice _), .nilslice => okP (boundsB 0 0 lo hi mx vs)
  | some (.slice _), .dsl _ len => match lo with
    | none => match mx, boundA len hi vs with
      | none, some (_, u, _) => okP (bndB hi vs && decide (u ≤ len))
      | _, _ => none
    | some p => match mx, boundA 0 (some p) vs with
      | none, some (_, l, vs1) => match boundA len hi vs1 with
        | some (_, u, []) => okP (bndB (some p) vs && (bndB hi vs1 && decide (l ≤ u ∧ u ≤ len)))
        | _ => none
      | _, _ => none
  | some (.slice e), .vec nm len => match lo with
    | none => match lookP mem nm, boundA len hi vs with
      | some o, some (_, u, _) => if Nat.beq o.sizeP (P.cellsOf e) then some (.ok (bndB hi vs && decide (0 < P.cellsOf e ∧ u * P.cellsOf e ≤ o.lenP)) {} [o] []) else none
      | _, _ => none
    | some p => match mx, lookP mem nm, boundA 0 (some p) vs with
      | none, some o, some (_, l, vs1) => match boundA len hi vs1 with
        | some (_, u, []) => some (.ok (bndB (some p) vs && (bndB hi vs1 && decide (l ≤ u ∧ u ≤ len))) {} [o] [])
        | _ => none
      | _, _, _ => none
  | _, _ => none

/-- A row of tables' cells, from a place on, all of one kind. -/
def tabAt (l : List (IntKind × Int)) (i : Nat) : Int := (l.getD i (.i64, 0)).2
def tabKind (l : List (IntKind × Int)) : IntKind := (l.getD 0 (.i64, 0)).1
def tabOne (k : IntKind) (l : List (IntKind × Int)) : Bool := l.all fun p => p.1 == k

def byteAt (l : List UInt8) (i : Nat) : Int := ((l.getD i 0).toNat : Int)
def toByte (n : Int) : UInt8 := UInt8.ofNat n.toNat

def intsOfA (k : IntKind) : List AV → Option (List Int)
  | [] => some []
  | .int k' n :: cs => if k' == k then (intsOfA k cs).map (n :: ·) else none
  | _ => none
/-- Many cells that are texts, whole numbers: a place among them may be open. -/
def strsOfA : List AV → Option (List (List UInt8))
  | [] => some []
  | .str s :: cs => (strsOfA cs).map (s :: ·)
  | _ => none
def manyStr (cs : List AV) : Option (List (List UInt8)) := if Nat.ble 8 cs.length then strsOfA cs else none
def manyInt (cs : List AV) : Option (List Int) := if Nat.ble 8 cs.length then intsOfA .i64 cs else none

def loadP (P : Program) (t : TypeId) (nm off : Nat) (mem : List (Option PObj)) : Option Alt :=
  match P.underlying t, lookP mem nm with
  | some d, some (.raw o) =>
    match o.known with
    | some (o0, cs) =>
      match manyStr cs, isAggD d with
      | some l, false => some (.ok (Nat.ble o0 off && decide (off - o0 < l.length)) { val := some (.str (l.getD (off - o0) [])) } [.raw o] [])
      | _, _ =>
        match manyInt cs, isAggD d with
        | some l, false => some (.ok (Nat.ble o0 off && decide (off - o0 < l.length)) { val := some (.int .i64 (l.getD (off - o0) 0)) } [.raw o] [])
        | _, _ => some (.ok (Nat.ble o0 off && (if isAggD d then Nat.ble (off - o0 + P.cellsOf t) cs.length else true)) {} [.raw o] [])
    | none => none
  | some d, some (.vecI k l e) => if isAggD d then none else some (.ok (decide (off < l.length)) { val := some (.int k (l.getD off 0)) } [.vecI k l e] [])
  | some d, some (.arrI k l e) => if isAggD d then none else some (.ok (decide (off < l.length)) { val := some (.int k (l.getD off 0)) } [.arrI k l e] [])
  | some d, some (.vecB l e) => if isAggD d then none else some (.ok (decide (off < l.length)) { val := some (.int .u8 (byteAt l off)) } [.vecB l e] [])
  | some d, some (.arrB l e) => if isAggD d then none else some (.ok (decide (off < l.length)) { val := some (.int .u8 (byteAt l off)) } [.arrB l e] [])
  | some d, some (.arrT l e) => if isAggD d then none else some (.ok (decide (off < l.length)) { val := some (.bool (l.getD off false)) } [.arrT l e] [])
  | _, _ => none

def loadDP (P : Program) (t : TypeId) (nm off : Nat) (mem : List (Option PObj)) : Option Alt :=
  match P.underlying t, lookP mem nm with
  | some d, some (.flatI m l) => if isAggD d then none else some (.ok (decide (off < l.length)) { val := some (.int .i64 (l.getD off 0)) } [.flatI m l] [])
  | some d, some (.flatU m l) => if isAggD d then none else some (.ok (decide (off < l.length)) { val := some (.int .u8 (byteAt l off)) } [.flatU m l] [])
  | _, _ => none

/-- A cell of a row, or several, side by side. -/
def loadRP (P : Program) (t : TypeId) (w i j : Nat) (nm : Nat) (mem : List (Option PObj)) : Option Alt :=
  match P.underlying t, lookP mem nm with
  | some _, some (.raw (.flatN sh rows)) => match slOf sh, j with
    | some q, 0 => some (.ok (decide (i < rows.length) && Nat.beq w sh.length && Nat.beq (P.cellsOf t) sh.length) { nm := [frn mem], view := 6 } [] [.flatI false (kidsOf (rowCV (rowAt rows i) q))])
    | _, _ => none
  | some d, some (.raw (.flatR m sh rows)) => if isAggD d then some (.ok (decide (i < rows.length) && Nat.beq w sh.length && Nat.ble (j + P.cellsOf t) sh.length) {} [.raw (.flatR m sh rows)] []) else some (.ok (decide (i < rows.length) && Nat.beq w sh.length) {} [.raw (.flatR m sh rows)] [])
  | some d, some (.vecR sh rows e) =>
    if isAggD d then some (.ok (decide (i < rows.length) && Nat.beq w sh.length && Nat.ble (j + P.cellsOf t) sh.length) { val := some (.agg (((rowA sh (rowAt rows i)).drop j).take (P.cellsOf t))) } [.vecR sh rows e] [])
    else some (.ok (decide (i < rows.length) && Nat.beq w sh.length && Nat.blt j sh.length) { val := some (cellA (sh.getD j .any) (rowCV (rowAt rows i) j)) } [.vecR sh rows e] [])
  | _, _ => none

def loadGP (P : Program) (t : TypeId) (g off : Nat) : Option Alt :=
  match P.underlying t, gtab g with
  | some d, none => match gstr g with
    | some l => if isAggD d then some (.ok (decide (off + P.cellsOf t ≤ l.length)) { val := some (.agg ((List.range (P.cellsOf t)).map fun j => .str (l.getD (off + j) []))) } [] [])
      else some (.ok (decide (off < l.length)) { val := some (.str (l.getD off [])) } [] [])
    | none => none
  | some d, some l =>
    if tabOne (tabKind l) l then
      if isAggD d then some (.ok (decide (off + P.cellsOf t ≤ l.length)) { val := some (.agg ((List.range (P.cellsOf t)).map fun j => .int (tabKind l) (tabAt l (off + j)))) } [] [])
      else some (.ok (decide (off < l.length)) { val := some (.int (tabKind l) (tabAt l off)) } [] [])
    else none
  | _, _ => none

def storeP (P : Program) (t : TypeId) (nm off : Nat) (v : AV) (mem : List (Option PObj)) : Option Alt :=
  match lookP mem nm, v with
  | some (.raw o), v =>
    match o.known with
    | some (_, cs) =>
      match o.setCells (cs.take off ++ v.cells ++ cs.drop (off + P.cellsOf t)) with
      | some o1 => some (.ok (Nat.beq v.cells.length (P.cellsOf t) && Nat.ble (off + P.cellsOf t) cs.length) {} [.raw o1] [])
      | none => none
    | none => none
  | some (.vecI k l e), .int k' n => if k' == k && Nat.beq (P.cellsOf t) 1 then some (.ok (decide (off < l.length)) { obj := some [(PObj.vecI k (l.set off n) e).toA] } [.vecI k (l.set off n) e] []) else none
  | some (.arrI k l e), .int k' n => if k' == k && Nat.beq (P.cellsOf t) 1 then some (.ok (decide (off < l.length)) { obj := some [(PObj.arrI k (l.set off n) e).toA] } [.arrI k (l.set off n) e] []) else none
  | some (.vecB l e), .int k' n => if k' == .u8 && Nat.beq (P.cellsOf t) 1 then some (.ok (decide (off < l.length) && decide (0 ≤ n ∧ n < 256)) { obj := some [(PObj.vecB (l.set off (toByte n)) e).toA] } [.vecB (l.set off (toByte n)) e] []) else none
  | some (.arrT l e), .bool b => if Nat.beq (P.cellsOf t) 1 then some (.ok (decide (off < l.length)) { obj := some [(PObj.arrT (l.set off b) e).toA] } [.arrT (l.set off b) e] []) else none
  | some (.arrB l e), .int k' n => if k' == .u8 && Nat.beq (P.cellsOf t) 1 then some (.ok (decide (off < l.length) && decide (0 ≤ n ∧ n < 256)) { obj := some [(PObj.arrB (l.set off (toByte n)) e).toA] } [.arrB (l.set off (toByte n)) e] []) else none
  | _, _ => none

/-- A whole row written. -/
def storeRP (P : Program) (t : TypeId) (w i j nm : Nat) (v : AV) (mem : List (Option PObj)) : Option Alt :=
  match lookP mem nm with
  | some (.vecR sh rows e) =>
    match v with
    | .agg cs => match rowOf sh cs with
      | some r => some (.ok (decide (i < rows.length) && Nat.beq w sh.length && Nat.beq j 0 && Nat.beq (P.cellsOf t) sh.length) { obj := some [(PObj.vecR sh (rows.set i r) e).toA] } [.vecR sh (rows.set i r) e] [])
      | none => none
    | _ => none
  | _ => none

/-- Cells that are bytes, whole numbers of one kind. -/
def bytesOfA : List AV → Option (Bool × List UInt8)
  | [] => some (true, [])
  | .int .u8 n :: cs => (bytesOfA cs).map fun p => (decide (0 ≤ n ∧ n < 256) && p.1, toByte n :: p.2)
  | _ => none

def roomB (m bytes : Nat) : Bool := decide (2 * m * bytes ≤ 281474976710656 ∧ 2 * m < 9223372036854775808)

/-- What is appended: its cells, or its bytes, and how many. -/
inductive News where
  | cells (ob : Bool) (n : Nat) (c : List AV)
  | bytes (ob : Bool) (n : Nat) (l : List UInt8)
  | nums (ob : Bool) (n : Nat) (k : IntKind) (l : List Int)
  | rows (ob : Bool) (n : Nat) (sh : List CK) (l : List (List CV))

def newsP (sz : Nat) (x : AV) (mem : List (Option PObj)) : Option News :=
  match x with
  | .nilslice => some (.cells true 0 [])
  | .str s => some (.bytes (Nat.beq sz 1) s.length s)
  | .slice nm off len _ =>
    match lookP mem nm with
    | some (.raw o) => match o.known with
      | some (o0, c) => some (.cells (Nat.ble o0 off && Nat.ble (off - o0 + len * sz) c.length) len ((c.drop (off - o0)).take (len * sz)))
      | none => none
    | some (.arrB l _) => if Nat.beq sz 1 then some (.bytes (decide (off + len ≤ l.length)) len ((l.drop off).take len)) else none
    | some (.arrI k l _) => if Nat.beq sz 1 then some (.nums (decide (off + len ≤ l.length)) len k ((l.drop off).take len)) else none
    | _ => none
  | .vec nm len =>
    match lookP mem nm with
    | some (.raw o) => match o.known with
      | some (o0, c) => some (.cells (Nat.beq o0 0 && Nat.ble (len * sz) c.length) len (c.take (len * sz)))
      | none => none
    | some (.vecB l _) => if Nat.beq sz 1 then some (.bytes (decide (len ≤ l.length)) len (l.take len)) else none
    | some (.vecI k l _) => if Nat.beq sz 1 then some (.nums (decide (len ≤ l.length)) len k (l.take len)) else none
    | some (.vecR sh l _) => if Nat.beq sz sh.length then some (.rows (decide (len ≤ l.length)) len sh (l.take len)) else none
    | _ => none
  | .dsl nm len =>
    match lookP mem nm with
    | some (.flatI _ l) => if Nat.beq sz 1 then some (.nums (decide (len ≤ l.length)) len .i64 (l.take len)) else none
    | _ => none
  | .vsl nm w off len =>
    match lookP mem nm with
    | some (.vecR sh l _) => if Nat.beq sz sh.length && Nat.beq w sz then some (.rows (decide (off + len ≤ l.length)) len sh ((l.drop off).take len)) else none
    | _ => none
  | _ => none

def nameP (x : AV) (mem : List (Option PObj)) : List PObj := x.name.filterMap fun n => lookP mem n

def ckEq : CK → CK → Bool
  | .int a, .int b => a == b
  | .str, .str => true
  | .bool, .bool => true
  | .nils, .nils => true
  | _, _ => false
def shEq : List CK → List CK → Bool
  | [], [] => true
  | a :: x, b :: y => ckEq a b && shEq x y
  | _, _ => false
/-- The new row of an append: what it must be, and what it is, out of old cells or none. -/
def growP (P : Program) (e : TypeId) (sz : Nat) (old : Option PObj) (w : News) : Option (Bool × PObj) :=
  match P.underlying e, old, w with
  | some (.int .u8), none, .bytes ob _ l => if Nat.beq sz 1 then some (ob, .vecB l e) else none
  | some (.int .u8), none, .cells ob _ c => if Nat.beq sz 1 then (bytesOfA c).map fun p => (ob && p.1, .vecB p.2 e) else none
  | some (.int .u8), some (.vecB o t), .bytes ob _ l => if Nat.beq sz 1 && t == e then some (ob, .vecB (o ++ l) e) else none
  | some (.int .u8), some (.vecB o t), .cells ob _ c => if Nat.beq sz 1 && t == e then (bytesOfA c).map fun p => (ob && p.1, .vecB (o ++ p.2) e) else none
  | some (.int k), none, .nums ob _ k' l => if Nat.beq sz 1 && k == k' then some (ob, .vecI k l e) else none
  | some (.int k), none, .cells ob _ c => if Nat.beq sz 1 then (intsOfA k c).map fun p => (ob, .vecI k p e) else none
  | some (.int k), some (.vecI k2 o t), .nums ob _ k' l => if Nat.beq sz 1 && t == e && k2 == k' then some (ob, .vecI k2 (o ++ l) e) else none
  | some (.int k), some (.vecI k2 o t), .cells ob _ c => if Nat.beq sz 1 && t == e then (intsOfA k2 c).map fun p => (ob, .vecI k2 (o ++ p) e) else none
  | some (.struct fs), none, .cells ob n c => match shapeOf P fs.toList with
    | some sh => match rowsOf sh n c with
      | some rows => if Nat.beq sz sh.length then some (ob, .vecR sh rows e) else none
      | none => some (ob, .raw (.vec c e sz))
    | none => some (ob, .raw (.vec c e sz))
  | some (.struct _), none, .rows ob _ sh l => if Nat.beq sz sh.length then some (ob, .vecR sh l e) else none
  | _, some (.vecR sh o t), .cells ob n c => if Nat.beq sz sh.length && t == e then (rowsOf sh n c).map fun l => (ob, .vecR sh (o ++ l) e) else none
  | _, some (.vecR sh o t), .rows ob _ sh' l => if Nat.beq sz sh.length && t == e && shEq sh sh' then some (ob, .vecR sh (o ++ l) e) else none
  | _, none, .cells ob _ c => some (ob, .raw (.vec c e sz))
  | _, some (.raw (.vec o t s)), .cells ob _ c => if t == e && s == sz then some (ob, .raw (.vec (o ++ c) t s)) else none
  | _, _, _ => none

def News.n : News → Nat
  | .cells _ n _ => n
  | .bytes _ n _ => n
  | .nums _ n _ _ => n
  | .rows _ n _ _ => n
def News.ob : News → Bool
  | .cells b _ _ => b
  | .bytes b _ _ => b
  | .nums b _ _ _ => b
  | .rows b _ _ _ => b
def News.some? : News → Bool
  | .cells _ n _ => Nat.blt 0 n
  | _ => false
def PObj.len : PObj → Nat
  | .raw o => match o.known with | some (_, c) => c.length | none => 0
  | .vecI _ l _ => l.length
  | .arrI _ l _ => l.length
  | .vecB l _ => l.length
  | .arrB l _ => l.length
  | .shutB l _ => l.length
  | .vecR sh rows _ => rows.length * sh.length
  | .arrT l _ => l.length
  | .flatI _ l => l.length
  | .flatU _ l => l.length

def appendP (P : Program) (c : Call) (s x : AV) (mem : List (Option PObj)) : Option Alt :=
  match (c.argTypes[0]?).bind P.underlying with
  | some (.slice e) =>
    match P.info? e with
    | some ie =>
      match newsP ie.size x mem with
      | some w =>
        match s with
        | .nilslice =>
          match growP P e ie.size none w with
          | some (b, o) =>
            let yes := Alt.ok (b && roomB w.n ie.bytes) { nm := [frn mem], obj := some [o.toA] } (nameP x mem) [o]
            let no := Alt.ok w.ob {} (nameP x mem) []
            some (match w with
              | .cells _ n _ => match n with
                | 0 => no
                | _ => yes
              | _ => .br (decide (0 < w.n)) yes no)
          | none => none
        | .vec nm len =>
          match lookP mem nm with
          | some old =>
            match growP P e ie.size (some old) w with
            | some (b, o) => some (.ok (b && decide (old.len = len * ie.size) && roomB (len + w.n) ie.bytes) { nm := [frn mem], obj := some [o.toA] } (.raw .dead :: nameP x mem) [o])
            | none => none
          | none => none
        | .slice nm off len cap =>
          match lookP mem nm with
          | some (.raw o) => match o.known, w with
            | some (o0, oc), .cells ob n cx => match n with
              | 0 => some (.ok (ob && Nat.ble len cap) {} (.raw o :: nameP x mem) [])
              | n + 1 => some (.ok (ob && Nat.ble o0 off && Nat.ble (off - o0 + len * ie.size) oc.length && Nat.beq len cap && Nat.blt 0 (n + 1) && roomB (len + (n + 1)) ie.bytes) { nm := [frn mem] } (.raw o :: nameP x mem) [.raw (.vec ((oc.drop (off - o0)).take (len * ie.size) ++ cx) e ie.size)])
            | some (o0, oc), .rows ob n sh l' => if Nat.beq ie.size sh.length && Nat.beq len 0 then some (.ok (ob && Nat.ble o0 off && Nat.ble (off - o0) oc.length && Nat.beq len cap && decide (0 < n) && roomB (len + n) ie.bytes) { nm := [frn mem], obj := some [(PObj.vecR sh l' e).toA] } (.raw o :: nameP x mem) [.vecR sh l' e]) else none
            | some (o0, oc), .bytes ob n l' => if Nat.beq ie.size 1 && Nat.beq len 0 then some (.ok (ob && Nat.ble o0 off && Nat.ble (off - o0) oc.length && Nat.beq len cap && decide (0 < n) && roomB (len + n) ie.bytes) { nm := [frn mem], obj := some [(PObj.vecB l' e).toA] } (.raw o :: nameP x mem) [.vecB l' e]) else none
            | _, _ => none
          | some (.arrI k l te) => match w with
            | .nums ob n k' l' => if Nat.beq ie.size 1 && k == k' then some (.ok (ob && decide (off + len ≤ l.length) && Nat.beq len cap && decide (0 < n) && roomB (len + n) ie.bytes) { nm := [frn mem], obj := some [(PObj.vecI k ((l.drop off).take len ++ l') e).toA] } (.arrI k l te :: nameP x mem) [.vecI k ((l.drop off).take len ++ l') e]) else none
            | _ => none
          | _ => none
        | _ => none
      | none => none
    | none => none
  | _ => none

/-- Bytes to a string. -/
def stringP (x : AV) (mem : List (Option PObj)) : Option Alt :=
  match x with
  | .vec nm len => match lookP mem nm with
    | some (.vecB l e) => some (.ok (decide (len ≤ l.length)) { val := some (.str (l.take len)) } [.vecB l e] [])
    | _ => none
  | .slice nm off len _ => match lookP mem nm with
    | some (.arrB l e) => some (.ok (decide (off + len ≤ l.length)) { val := some (.str ((l.drop off).take len)) } [.arrB l e] [])
    | some (.raw o) => match o.known with
      | some (o0, c) => match bytesOfA ((c.drop (off - o0)).take (len * 1)) with
        | some (b, l) => some (.ok (b && Nat.ble o0 off && Nat.ble (off - o0 + len * 1) c.length) { val := some (.str l) } [.raw o] [])
        | none => none
      | none => none
    | _ => none
  | .vsl nm w off len => match lookP mem nm with
    | some (.vecB l e) => some (.ok (Nat.beq w 1 && decide (off + len ≤ l.length)) { val := some (.str ((l.drop off).take len)) } [.vecB l e] [])
    | _ => none
  | _ => none

def convP (P : Program) (src dst : TypeId) (x : AV) (mem : List (Option PObj)) : Option Alt :=
  match P.underlying src, P.underlying dst, x with
  | some _, some (.slice e), .str s => match P.underlying e with
    | some (.int .u8) => some (.ok true { nm := [frn mem] } [] [.vecB s e])
    | _ => none
  | some (.slice e), some .string, .nilslice => match P.underlying e with
    | some (.int .u8) => okP true
    | _ => none
  | some (.slice e), some .string, x => match P.underlying e with
    | some (.int .u8) => stringP x mem
    | _ => none
  | some (.pointer t), some .unsafePointer, .ptr nm off => match lookP mem nm with
    | some (.raw (.cells c ty)) => some (.ok (Nat.blt off c.length) {} [.raw (.cells c ty)] [])
    | _ => none
  | some .unsafePointer, some (.pointer u), .ptr nm off => match lookP mem nm with
    | some (.raw (.cells c ty)) => some (.ok (liesAt P P.depth ty (c.length / P.cellsOf ty) off u 1) {} [.raw (.cells c ty)] [])
    | _ => none
  | some _, some (.int _), .int _ _ => okP true
  | some _, some .string, .str _ => okP true
  | some _, some .string, .int _ _ => okP true
  | _, _, _ => none

def nextP (nm : Nat) (mem : List (Option PObj)) : Option Alt :=
  match lookP mem nm with
  | some (.raw (.iter s pos)) =>
    some (.br (decide (pos < s.length))
      (.ok true { val := some (.tuple [.bool true, .int .i64 pos, .int .i32 (Utf8.decode ⟨s.toArray⟩ pos).1]), obj := some [.iter s (pos + (Utf8.decode ⟨s.toArray⟩ pos).2)] } [.raw (.iter s (pos + (Utf8.decode ⟨s.toArray⟩ pos).2))] [])
      (.ok true { val := some (.tuple [.bool false]) } [.raw (.iter s pos)] []))
  | _ => none

/-- One whole number. -/
def oneI : Nat → List AV → Option Int
  | 1, [.int .i64 x] => some x
  | _, _ => none
def pact (P : Program) (o : Op) (vals : List AV) (mem : List (Option PObj)) : Option Alt :=
  match o, vals with
  | .move _, [_] => okP true
  | .assign _, [_] => okP true
  | .pick _ _ _, [_, _, _] => okP true
  | .alloc t, [] => (zeroA P t).map fun z => .ok true { nm := [frn mem] } [] [.raw (.cells z.cells t)]
  | .box t _, [v] => some (.ok true { nm := [frn mem] } [] [.raw (.cells v.cells t)])
  | .build t ps, vs => okP (buildB P t (partsA ps.toList vs))
  | .buildSlice t len ps, vs => match P.underlying t with
    | some (.slice e) => match P.info? e, zeroA P e with
      | some ie, some z => match fillA (fun i => some (i * ie.size, ie.size)) (List.replicate len z.cells).flatten (partsA ps.toList vs) with
        | some (_, c) => match oneI len c with
          | some x => some (.ok (fillB (fun i => some (i * ie.size, ie.size)) (List.replicate len z.cells).flatten.length (partsA ps.toList vs) && Nat.beq ie.size 1) { nm := [frn mem], view := 3, obj := some [(PObj.vecI .i64 [x] e).toA] } [] [.vecI .i64 [x] e])
          | none => some (.ok (fillB (fun i => some (i * ie.size, ie.size)) (List.replicate len z.cells).flatten.length (partsA ps.toList vs)) { nm := [frn mem] } [] [.raw (.cells c e)])
        | none => none
      | _, _ => none
    | _ => none
  | .makeSlice t _ _, [.int _ len, .int _ cap] => match P.underlying t with
    | some (.slice e) => match P.info? e, zeroA P e with
      | some ie, some z =>
        let chk := decide (0 ≤ len ∧ len ≤ cap ∧ cap * ie.bytes ≤ 281474976710656 ∧ cap < 9223372036854775808)
        match z with
        | .int .u8 0 => some (.ok chk { nm := [frn mem], obj := some [(PObj.arrB (List.replicate cap.toNat 0) e).toA] } [] [.arrB (List.replicate cap.toNat 0) e])
        | .bool false => some (.ok chk { nm := [frn mem], obj := some [(PObj.arrT (List.replicate cap.toNat false) e).toA] } [] [.arrT (List.replicate cap.toNat false) e])
        | .int k n => some (.ok chk { nm := [frn mem], obj := some [(PObj.arrI k (List.replicate cap.toNat n) e).toA] } [] [.arrI k (List.replicate cap.toNat n) e])
        | z => match (match P.underlying e with | some (.struct fs) => (shapeOf P fs.toList).bind fun sh => (rowOf sh z.cells).map fun r => (sh, r) | _ => none) with
          | some (sh, r) => some (.ok (decide (0 ≤ len ∧ len = cap ∧ cap * ie.bytes ≤ 281474976710656 ∧ cap < 9223372036854775808) && Nat.beq ie.size sh.length) { nm := [frn mem], view := 3, obj := some [(PObj.vecR sh (List.replicate cap.toNat r) e).toA] } [] [.vecR sh (List.replicate cap.toNat r) e])
          | none => some (.ok chk { nm := [frn mem] } [] [.raw (.cells (List.replicate cap.toNat z.cells).flatten e)])
      | _, _ => none
    | _ => none
  | .load t _, [.ptr nm off] => loadP P t nm off mem
  | .load t _, [.gptr g off] => loadGP P t g off
  | .load t _, [.dptr nm off] => loadDP P t nm off mem
  | .load t _, [.rptr nm w i j] => loadRP P t w i j nm mem
  | .store t _ _, [.ptr nm off, v] => storeP P t nm off v mem
  | .store t _ _, [.rptr nm w i j, v] => storeRP P t w i j nm v mem
  | .nilCheck _, [_] => okP true
  | .binOp op _ _ _ _, [x, y] => okP (binP op x y)
  | .unOp _ _ _, [_] => okP true
  | .convert src dst _, [x] => convP P src dst x mem
  | .makeInterface _ _, [_] => okP true
  | .makeFunc _ _ _, _ => okP true
  | .slice t _ lo hi mx, x :: vs => sliceP P t lo hi mx x vs mem
  | .fieldAddr _ _ _, [_] => okP true
  | .field t _ f, [.agg c] => match P.underlying t with
    | some (.struct fs) => match fs[f]? with
      | some fd => match P.underlying fd.type with
        | some d => okP (if isAggD d then Nat.ble (fd.offset + P.cellsOf fd.type) c.length else true)
        | none => none
      | none => none
    | _ => none
  | .indexAddr t _ _, [x, .int _ i] => match P.underlying t, x with
    | some (.array n _), _ => okP (decide (0 ≤ i ∧ i < n))
    | some (.slice _), .slice _ _ len _ => okP (decide (0 ≤ i ∧ i < len))
    | some (.slice _), .vec nm len => match lookP mem nm with
      | some (.vecR _ _ _) => some (.ok (decide (0 ≤ i ∧ i < len)) { view := 5 } [] [])
      | _ => okP (decide (0 ≤ i ∧ i < len))
    | some (.slice _), .dsl nm len => match lookP mem nm with
      | some (.raw (.flatR _ _ _)) => some (.ok (decide (0 ≤ i ∧ i < len)) { view := 5 } [] [])
      | some (.raw (.flatN _ _)) => some (.ok (decide (0 ≤ i ∧ i < len)) { view := 5 } [] [])
      | _ => okP (decide (0 ≤ i ∧ i < len))
    | some (.slice e), .vsl _ w _ len => okP (decide (0 ≤ i ∧ i < len) && Nat.beq w (P.cellsOf e))
    | _, _ => none
  | .index t _ _, [x, .int _ i] => match P.underlying t, x with
    | some .string, .str s => some (.ok (decide (0 ≤ i ∧ i.toNat < s.length)) { val := some (.int .u8 (byteAt s i.toNat)) } [] [])
    | some (.array n e), .agg c => match P.underlying e with
      | some d => okP (decide (0 ≤ i ∧ i < n) && (if isAggD d then Nat.ble (i.toNat * P.cellsOf e + P.cellsOf e) c.length else true))
      | none => none
    | _, _ => none
  | .extract _ _, [_] => okP true
  | .range _ _, [.str s] => some (.ok true { nm := [frn mem] } [] [.raw (.iter s 0)])
  | .next _ true, [.ptr nm 0] => nextP nm mem
  | .makeMap t none, [] => (setN P t).map fun n => .ok true { nm := [frn mem] } [] [.raw (.mapS n [])]
  | .lookup _ _ _ false, [.mapp _, .agg _] => okP true
  | .mapUpdate _ _ _ _, [.mapp nm, .agg cs, .bool true] => match unInts .i64 cs, lookP mem nm with
    | some k, some (.raw (.mapS n ks)) => some (.ok true {} [.raw (.mapS n (addK ks k))] [])
    | _, _ => none
  | .call c, vs =>
    match c.callee, vs with
    | .builtin .len, [_] => okP true
    | .builtin .min, [_, _] => okP true
    | .builtin .max, [_, _] => okP true
    | .builtin .append, [s, x] => appendP P c s x mem
    | .builtin .cap, [_] => okP true
    | .builtin .copy, [s, .nilslice] => some (.ok true {} (nameP s mem) [])
    | .builtin .copy, [.slice nm off len _, x] => match (c.argTypes[0]?).bind P.underlying with
      | some (.slice te) => match P.info? te with
        | some ie => match lookP mem nm, newsP ie.size x mem with
          | some (.arrB l e), some (.bytes ob n d) => some (.ok (ob && decide (n ≤ len ∧ off + d.length ≤ l.length)) { obj := some [(PObj.arrB (l.take off ++ d ++ l.drop (off + d.length)) e).toA] } (.arrB (l.take off ++ d ++ l.drop (off + d.length)) e :: nameP x mem) [])
          | _, _ => none
        | none => none
      | _ => none
    | .builtin .unsafeSliceData, [.nilslice] => okP true
    | .builtin .unsafeSliceData, [.vec nm _] => match lookP mem nm with
      | some (.raw (.vec cs t sz)) => some (.ok (Nat.blt 0 cs.length) {} [.raw (.vec cs t sz)] [])
      | some (.vecB l t) => some (.ok (decide (0 < l.length)) {} [.vecB l t] [])
      | some (.shutB l t) => some (.ok (decide (0 < l.length)) {} [.shutB l t] [])
      | _ => none
    | .builtin .unsafeString, [.nilptr, .int .i64 n] => okP (n == 0)
    | .builtin .unsafeString, [.ptr nm 0, .int .i64 n] => match lookP mem nm with
      | some (.vecB l t) => some (.ok (n == (l.length : Int) && !l.isEmpty && decide (l.length < 9223372036854775808)) { val := some (.str l) } [.shutB l t] [])
      | some (.shutB l t) => some (.ok (n == (l.length : Int) && !l.isEmpty && decide (l.length < 9223372036854775808)) { val := some (.str l) } [.shutB l t] [])
      | _ => none
    | _, _ => none
  | _, _ => none

end Go.Proofs.YtphhepnldndbhaaGreatDoor.Sx

/- The evaluator, part B: what each operation does is sound. -/
set_option linter.unusedVariables false
set_option linter.unusedSimpArgs false
namespace Go.Proofs.YtphhepnldndbhaaGreatDoor.Sx
open Go
variable {P : Program}

def AltOK (P : Program) (o : Op) (vals : List AV) (mem : List (Option PObj)) : Alt → Prop
  | .ok chk h upd new => chk = true → h.call = none ∧ ∀ F cs r, foot h o vals = some F → objs (memA mem) F.rd = some cs → act P h o vals cs = some r → AllP r.obl ∧ (F.ws ≠ [] → r.upd = upd.map PObj.toA) ∧ r.new = new.map PObj.toA
  | .br b x y => (b = true → AltOK P o vals mem x) ∧ (b = false → AltOK P o vals mem y)

theorem memA_get (m : List (Option PObj)) (n : Nat) : (memA m)[n]? = (m[n]?).map (Option.map PObj.toA) := by simp [memA]
theorem objs_one {m : List (Option PObj)} {n : Nat} {cs : List AObj} {p : PObj} (h : objs (memA m) [n] = some cs) (hp : lookP m n = some p) : cs = [p.toA] := by
  simp only [objs] at h
  simp only [lookP, Option.join_eq_some_iff] at hp
  rw [memA_get, hp] at h
  simpa using h.symm
theorem beqT {a b : Nat} : Nat.beq a b = true ↔ a = b := ⟨Nat.eq_of_beq_eq_true, fun e => by rw [e]; exact Nat.beq_refl b⟩
theorem bleT {a b : Nat} : Nat.ble a b = true ↔ a ≤ b := by rw [Nat.ble_eq]
theorem bltT {a b : Nat} : Nat.blt a b = true ↔ a < b := by rw [Nat.blt_eq]
theorem okP_eq {c : Bool} {a : Alt} (h : okP c = some a) : a = .ok c {} [] [] := by simpa [okP] using h.symm

theorem rowA_length (sh : List CK) (r : List CV) : (rowA sh r).length = sh.length := by simp [rowA]
theorem rowsA_length (sh : List CK) : ∀ rows : List (List CV), (rowsA sh rows).length = rows.length * sh.length
  | [] => by simp [rowsA]
  | r :: rows => by
    have := rowsA_length sh rows
    simp only [rowsA] at this ⊢
    rw [List.flatMap_cons, List.length_append, this, rowA_length, List.length_cons, Nat.add_mul]; omega
theorem rowsA_drop (sh : List CK) : ∀ (rows : List (List CV)) (i : Nat), (rowsA sh rows).drop (i * sh.length) = rowsA sh (rows.drop i)
  | rows, 0 => by simp
  | [], i + 1 => by simp [rowsA]
  | r :: rows, i + 1 => by
    have := rowsA_drop sh rows i
    simp only [rowsA] at this ⊢
    rw [List.flatMap_cons, Nat.add_mul, Nat.one_mul, Nat.add_comm, ← List.drop_drop, List.drop_append_of_le_length (by rw [rowA_length]; omega)]
    rw [show List.drop sh.length (rowA sh r) = [] by simp [rowA_length], List.nil_append, this]; rfl
theorem rowsA_take (sh : List CK) : ∀ (rows : List (List CV)) (i : Nat), (rowsA sh rows).take (i * sh.length) = rowsA sh (rows.take i)
  | rows, 0 => by simp [rowsA]
  | [], i + 1 => by simp [rowsA]
  | r :: rows, i + 1 => by
    have := rowsA_take sh rows i
    simp only [rowsA] at this ⊢
    rw [List.flatMap_cons, List.take_succ_cons, List.flatMap_cons, ← this, Nat.add_mul, Nat.one_mul, Nat.add_comm, List.take_append]
    rw [rowA_length, Nat.add_sub_cancel_left, List.take_of_length_le (by rw [rowA_length]; omega)]
theorem rowsA_append (sh : List CK) (a b : List (List CV)) : rowsA sh (a ++ b) = rowsA sh a ++ rowsA sh b := by simp [rowsA]
theorem rowsA_part {sh : List CK} {rows : List (List CV)} {i j n : Nat} (hi : i < rows.length) (hj : j + n ≤ sh.length) : ((rowsA sh rows).drop (i * sh.length + j)).take n = ((rowA sh (rowAt rows i)).drop j).take n := by
  rw [← List.drop_drop, rowsA_drop, List.drop_eq_getElem_cons hi]
  have e : rowAt rows i = rows[i] := by simp [rowAt, hi]
  rw [e]
  simp only [rowsA, List.flatMap_cons]
  rw [List.drop_append_of_le_length (by rw [rowA_length]; omega), List.take_append_of_le_length (by simp [rowA_length]; omega)]
theorem rowA_get {sh : List CK} {r : List CV} {j : Nat} (hj : j < sh.length) : (rowA sh r)[j]? = some (cellA (sh.getD j .any) (rowCV r j)) := by
  simp [rowA, hj]
theorem rowsA_get {sh : List CK} {rows : List (List CV)} {i j : Nat} (hi : i < rows.length) (hj : j < sh.length) : (rowsA sh rows)[i * sh.length + j]? = some (cellA (sh.getD j .any) (rowCV (rowAt rows i) j)) := by
  have := rowsA_part (n := 1) hi (show j + 1 ≤ sh.length by omega)
  rw [← rowA_get hj]
  have h1 := congrArg (·[0]?) this
  simpa using h1
theorem cvOf_sound {k : CK} {a : AV} {c : CV} (h : cvOf k a = some c) : cellA k c = a := by
  unfold cvOf at h
  split at h
  · split at h
    · rename_i hk; have := eq_of_beq hk; subst this; cases h; rfl
    · cases h
  · cases h; rfl
  · cases h; rfl
  · cases h; rfl
  · cases h
theorem rowA_cons (k : CK) (sh : List CK) (c : CV) (r : List CV) : rowA (k :: sh) (c :: r) = cellA k c :: rowA sh r := by
  simp [rowA, List.range_succ_eq_map, List.map_map, Function.comp_def, rowCV]
theorem rowOf_sound : ∀ (sh : List CK) (cs : List AV) (r : List CV), rowOf sh cs = some r → rowA sh r = cs
  | [], [], r, h => by simp [rowOf] at h; subst h; rfl
  | [], _ :: _, r, h => by simp [rowOf] at h
  | _ :: _, [], r, h => by simp [rowOf] at h
  | k :: sh, a :: cs, r, h => by
    simp only [rowOf] at h
    split at h
    · rename_i c r' h1 h2
      cases h
      rw [rowA_cons, cvOf_sound h1, rowOf_sound sh cs r' h2]
    · cases h
theorem rowsOf_sound {sh : List CK} : ∀ (n : Nat) (cs : List AV) (rows : List (List CV)), rowsOf sh n cs = some rows → rowsA sh rows = cs ∧ rows.length = n
  | 0, [], rows, h => by simp [rowsOf] at h; subst h; exact ⟨rfl, rfl⟩
  | 0, _ :: _, rows, h => by simp [rowsOf] at h
  | n + 1, cs, rows, h => by
    simp only [rowsOf] at h
    split at h
    · rename_i r rs h1 h2
      cases h
      obtain ⟨g1, g2⟩ := rowsOf_sound n _ rs h2
      have g3 := rowOf_sound _ _ _ h1
      refine ⟨?_, by simp [g2]⟩
      simp only [rowsA, List.flatMap_cons] at g1 ⊢
      rw [g1, g3, List.take_append_drop]
    · cases h
theorem bools_get {l : List Bool} {i : Nat} (h : i < l.length) : (l.map AV.bool)[i]? = some (.bool (l.getD i false)) := by
  simp [List.getElem?_eq_getElem h]

theorem fillB_sound {place : Nat → Option (Nat × Nat)} : ∀ (ps : List (Nat × AV)) (cs : List AV) (ob : List Prop) (c : List AV), fillA place cs ps = some (ob, c) → fillB place cs.length ps = true → AllP ob ∧ c.length = cs.length
  | [], cs, ob, c, h, _ => by simp [fillA] at h; obtain ⟨rfl, rfl⟩ := h; exact ⟨trivial, rfl⟩
  | (i, v) :: ps, cs, ob, c, h, hb => by
    simp only [fillA] at h
    split at h
    · cases h
    · rename_i off size hp
      split at h
      · rename_i o c' hf
        cases h
        simp only [fillB, hp, Bool.and_eq_true, beqT, bleT] at hb
        obtain ⟨⟨h1, h2⟩, h3⟩ := hb
        have hl : (cs.take off ++ v.cells ++ cs.drop (off + size)).length = cs.length := by simp; omega
        rw [← hl] at h3
        obtain ⟨k1, k2⟩ := fillB_sound ps _ _ _ hf h3
        exact ⟨⟨h1, h2, k1⟩, k2.trans hl⟩
      · cases h

theorem fin_none {h : Hint} (hv : h.val = none) (ob : List Prop) (v : AV) : fin h ob v = ⟨ob, v, [], []⟩ := by simp [fin, hv]
theorem newA_none {h : Hint} (hv : h.obj = none) (ob : List Prop) (v : AV) (o : AObj) : newA h ob v o = ⟨ob, v, [], [o]⟩ := by simp [newA, hv]

theorem build_sound {t : TypeId} {parts : List (Nat × AV)} {ob : List Prop} {c : List AV} (h : buildA P t parts = some (ob, c)) (hb : buildB P t parts = true) : AllP ob := by
  unfold buildA at h
  unfold buildB at hb
  split at h
  · rename_i fs z hu hz
    split at h
    · rw [hu, hz] at hb; exact (fillB_sound _ _ _ _ h hb).1
    · cases h
  · rename_i n e z hu hz
    split at h
    · rw [hu, hz] at hb; exact (fillB_sound _ _ _ _ h hb).1
    · cases h
  · cases h

theorem binP_sound {op : BinOp} {t : TypeId} {x y : AV} {ob : List Prop} {v : AV} (h : binA P op t x y = some (ob, v)) (hb : binP op x y = true) : AllP ob := by
  unfold binA at h
  split at h
  · cases h; simp [binP] at hb; exact ⟨hb, trivial⟩
  · cases h; simp [binP] at hb; exact ⟨hb, trivial⟩
  · split at h
    · cases op <;> simp [intBin] at h <;> obtain ⟨rfl, _⟩ := h <;> first | trivial | (simp [binP] at hb; exact ⟨hb, trivial⟩)
    · cases h
  · cases op <;> simp [strBin] at h <;> obtain ⟨rfl, _⟩ := h <;> first | trivial | (simp [binP] at hb; exact ⟨hb, trivial⟩)
  · split at h
    · cases h; trivial
    · cases h
  · split at h
    · cases h; trivial
    · cases h
  · split at h
    · cases h
    · simp only [Option.map_eq_some_iff, Prod.mk.injEq] at h; obtain ⟨r, _, rfl, _⟩ := h; trivial
  · split at h
    · cases h
    · simp only [Option.map_eq_some_iff, Prod.mk.injEq] at h; obtain ⟨r, _, rfl, _⟩ := h; trivial
  · split at h
    · split at h
      · simp only [Option.map_eq_some_iff, Prod.mk.injEq] at h; obtain ⟨r, _, rfl, _⟩ := h; trivial
      · cases h
    · cases h
  · split at h
    · split at h
      · simp only [Option.map_eq_some_iff, Prod.mk.injEq] at h; obtain ⟨r, _, rfl, _⟩ := h; trivial
      · cases h
    · cases h
  · cases h

theorem unA_obl {op : UnOp} {x : AV} {ob : List Prop} {v : AV} (h : unA op x = some (ob, v)) : ob = [] := by
  unfold unA at h
  split at h <;> first | (cases h; rfl) | cases h
theorem convA_obl {src dst : TypeId} {x : AV} {ob : List Prop} {v : AV} (h : convA P src dst x = some (ob, v)) : ob = [] := by
  unfold convA at h
  split at h <;> first | (cases h; rfl) | cases h
theorem ok1_spec {h : Hint} {q : Option (List Prop × AV)} {r : Res} (e : ok1 h q = some r) : ∃ ob v, q = some (ob, v) ∧ r = fin h ob v := by
  simp only [ok1, Option.map_eq_some_iff] at e; obtain ⟨⟨ob, v⟩, h1, h2⟩ := e; exact ⟨ob, v, h1, h2.symm⟩

/-- The bounds of a slice expression hold. -/
theorem bnd_sound {d n : Nat} {lo : Option Operand} {vs rest : List AV} {ob : List Prop} (h : boundA d lo vs = some (ob, n, rest)) (hb : bndB lo vs = true) : AllP ob := by
  unfold boundA at h
  split at h
  · cases h; trivial
  · cases h; simp [bndB] at hb; exact ⟨hb, trivial⟩
  · cases h
theorem bounds_sound {len cap : Nat} {lo hi mx : Option Operand} {vs : List AV} {ob : List Prop} {l u m : Nat} (h : boundsA len cap lo hi mx vs = some (ob, l, u, m)) (hb : boundsB len cap lo hi mx vs = true) : AllP ob := by
  unfold boundsA at h
  unfold boundsB at hb
  split at h
  · rename_i o1 l1 vs1 h1
    rw [h1] at hb
    simp only at hb
    split at h
    · rename_i o2 u1 vs2 h2
      rw [h2] at hb
      simp only at hb
      split at h
      · rename_i o3 m1 h3
        rw [h3] at hb
        simp only [Bool.and_eq_true, decide_eq_true_eq] at hb
        obtain ⟨⟨⟨b1, b2⟩, b3⟩, b4, b5, b6⟩ := hb
        cases h
        exact allP_append.2 ⟨allP_append.2 ⟨allP_append.2 ⟨bnd_sound h1 b1, bnd_sound h2 b2⟩, bnd_sound h3 b3⟩, b4, b5, b6, trivial⟩
      · cases h
    · cases h
  · cases h
theorem strSlice_sound {n : Nat} {lo hi : Option Operand} {vs : List AV} {ob : List Prop} {l u m : Nat} (h : boundsA n n lo hi none vs = some (ob, l, u, m)) (hb : strSliceB n lo hi vs = true) : AllP ob := by
  refine bounds_sound h ?_
  unfold strSliceB at hb
  split at hb
  · simp [boundsB, boundA, bndB]
  · simp at hb; simp [boundsB, boundA, bndB]; omega
  · simp at hb; simp [boundsB, boundA, bndB]; omega
  · simp at hb; simp [boundsB, boundA, bndB]; omega
  · cases hb

theorem sliceP_sound {t : TypeId} {x0 : Operand} {lo hi mx : Option Operand} {x : AV} {vs : List AV} {mem : List (Option PObj)} {a : Alt} (h : sliceP P t lo hi mx x vs mem = some a) : AltOK P (.slice t x0 lo hi mx) (x :: vs) mem a := by
  unfold sliceP at h
  split at h
  · rename_i s hu
    split at h
    · rename_i hm
      have hm : mx = none := by simpa using hm
      subst hm
      rw [okP_eq h]
      intro hc
      refine ⟨rfl, fun F cs r hf hcs hr => ?_⟩
      simp only [act] at hr
      split at hr
      · cases hr
      · cases cs with
        | cons c cs => simp [sliceA, hu] at hr
        | nil =>
          simp only [sliceA, hu] at hr
          split at hr
          · rename_i ob l u m hb
            cases hr
            exact ⟨by simp only [fin]; exact strSlice_sound hb hc, fun _ => rfl, rfl⟩
          · cases hr
    · cases h
  · rename_i n e nm off hu
    rw [okP_eq h]
    intro hc
    refine ⟨rfl, fun F cs r hf hcs hr => ?_⟩
    simp only [act] at hr
    split at hr
    · cases hr
    · cases cs with
      | cons c cs => simp [sliceA, hu] at hr
      | nil =>
        simp only [sliceA, hu] at hr
        split at hr
        · cases hr
        · split at hr
          · rename_i ob l u m hb
            cases hr
            exact ⟨by simp only [fin]; exact bounds_sound hb hc, fun _ => rfl, rfl⟩
          · cases hr
  · rename_i e nm off len cap hu
    rw [okP_eq h]
    intro hc
    refine ⟨rfl, fun F cs r hf hcs hr => ?_⟩
    simp only [act] at hr
    split at hr
    · cases hr
    · cases cs with
      | cons c cs => simp [sliceA, hu] at hr
      | nil =>
        simp only [sliceA, hu] at hr
        split at hr
        · cases hr
        · split at hr
          · rename_i ob l u m hb
            cases hr
            exact ⟨by simp only [fin]; exact bounds_sound hb hc, fun _ => rfl, rfl⟩
          · cases hr
  · rename_i e hu
    rw [okP_eq h]
    intro hc
    refine ⟨rfl, fun F cs r hf hcs hr => ?_⟩
    simp only [act] at hr
    split at hr
    · cases hr
    · cases cs with
      | cons c cs => simp [sliceA, hu] at hr
      | nil =>
        simp only [sliceA, hu] at hr
        split at hr
        · cases hr
        · split at hr
          · rename_i ob l u m hb
            cases hr
            exact ⟨by simp only [fin]; exact bounds_sound hb hc, fun _ => rfl, rfl⟩
          · cases hr
  · rename_i e nm len hu
    split at h
    · split at h
      · rename_i ob u rest hbd
        rw [okP_eq h]
        intro hc
        refine ⟨rfl, fun F cs r hf hcs hr => ?_⟩
        simp only [Bool.and_eq_true, decide_eq_true_eq] at hc
        simp only [foot, Option.some.injEq] at hf; subst hf
        simp only [Foot.no, objs, Option.some.injEq] at hcs; subst hcs
        simp only [act] at hr
        split at hr
        · cases hr
        · simp only [sliceA, hu] at hr
          split at hr
          · cases hr
          · simp only [hbd] at hr
            split at hr
            · rename_i hx
              cases hx
              cases hr
              exact ⟨by simp only [fin]; exact allP_append.2 ⟨bnd_sound hbd hc.1, hc.2, trivial⟩, fun _ => rfl, rfl⟩
            · cases hr
      · cases h
    · rename_i p0
      split at h
      · rename_i ob l vs1 hb1
        split at h
        · rename_i ob2 u hb2
          rw [okP_eq h]
          intro hc
          refine ⟨rfl, fun F cs r hf hcs hr => ?_⟩
          simp only [foot, Option.some.injEq] at hf; subst hf
          simp only [Foot.no, objs, Option.some.injEq] at hcs; subst hcs
          simp only [Bool.and_eq_true, decide_eq_true_eq] at hc
          obtain ⟨c1, c2, c3, c4⟩ := hc
          simp only [act] at hr
          split at hr
          · cases hr
          · simp only [sliceA, hu] at hr
            split at hr
            · cases hr
            · simp only [hb1, hb2, Option.some.injEq] at hr
              cases hr
              exact ⟨by simp only [fin]; exact allP_append.2 ⟨bnd_sound hb1 c1, allP_append.2 ⟨bnd_sound hb2 c2, c3, c4, trivial⟩⟩, fun _ => rfl, rfl⟩
        · cases h
      · cases h
  · rename_i e nm len hu
    split at h
    rotate_left
    · rename_i p0
      split at h
      · rename_i o ob l vs1 hl hb1
        split at h
        · rename_i ob2 u hb2
          cases h
          intro hc
          refine ⟨rfl, fun F cs r hf hcs hr => ?_⟩
          simp only [foot, Option.some.injEq] at hf; subst hf
          have := objs_one hcs hl
          subst this
          simp only [Bool.and_eq_true, decide_eq_true_eq] at hc
          obtain ⟨c1, c2, c3, c4⟩ := hc
          simp only [act] at hr
          split at hr
          · cases hr
          · simp only [sliceA, hu] at hr
            split at hr
            · cases hr
            · simp only [hb1, hb2, Option.some.injEq] at hr
              cases hr
              exact ⟨allP_append.2 ⟨bnd_sound hb1 c1, allP_append.2 ⟨bnd_sound hb2 c2, c3, c4, trivial⟩⟩, fun _ => rfl, rfl⟩
        · cases h
      · cases h
    split at h
    · rename_i o ob u rest hl hbd
      split at h
      · rename_i hsz
        have hsz := beqT.1 hsz
        cases h
        intro hc
        refine ⟨rfl, fun F cs r hf hcs hr => ?_⟩
        simp only [foot, Option.some.injEq] at hf; subst hf
        have := objs_one hcs hl
        subst this
        simp only [Bool.and_eq_true, decide_eq_true_eq] at hc
        obtain ⟨c1, c2, c3⟩ := hc
        simp only [act] at hr
        split at hr
        · cases hr
        · generalize ho : o.toA = oa at hr
          have hlen : ∀ c t sz, oa = .vec c t sz → o.lenP = c.length ∧ o.sizeP = sz := fun c t sz e => by
            rw [e] at ho
            cases o <;> simp [PObj.toA] at ho
            · subst ho; exact ⟨rfl, rfl⟩
            · obtain ⟨rfl, _, rfl⟩ := ho; exact ⟨by simp [PObj.lenP, ints_length], rfl⟩
            · obtain ⟨rfl, _, rfl⟩ := ho; exact ⟨by simp [PObj.lenP, u8s_length], rfl⟩
            · obtain ⟨rfl, _, rfl⟩ := ho; exact ⟨by simp [PObj.lenP, rowsA_length], rfl⟩
          simp only [sliceA, hu] at hr
          split at hr
          · cases hr
          · split at hr
            · rename_i c t sz
              obtain ⟨l1, l2⟩ := hlen _ _ _ rfl
              split at hr
              · cases hr
              · simp only [hbd] at hr
                split at hr
                · rename_i ob' u' hx
                  cases hx
                  cases hr
                  exact ⟨allP_append.2 ⟨bnd_sound hbd c1, c2, by rw [← l1]; exact c3, trivial⟩, fun _ => by simp [ho], rfl⟩
                · cases hr
            · have hh : ∀ {p : Operand}, (none : Option Operand) = some p → False := fun e => by cases e
              exact (hh (by assumption)).elim
            · cases hr
      · cases h
    · cases h
  · cases h

theorem u8s_getB {l : List UInt8} {i : Nat} (h : i < l.length) : (u8s l)[i]? = some (AV.int .u8 (byteAt l i)) := u8s_get h

theorem strsOfA_get : ∀ {cs : List AV} {l : List (List UInt8)} {i : Nat}, strsOfA cs = some l → i < l.length → cs[i]? = some (.str (l.getD i []))
  | [], l, i, h, hi => by cases h; simp at hi
  | .str s :: cs, l, i, h, hi => by
    simp only [strsOfA, Option.map_eq_some_iff] at h
    obtain ⟨l', h1, rfl⟩ := h
    cases i with
    | zero => rfl
    | succ i => simpa using strsOfA_get h1 (by simpa using hi)
theorem manyStr_get {cs : List AV} {l : List (List UInt8)} {i : Nat} (h : manyStr cs = some l) (hi : i < l.length) : cs[i]? = some (.str (l.getD i [])) := by
  unfold manyStr at h
  split at h
  · exact strsOfA_get h hi
  · cases h
theorem intsOfA_get : ∀ {cs : List AV} {l : List Int} {i : Nat}, intsOfA .i64 cs = some l → i < l.length → cs[i]? = some (.int .i64 (l.getD i 0))
  | [], l, i, h, hi => by cases h; simp at hi
  | .int k n :: cs, l, i, h, hi => by
    simp only [intsOfA] at h
    split at h
    · rename_i hk
      simp only [Option.map_eq_some_iff] at h
      obtain ⟨l', h1, rfl⟩ := h
      obtain rfl := eq_of_beq hk
      cases i with
      | zero => rfl
      | succ i => simpa using intsOfA_get h1 (by simpa using hi)
    · cases h
theorem manyInt_get {cs : List AV} {l : List Int} {i : Nat} (h : manyInt cs = some l) (hi : i < l.length) : cs[i]? = some (.int .i64 (l.getD i 0)) := by
  unfold manyInt at h
  split at h
  · exact intsOfA_get h hi
  · cases h
theorem loadP_sound {t : TypeId} {x0 : Operand} {nm off : Nat} {mem : List (Option PObj)} {a : Alt} (h : loadP P t nm off mem = some a) : AltOK P (.load t x0) [.ptr nm off] mem a := by
  unfold loadP at h
  have key : ∀ (F : Foot) (hh : Hint), foot hh (.load t x0) [.ptr nm off] = some F → F = ⟨[nm], [], []⟩ := fun F hh hf => by simpa [foot] using hf.symm
  split at h
  · rename_i d o hu hl
    split at h
    · rename_i o0 cs0 hk
      split at h
      · rename_i l hm hd
        cases h
        intro hc
        refine ⟨rfl, fun F cs r hf hcs hr => ?_⟩
        obtain rfl := key F _ hf
        have hcs' := objs_one hcs hl
        subst hcs'
        simp only [act, PObj.toA, loadA, hk, hu, hd] at hr
        simp only [Bool.and_eq_true, bleT, decide_eq_true_eq] at hc
        cases hr
        exact ⟨⟨hc.1, manyStr_get hm hc.2, trivial⟩, fun e => rfl, rfl⟩
      · split at h
        · rename_i l hm hd
          cases h
          intro hc
          refine ⟨rfl, fun F cs r hf hcs hr => ?_⟩
          obtain rfl := key F _ hf
          have hcs' := objs_one hcs hl
          subst hcs'
          simp only [act, PObj.toA, loadA, hk, hu, hd] at hr
          simp only [Bool.and_eq_true, bleT, decide_eq_true_eq] at hc
          cases hr
          exact ⟨⟨hc.1, manyInt_get hm hc.2, trivial⟩, fun e => rfl, rfl⟩
        · cases h
          intro hc
          refine ⟨rfl, fun F cs r hf hcs hr => ?_⟩
          obtain rfl := key F _ hf
          have hcs' := objs_one hcs hl
          subst hcs'
          simp only [act, PObj.toA, loadA, hk, hu] at hr
          simp only [Bool.and_eq_true, bleT] at hc
          split at hr
          · rename_i hd
            cases hr
            simp only [hd, if_true, bleT] at hc
            exact ⟨⟨hc.1, hc.2, trivial⟩, fun e => rfl, rfl⟩
          · split at hr
            · cases hr
              exact ⟨⟨hc.1, trivial⟩, fun e => rfl, rfl⟩
            · cases hr
    · cases h
  all_goals first
    | (cases h; done)
    | (rename_i d k l e hu hl
       split at h
       · cases h
       · rename_i hd
         cases h
         intro hc
         refine ⟨rfl, fun F cs r hf hcs hr => ?_⟩
         obtain rfl := key F _ hf
         have hcs' := objs_one hcs hl
         subst hcs'
         simp only [act, PObj.toA, loadA, AObj.known, hu, hd] at hr
         cases hr
         exact ⟨⟨Nat.zero_le _, ints_get (by simpa using hc), trivial⟩, fun e => rfl, rfl⟩)
    | (rename_i d l e hu hl
       split at h
       · cases h
       · rename_i hd
         cases h
         intro hc
         refine ⟨rfl, fun F cs r hf hcs hr => ?_⟩
         obtain rfl := key F _ hf
         have hcs' := objs_one hcs hl
         subst hcs'
         simp only [act, PObj.toA, loadA, AObj.known, hu, hd] at hr
         cases hr
         exact ⟨⟨Nat.zero_le _, u8s_getB (by simpa using hc), trivial⟩, fun e => rfl, rfl⟩)
    | (rename_i d l e hu hl
       split at h
       · cases h
       · rename_i hd
         cases h
         intro hc
         refine ⟨rfl, fun F cs r hf hcs hr => ?_⟩
         obtain rfl := key F _ hf
         have hcs' := objs_one hcs hl
         subst hcs'
         simp only [act, PObj.toA, loadA, AObj.known, hu, hd] at hr
         cases hr
         exact ⟨⟨Nat.zero_le _, bools_get (by simpa using hc), trivial⟩, fun e => rfl, rfl⟩)

theorem loadRP_sound {t : TypeId} {x0 : Operand} {nm w i j : Nat} {mem : List (Option PObj)} {a : Alt} (h : loadRP P t w i j nm mem = some a) : AltOK P (.load t x0) [.rptr nm w i j] mem a := by
  have key : ∀ (F : Foot) (hh : Hint), hh.view = 0 → foot hh (.load t x0) [.rptr nm w i j] = some F → F = ⟨[nm], [], []⟩ := fun F hh h0 hf => by simpa [foot, h0] using hf.symm
  unfold loadRP at h
  split at h
  · rename_i sh rows d hu hl
    split at h
    · rename_i q hq
      cases h
      intro hc
      refine ⟨rfl, fun F cs r hf hcs hr => ?_⟩
      have hF : F = ⟨[nm], [], [frn mem]⟩ := by simpa [foot] using hf.symm
      subst hF
      have hcs' := objs_one hcs hl
      subst hcs'
      simp only [Bool.and_eq_true, decide_eq_true_eq, beqT] at hc
      simp only [act, PObj.toA, loadN, hu, hq, if_true] at hr
      split at hr
      · cases hr; exact ⟨⟨hc.1.1, hc.1.2, hc.2, trivial⟩, fun e => absurd rfl e, rfl⟩
      · cases hr
    · cases h
  · rename_i d m sh rows hu hl
    split at h
    · rename_i hd
      cases h
      intro hc
      refine ⟨rfl, fun F cs r hf hcs hr => ?_⟩
      obtain rfl := key F _ rfl hf
      have hcs' := objs_one hcs hl
      subst hcs'
      simp only [Bool.and_eq_true, decide_eq_true_eq, beqT, bleT] at hc
      simp only [act, PObj.toA, loadR, aggT, hu, hd, show ((0 : Nat) = 6) = False from by simp, if_false, if_true] at hr
      split at hr
      · cases hr; exact ⟨⟨hc.1.1, hc.1.2, hc.2, trivial⟩, fun e => absurd rfl e, rfl⟩
      · cases hr
    · rename_i hd
      cases h
      intro hc
      refine ⟨rfl, fun F cs r hf hcs hr => ?_⟩
      obtain rfl := key F _ rfl hf
      have hcs' := objs_one hcs hl
      subst hcs'
      simp only [Bool.and_eq_true, decide_eq_true_eq, beqT] at hc
      simp only [act, PObj.toA, loadR, aggT, hu, hd, Bool.false_eq_true, show ((0 : Nat) = 6) = False from by simp, if_false] at hr
      split at hr
      · split at hr
        · split at hr
          · cases hr
          · cases hr; exact ⟨⟨hc.1, hc.2, trivial⟩, fun e => absurd rfl e, rfl⟩
        · cases hr
      · cases hr
  · rename_i d sh rows e hu hl
    split at h
    · rename_i hd
      cases h
      intro hc
      refine ⟨rfl, fun F cs r hf hcs hr => ?_⟩
      obtain rfl := key F _ rfl hf
      have hcs' := objs_one hcs hl
      subst hcs'
      simp only [Bool.and_eq_true, decide_eq_true_eq, beqT, bleT] at hc
      obtain ⟨⟨c1, rfl⟩, c3⟩ := hc
      simp only [act, PObj.toA, loadA, AObj.known, hu, hd, if_true, show ((0 : Nat) = 6) = False from by simp, if_false] at hr
      cases hr
      refine ⟨⟨Nat.zero_le _, ?_, ?_, trivial⟩, fun e => absurd rfl e, rfl⟩
      · rw [rowsA_length]
        have : (i + 1) * sh.length ≤ rows.length * sh.length := Nat.mul_le_mul_right _ c1
        rw [Nat.add_mul] at this; omega
      · rw [Nat.sub_zero]; exact rowsA_part c1 c3
    · rename_i hd
      cases h
      intro hc
      refine ⟨rfl, fun F cs r hf hcs hr => ?_⟩
      obtain rfl := key F _ rfl hf
      have hcs' := objs_one hcs hl
      subst hcs'
      simp only [Bool.and_eq_true, decide_eq_true_eq, beqT, bltT] at hc
      obtain ⟨⟨c1, rfl⟩, c3⟩ := hc
      simp only [act, PObj.toA, loadA, AObj.known, hu, hd] at hr
      cases hr
      exact ⟨⟨Nat.zero_le _, by rw [Nat.sub_zero]; exact rowsA_get c1 c3, trivial⟩, fun e => absurd rfl e, rfl⟩
  · cases h

theorem loadDP_sound {t : TypeId} {x0 : Operand} {nm off : Nat} {mem : List (Option PObj)} {a : Alt} (h : loadDP P t nm off mem = some a) : AltOK P (.load t x0) [.dptr nm off] mem a := by
  unfold loadDP at h
  split at h
  · rename_i d m l hu hl
    split at h
    · cases h
    · rename_i hd
      cases h
      intro hc
      refine ⟨rfl, fun F cs r hf hcs hr => ?_⟩
      simp only [foot, Option.some.injEq] at hf; subst hf
      have hcs' := objs_one hcs hl
      subst hcs'
      simp only [act, PObj.toA, AObj.knownD, loadD, hu, hd] at hr
      cases hr
      exact ⟨⟨ints_get (by simpa using hc), trivial⟩, fun e => absurd rfl e, rfl⟩
  · rename_i d m l hu hl
    split at h
    · cases h
    · rename_i hd
      cases h
      intro hc
      refine ⟨rfl, fun F cs r hf hcs hr => ?_⟩
      simp only [foot, Option.some.injEq] at hf; subst hf
      have hcs' := objs_one hcs hl
      subst hcs'
      simp only [act, PObj.toA, AObj.knownD, loadD, hu, hd] at hr
      cases hr
      exact ⟨⟨u8s_getB (by simpa using hc), trivial⟩, fun e => absurd rfl e, rfl⟩
  · cases h
theorem tab_get {l : List (IntKind × Int)} {k : IntKind} (hk : tabOne k l = true) {i : Nat} (h : i < l.length) : (gcells l)[i]? = some (.int k (tabAt l i)) := by
  simp only [gcells, List.getElem?_map, List.getElem?_eq_getElem h, Option.map_some, tabAt, List.getD, Option.getD_some]
  have := List.all_eq_true.1 hk _ (List.getElem_mem h)
  have : l[i].1 = k := by simpa using this
  rw [this]
theorem strs_get {l : List (List UInt8)} {i : Nat} (h : i < l.length) : (gcellsS l)[i]? = some (.str (l.getD i [])) := by
  simp only [gcellsS, List.getElem?_map, List.getElem?_eq_getElem h, Option.map_some, List.getD, Option.getD_some]
theorem loadGC_sound {t : TypeId} {x0 : Operand} {g off : Nat} {mem : List (Option PObj)} {d : TypeDesc} {cs0 : List AV} {vs0 : List Value} {f : Nat → AV} {n : Nat} (hu : P.underlying t = some d) (hg : gAll g = some (cs0, vs0)) (hl : cs0.length = n) (hf0 : ∀ i, i < n → cs0[i]? = some (f i)) :
    AltOK P (.load t x0) [.gptr g off] mem (if isAggD d then .ok (decide (off + P.cellsOf t ≤ n)) { val := some (.agg ((List.range (P.cellsOf t)).map fun j => f (off + j))) } [] [] else .ok (decide (off < n)) { val := some (f off) } [] []) := by
  split
  · rename_i hd
    intro hc
    refine ⟨rfl, fun F cs r hf hcs hr => ?_⟩
    simp only [foot, Option.some.injEq] at hf
    subst hf
    simp only [Foot.no, objs, Option.some.injEq] at hcs
    subst hcs
    simp only [act, hg, loadA, AObj.known, hu, hd, if_true] at hr
    cases hr
    have hc : off + P.cellsOf t ≤ n := by simpa using hc
    refine ⟨⟨Nat.zero_le _, by rw [hl]; omega, ?_, trivial⟩, fun e => absurd rfl e, rfl⟩
    apply List.ext_getElem?
    intro i
    rw [List.getElem?_take, List.getElem?_drop, List.getElem?_map]
    by_cases hi : i < P.cellsOf t
    · rw [if_pos hi, Nat.sub_zero, hf0 _ (by omega), List.getElem?_range hi]; rfl
    · rw [if_neg hi, List.getElem?_eq_none (by simp; omega)]; rfl
  · rename_i hd
    intro hc
    refine ⟨rfl, fun F cs r hf hcs hr => ?_⟩
    simp only [foot, Option.some.injEq] at hf
    subst hf
    simp only [Foot.no, objs, Option.some.injEq] at hcs
    subst hcs
    simp only [act, hg, loadA, AObj.known, hu, hd] at hr
    cases hr
    have hc : off < n := by simpa using hc
    exact ⟨⟨Nat.zero_le _, hf0 _ (by simpa using hc), trivial⟩, fun e => absurd rfl e, rfl⟩
theorem loadGP_sound {t : TypeId} {x0 : Operand} {g off : Nat} {mem : List (Option PObj)} {a : Alt} (h : loadGP P t g off = some a) : AltOK P (.load t x0) [.gptr g off] mem a := by
  unfold loadGP at h
  split at h
  · rename_i d hu hg
    split at h
    · rename_i l hs
      have := loadGC_sound (x0 := x0) (off := off) (mem := mem) (f := fun i => .str (l.getD i [])) (n := l.length) hu (show gAll g = some (gcellsS l, gvalsS l) by unfold gAll; rw [hg, hs]) (by simp [gcellsS]) (fun i hi => strs_get hi)
      split at h
      · rename_i hd; cases h; rw [if_pos hd] at this; exact this
      · rename_i hd; cases h; rw [if_neg hd] at this; exact this
    · cases h
  · rename_i d l hu hg
    split at h
    · rename_i hone
      have := loadGC_sound (x0 := x0) (off := off) (mem := mem) (f := fun i => .int (tabKind l) (tabAt l i)) (n := l.length) hu (show gAll g = some (gcells l, gvals l) by unfold gAll; rw [hg]) (by simp [gcells]) (fun i hi => tab_get hone hi)
      split at h
      · rename_i hd; cases h; rw [if_pos hd] at this; exact this
      · rename_i hd; cases h; rw [if_neg hd] at this; exact this
    · cases h
  · cases h

theorem toByte_toNat {n : Int} (h : 0 ≤ n ∧ n < 256) : (((toByte n).toNat : Nat) : Int) = n := by
  simp only [toByte, UInt8.toNat_ofNat']
  omega

def News.A : News → List AV
  | .cells _ _ c => c
  | .bytes _ _ l => u8s l
  | .nums _ _ k l => ints k l
  | .rows _ _ sh l => rowsA sh l

theorem u8s_drop (l : List UInt8) (a b : Nat) : ((u8s l).drop a).take b = u8s ((l.drop a).take b) := by simp [u8s, List.map_take, List.map_drop]
theorem ints_drop (k : IntKind) (l : List Int) (a b : Nat) : ((ints k l).drop a).take b = ints k ((l.drop a).take b) := by simp [ints, List.map_take, List.map_drop]
theorem u8s_take (l : List UInt8) (b : Nat) : (u8s l).take b = u8s (l.take b) := by simp [u8s, List.map_take]
theorem ints_take (k : IntKind) (l : List Int) (b : Nat) : (ints k l).take b = ints k (l.take b) := by simp [ints, List.map_take]

theorem bytesOfA_sound : ∀ (c : List AV) (b : Bool) (l : List UInt8), bytesOfA c = some (b, l) → b = true → c = u8s l
  | [], b, l, h, _ => by simp [bytesOfA] at h; rw [h.2]; rfl
  | v :: c, b, l, h, hb => by
    unfold bytesOfA at h
    split at h
    · rename_i e; cases e
    · rename_i n cs e
      cases e
      simp only [Option.map_eq_some_iff, Prod.mk.injEq] at h
      obtain ⟨⟨b', l'⟩, h1, h2, h3⟩ := h
      subst h3
      simp only [← h2, Bool.and_eq_true, decide_eq_true_eq] at hb
      have := bytesOfA_sound _ _ _ h1 hb.2
      rw [this]
      simp only [u8s, List.map_cons]
      rw [toByte_toNat hb.1]
    · cases h
theorem intsOfA_sound {k : IntKind} : ∀ (c : List AV) (l : List Int), intsOfA k c = some l → c = ints k l
  | [], l, h => by simp [intsOfA] at h; rw [h]; rfl
  | v :: c, l, h => by
    unfold intsOfA at h
    split at h
    · rename_i e; cases e
    · rename_i k' n cs e
      cases e
      split at h
      · rename_i hk
        have hk : k' = k := by simpa using hk
        subst hk
        simp only [Option.map_eq_some_iff] at h
        obtain ⟨l', h1, rfl⟩ := h
        rw [intsOfA_sound _ _ h1]; rfl
      · cases h
    · cases h

theorem objs_append {m : List (Option AObj)} : ∀ (a b : List Nat) (cs : List AObj), objs m (a ++ b) = some cs → ∃ x y, objs m a = some x ∧ objs m b = some y ∧ cs = x ++ y
  | [], b, cs, h => ⟨[], cs, rfl, h, rfl⟩
  | n :: a, b, cs, h => by
    simp only [List.cons_append, objs] at h
    split at h
    · rename_i o os ho hos
      cases h
      obtain ⟨x, y, h1, h2, rfl⟩ := objs_append a b _ hos
      exact ⟨o :: x, y, by simp only [objs, ho, h1], h2, rfl⟩
    · cases h
theorem objs_names {m : List (Option PObj)} : ∀ (ns : List Nat) (cs : List AObj), objs (memA m) ns = some cs → cs = (ns.filterMap fun n => lookP m n).map PObj.toA
  | [], cs, h => by simpa [objs] using h.symm
  | n :: ns, cs, h => by
    simp only [objs] at h
    split at h
    · rename_i o os ho hos
      cases h
      rw [memA_get] at ho
      rw [objs_names ns _ hos]
      cases hm : m[n]? with
      | none => simp [hm] at ho
      | some p => cases p with
        | none => simp [hm] at ho
        | some p =>
          simp only [hm, Option.map_some, Option.some.injEq] at ho
          have : lookP m n = some p := by simp [lookP, hm]
          simp [List.filterMap_cons, this, ho]
    · cases h
theorem objs_nameP {m : List (Option PObj)} {x : AV} {cs : List AObj} (h : objs (memA m) x.name = some cs) : cs = (nameP x m).map PObj.toA := objs_names _ _ h

theorem newsP_sound {sz : Nat} {x : AV} {mem : List (Option PObj)} {w : News} {cs : List AObj} {ob : List Prop} {n : Nat} {new : List AV} (h : newsP sz x mem = some w) (hcs : objs (memA mem) x.name = some cs) (he : elemsA sz x cs = some (ob, n, new)) :
    n = w.n ∧ new = w.A ∧ (w.ob = true → AllP ob) := by
  unfold newsP at h
  split at h
  · cases h
    simp only [AV.name, objs, Option.some.injEq] at hcs; subst hcs
    simp only [elemsA, Option.some.injEq, Prod.mk.injEq] at he; obtain ⟨rfl, rfl, rfl⟩ := he
    exact ⟨rfl, rfl, fun _ => trivial⟩
  · cases h
    simp only [AV.name, objs, Option.some.injEq] at hcs; subst hcs
    simp only [elemsA, Option.some.injEq, Prod.mk.injEq] at he; obtain ⟨rfl, rfl, rfl⟩ := he
    exact ⟨rfl, rfl, fun hb => ⟨beqT.1 hb, trivial⟩⟩
  · rename_i nm off len cap
    split at h
    · rename_i o hl
      have := objs_one hcs hl
      subst this
      split at h
      · rename_i o0 c hk
        cases h
        simp only [elemsA, PObj.toA, hk, Option.some.injEq, Prod.mk.injEq] at he; obtain ⟨rfl, rfl, rfl⟩ := he
        refine ⟨rfl, rfl, fun hb => ?_⟩
        simp only [News.ob, Bool.and_eq_true, bleT] at hb
        exact ⟨hb.1, hb.2, trivial⟩
      · cases h
    · rename_i l e hl
      have := objs_one hcs hl
      subst this
      split at h
      · rename_i hs
        cases h
        have hs := beqT.1 hs; subst hs
        simp only [elemsA, PObj.toA, AObj.known, Option.some.injEq, Prod.mk.injEq] at he; obtain ⟨rfl, rfl, rfl⟩ := he
        refine ⟨rfl, by rw [Nat.sub_zero, Nat.mul_one, u8s_drop]; rfl, fun hb => ?_⟩
        simp only [News.ob, decide_eq_true_eq] at hb
        exact ⟨Nat.zero_le _, by rw [u8s_length]; omega, trivial⟩
      · cases h
    · rename_i k l e hl
      have := objs_one hcs hl
      subst this
      split at h
      · rename_i hs
        cases h
        have hs := beqT.1 hs; subst hs
        simp only [elemsA, PObj.toA, AObj.known, Option.some.injEq, Prod.mk.injEq] at he; obtain ⟨rfl, rfl, rfl⟩ := he
        refine ⟨rfl, by rw [Nat.sub_zero, Nat.mul_one, ints_drop]; rfl, fun hb => ?_⟩
        simp only [News.ob, decide_eq_true_eq] at hb
        exact ⟨Nat.zero_le _, by rw [ints_length]; omega, trivial⟩
      · cases h
    · cases h
  · rename_i nm len
    split at h
    · rename_i o hl
      have := objs_one hcs hl
      subst this
      split at h
      · rename_i o0 c hk
        cases h
        simp only [elemsA, PObj.toA, hk, Option.some.injEq, Prod.mk.injEq] at he; obtain ⟨rfl, rfl, rfl⟩ := he
        refine ⟨rfl, rfl, fun hb => ?_⟩
        simp only [News.ob, Bool.and_eq_true, bleT, beqT] at hb
        exact ⟨hb.1, hb.2, trivial⟩
      · cases h
    · rename_i l e hl
      have := objs_one hcs hl
      subst this
      split at h
      · rename_i hs
        cases h
        have hs := beqT.1 hs; subst hs
        simp only [elemsA, PObj.toA, AObj.known, Option.some.injEq, Prod.mk.injEq] at he; obtain ⟨rfl, rfl, rfl⟩ := he
        refine ⟨rfl, by rw [Nat.mul_one, u8s_take]; rfl, fun hb => ?_⟩
        simp only [News.ob, decide_eq_true_eq] at hb
        exact ⟨by trivial, by rw [u8s_length]; omega, trivial⟩
      · cases h
    · rename_i k l e hl
      have := objs_one hcs hl
      subst this
      split at h
      · rename_i hs
        cases h
        have hs := beqT.1 hs; subst hs
        simp only [elemsA, PObj.toA, AObj.known, Option.some.injEq, Prod.mk.injEq] at he; obtain ⟨rfl, rfl, rfl⟩ := he
        refine ⟨rfl, by rw [Nat.mul_one, ints_take]; rfl, fun hb => ?_⟩
        simp only [News.ob, decide_eq_true_eq] at hb
        exact ⟨by trivial, by rw [ints_length]; omega, trivial⟩
      · cases h
    · rename_i sh l e hl
      have := objs_one hcs hl
      subst this
      split at h
      · rename_i hs
        cases h
        have hs := beqT.1 hs; subst hs
        simp only [elemsA, PObj.toA, AObj.known, Option.some.injEq, Prod.mk.injEq] at he; obtain ⟨rfl, rfl, rfl⟩ := he
        refine ⟨rfl, by rw [rowsA_take]; rfl, fun hb => ?_⟩
        simp only [News.ob, decide_eq_true_eq] at hb
        exact ⟨by trivial, by rw [rowsA_length]; exact Nat.mul_le_mul_right _ hb, trivial⟩
      · cases h
    · cases h
  · rename_i nm len
    split at h
    · rename_i m l hl
      have := objs_one hcs hl
      subst this
      split at h
      · rename_i hs
        cases h
        have hs := beqT.1 hs; subst hs
        simp only [elemsA, PObj.toA, AObj.knownD, Option.some.injEq, Prod.mk.injEq] at he; obtain ⟨rfl, rfl, rfl⟩ := he
        refine ⟨rfl, by rw [Nat.mul_one, ints_take]; rfl, fun hb => ?_⟩
        simp only [News.ob, decide_eq_true_eq] at hb
        exact ⟨by rw [ints_length]; omega, trivial⟩
      · cases h
    · cases h
  · rename_i nm w' off len
    split at h
    · rename_i sh l e hl
      have := objs_one hcs hl
      subst this
      split at h
      · rename_i hs
        cases h
        rw [Bool.and_eq_true, beqT, beqT] at hs
        obtain ⟨rfl, rfl⟩ := hs
        simp only [elemsA, PObj.toA, Option.some.injEq, Prod.mk.injEq] at he; obtain ⟨rfl, rfl, rfl⟩ := he
        refine ⟨rfl, by rw [rowsA_drop, rowsA_take]; rfl, fun hb => ?_⟩
        simp only [News.ob, decide_eq_true_eq] at hb
        exact ⟨trivial, by rw [rowsA_length, ← Nat.add_mul]; exact Nat.mul_le_mul_right _ hb, trivial⟩
      · cases h
    · cases h
  · cases h

def oldCells : Option PObj → List AV
  | none => []
  | some p => match p.toA with | .vec c _ _ => c | _ => []
theorem u8s_append (a b : List UInt8) : u8s (a ++ b) = u8s a ++ u8s b := by simp [u8s]
theorem ints_append (k : IntKind) (a b : List Int) : ints k (a ++ b) = ints k a ++ ints k b := by simp [ints]
theorem ckEq_of : ∀ {a b : CK}, ckEq a b = true → a = b := by
  intro a b h
  cases a <;> cases b <;> first | rfl | cases h | skip
  simp only [ckEq, beq_iff_eq] at h; rw [h]
theorem shEq_of : ∀ {x y : List CK}, shEq x y = true → x = y
  | [], [], _ => rfl
  | [], _ :: _, h => by cases h
  | _ :: _, [], h => by cases h
  | a :: x, b :: y, h => by
    simp only [shEq, Bool.and_eq_true] at h
    rw [ckEq_of h.1, shEq_of h.2]
theorem growP_sound {e : TypeId} {sz : Nat} {old : Option PObj} {w : News} {b : Bool} {o : PObj} (h : growP P e sz old w = some (b, o)) (hb : b = true) :
    o.toA = .vec (oldCells old ++ w.A) e sz ∧ w.ob = true ∧ (∀ p, old = some p → p.toA = .vec (oldCells old) e sz ∧ p.len = (oldCells old).length) := by
  unfold growP at h
  split at h
  · split at h
    · rename_i hs; have hs := beqT.1 hs; subst hs; cases h; exact ⟨rfl, hb, fun p e => by cases e⟩
    · cases h
  · split at h
    · rename_i hs; have hs := beqT.1 hs; subst hs
      simp only [Option.map_eq_some_iff, Prod.mk.injEq] at h
      obtain ⟨⟨b', l⟩, h1, h2, rfl⟩ := h
      simp only [← h2, Bool.and_eq_true] at hb
      exact ⟨by simp only [PObj.toA, oldCells, News.A, List.nil_append, bytesOfA_sound _ _ _ h1 hb.2], hb.1, fun p e => by cases e⟩
    · cases h
  · split at h
    · rename_i hs; simp only [Bool.and_eq_true, beqT, beq_iff_eq] at hs; obtain ⟨rfl, rfl⟩ := hs; cases h
      exact ⟨by simp only [PObj.toA, oldCells, News.A, u8s_append], hb, fun p e => by cases e; exact ⟨rfl, by simp [PObj.len, oldCells, PObj.toA, u8s_length]⟩⟩
    · cases h
  · split at h
    · rename_i hs; simp only [Bool.and_eq_true, beqT, beq_iff_eq] at hs; obtain ⟨rfl, rfl⟩ := hs
      simp only [Option.map_eq_some_iff, Prod.mk.injEq] at h
      obtain ⟨⟨b', l⟩, h1, h2, rfl⟩ := h
      simp only [← h2, Bool.and_eq_true] at hb
      exact ⟨by simp only [PObj.toA, oldCells, News.A, u8s_append, bytesOfA_sound _ _ _ h1 hb.2], hb.1, fun p e => by cases e; exact ⟨rfl, by simp [PObj.len, oldCells, PObj.toA, u8s_length]⟩⟩
    · cases h
  · split at h
    · rename_i hs; simp only [Bool.and_eq_true, beqT, beq_iff_eq] at hs; obtain ⟨rfl, rfl⟩ := hs; cases h; exact ⟨rfl, hb, fun p e => by cases e⟩
    · cases h
  · split at h
    · rename_i hs; have hs := beqT.1 hs; subst hs
      simp only [Option.map_eq_some_iff, Prod.mk.injEq] at h
      obtain ⟨l, h1, h2, rfl⟩ := h
      subst h2
      exact ⟨by simp only [PObj.toA, oldCells, News.A, List.nil_append, intsOfA_sound _ _ h1], hb, fun p e => by cases e⟩
    · cases h
  · split at h
    · rename_i hs; simp only [Bool.and_eq_true, beqT, beq_iff_eq] at hs; obtain ⟨⟨rfl, rfl⟩, rfl⟩ := hs; cases h
      exact ⟨by simp only [PObj.toA, oldCells, News.A, ints_append], hb, fun p e => by cases e; exact ⟨rfl, by simp [PObj.len, oldCells, PObj.toA, ints_length]⟩⟩
    · cases h
  · split at h
    · rename_i hs; simp only [Bool.and_eq_true, beqT, beq_iff_eq] at hs; obtain ⟨rfl, rfl⟩ := hs
      simp only [Option.map_eq_some_iff, Prod.mk.injEq] at h
      obtain ⟨l, h1, h2, rfl⟩ := h
      subst h2
      exact ⟨by simp only [PObj.toA, oldCells, News.A, ints_append, intsOfA_sound _ _ h1], hb, fun p e => by cases e; exact ⟨rfl, by simp [PObj.len, oldCells, PObj.toA, ints_length]⟩⟩
    · cases h
  · split at h
    · split at h
      · rename_i hr
        split at h
        · rename_i hs; have hs := beqT.1 hs; subst hs
          cases h
          exact ⟨by simp only [PObj.toA, oldCells, News.A, List.nil_append, (rowsOf_sound _ _ _ hr).1], hb, fun p e => by cases e⟩
        · cases h
      · cases h; exact ⟨rfl, hb, fun p e => by cases e⟩
    · cases h; exact ⟨rfl, hb, fun p e => by cases e⟩
  · split at h
    · rename_i hs; have hs := beqT.1 hs; subst hs
      cases h
      exact ⟨by simp only [PObj.toA, oldCells, News.A, List.nil_append], hb, fun p e => by cases e⟩
    · cases h
  · split at h
    · rename_i hs; simp only [Bool.and_eq_true, beqT, beq_iff_eq] at hs; obtain ⟨rfl, rfl⟩ := hs
      simp only [Option.map_eq_some_iff, Prod.mk.injEq] at h
      obtain ⟨l, h1, rfl, rfl⟩ := h
      exact ⟨by simp only [PObj.toA, oldCells, News.A, rowsA_append, (rowsOf_sound _ _ _ h1).1], hb, fun p e => by cases e; exact ⟨rfl, by simp [PObj.len, oldCells, PObj.toA, rowsA_length]⟩⟩
    · cases h
  · split at h
    · rename_i hs; simp only [Bool.and_eq_true, beqT, beq_iff_eq] at hs; obtain ⟨⟨rfl, rfl⟩, hs⟩ := hs
      cases shEq_of hs
      cases h
      exact ⟨by simp only [PObj.toA, oldCells, News.A, rowsA_append], hb, fun p e => by cases e; exact ⟨rfl, by simp [PObj.len, oldCells, PObj.toA, rowsA_length]⟩⟩
    · cases h
  · cases h; exact ⟨rfl, hb, fun p e => by cases e⟩
  · split at h
    · rename_i hs; simp only [Bool.and_eq_true, beq_iff_eq] at hs; obtain ⟨rfl, rfl⟩ := hs; cases h
      exact ⟨rfl, hb, fun p e => by cases e; exact ⟨rfl, rfl⟩⟩
    · cases h
  · cases h

theorem room_sound {m bytes : Nat} (h : roomB m bytes = true) : 2 * m * bytes ≤ 281474976710656 ∧ 2 * m < 9223372036854775808 := by simpa [roomB] using h
theorem sealR_0 {h : Hint} (hv : h.view = 0) (r : Res) : sealR h r = r := by simp [sealR, hv]

theorem append_yes {c : Call} {x : AV} {mem : List (Option PObj)} {e : TypeId} {ie : TypeInfo} {w : News} {b : Bool} {o : PObj} (hc : c.callee = .builtin .append) (he : (c.argTypes[0]?).bind P.underlying = some (.slice e)) (hi : P.info? e = some ie) (hw : newsP ie.size x mem = some w) (hg : growP P e ie.size none w = some (b, o)) (h0 : 0 < w.n) :
    AltOK P (.call c) [.nilslice, x] mem (.ok (b && roomB w.n ie.bytes) { nm := [frn mem], obj := some [o.toA] } (nameP x mem) [o]) := by
  intro hb
  refine ⟨rfl, fun F cs r hf hcs hr => ?_⟩
  simp only [Bool.and_eq_true] at hb
  obtain ⟨hb1, hb2⟩ := hb
  obtain ⟨r1, r2⟩ := room_sound hb2
  obtain ⟨go, gw, _⟩ := growP_sound hg hb1
  simp only [foot, hc, AV.name, List.nil_append, AV.isVec, Bool.false_eq_true, if_false, Option.some.injEq] at hf
  subst hf
  simp only [act, hc, Option.map_eq_some_iff] at hr
  obtain ⟨r', hr, rfl⟩ := hr
  simp only [appendA, he] at hr
  split at hr
  · rename_i tx k e1 e2 e3
    cases e1; cases e3
    split at hr
    · cases hr
    · simp only [hi] at hr
      split at hr
      · rename_i ie' z e4 e5
        cases e4
        split at hr
        · cases hr
        · split at hr
          · rename_i ob n new hel
            obtain ⟨n1, n2, n3⟩ := newsP_sound hw hcs hel
            cases hr
            subst n1; subst n2
            refine ⟨?_, fun e => absurd rfl e, rfl⟩
            simp only [sealR, grow]
            refine allP_append.2 ⟨allP_append.2 ⟨n3 gw, h0, r1, r2, trivial⟩, ?_, trivial⟩
            rw [go]; rfl
          · cases hr
      · cases hr
  · rename_i e1 e2 e3
    cases e3
  · cases hr

theorem append_no {c : Call} {x : AV} {mem : List (Option PObj)} {e : TypeId} {ie : TypeInfo} {w : News} (hc : c.callee = .builtin .append) (he : (c.argTypes[0]?).bind P.underlying = some (.slice e)) (hi : P.info? e = some ie) (hw : newsP ie.size x mem = some w) (h0 : w.n = 0) :
    AltOK P (.call c) [.nilslice, x] mem (.ok w.ob {} (nameP x mem) []) := by
  intro hb
  refine ⟨rfl, fun F cs r hf hcs hr => ?_⟩
  simp only [foot, hc, AV.name, List.nil_append, AV.isVec, Bool.false_eq_true, if_false, Option.some.injEq] at hf
  subst hf
  simp only [act, hc, Option.map_eq_some_iff] at hr
  obtain ⟨r', hr, rfl⟩ := hr
  simp only [appendA, he] at hr
  split at hr
  · rename_i e1 e2 e3
    cases e3
  · rename_i tx e1 e2 e3
    cases e1
    split at hr
    · cases hr
    · simp only [hi] at hr
      split at hr
      · rename_i ob n new hel
        obtain ⟨n1, n2, n3⟩ := newsP_sound hw hcs hel
        cases hr
        exact ⟨allP_append.2 ⟨n3 hb, n1.trans h0, trivial⟩, fun e => absurd rfl e, rfl⟩
      · cases hr
  · cases hr

theorem append_vec {c : Call} {x : AV} {mem : List (Option PObj)} {e : TypeId} {ie : TypeInfo} {w : News} {b : Bool} {nm len : Nat} {old o : PObj} (hc : c.callee = .builtin .append) (he : (c.argTypes[0]?).bind P.underlying = some (.slice e)) (hi : P.info? e = some ie) (hw : newsP ie.size x mem = some w) (hl : lookP mem nm = some old) (hg : growP P e ie.size (some old) w = some (b, o)) :
    AltOK P (.call c) [.vec nm len, x] mem (.ok (b && decide (old.len = len * ie.size) && roomB (len + w.n) ie.bytes) { nm := [frn mem], obj := some [o.toA] } (.raw .dead :: nameP x mem) [o]) := by
  intro hb
  refine ⟨rfl, fun F cs r hf hcs hr => ?_⟩
  simp only [Bool.and_eq_true, decide_eq_true_eq] at hb
  obtain ⟨⟨hb1, hb3⟩, hb2⟩ := hb
  obtain ⟨r1, r2⟩ := room_sound hb2
  obtain ⟨go, gw, gold⟩ := growP_sound hg hb1
  obtain ⟨gold, glen⟩ := gold _ rfl
  simp only [foot, hc, AV.name, AV.isVec, if_true, Option.some.injEq] at hf
  subst hf
  obtain ⟨a1, a2, k1, k2, rfl⟩ := objs_append _ _ _ hcs
  have := objs_one k1 hl
  subst this
  simp only [act, hc, Option.map_eq_some_iff] at hr
  obtain ⟨r', hr, rfl⟩ := hr
  simp only [appendA, he] at hr
  split at hr
  · rename_i tx k e1 e2 e3
    cases e1; cases e3
    split at hr
    · cases hr
    · simp only [hi] at hr
      split at hr
      · rename_i ie' z e4 e5
        cases e4
        split at hr
        · cases hr
        · simp only [gold, List.singleton_append, bne_self_eq_false, Bool.false_eq_true, if_false, beq_self_eq_true, if_true] at hr
          split at hr
          · rename_i ob n new hel
            obtain ⟨n1, n2, n3⟩ := newsP_sound hw k2 hel
            cases hr
            subst n1; subst n2
            refine ⟨?_, fun _ => ?_, rfl⟩
            · simp only [sealR, grow]
              refine allP_append.2 ⟨allP_append.2 ⟨n3 gw, ?_, r1, r2, trivial⟩, ?_, trivial⟩
              · rw [← hb3, glen]
              · rw [go]
            · simp only [sealR, grow, List.map_cons]
              rw [objs_nameP k2]; rfl
          · cases hr
      · cases hr
  · rename_i e1 e2 e3
    cases e3
  · cases hr

theorem append_slice {c : Call} {x : AV} {mem : List (Option PObj)} {e : TypeId} {ie : TypeInfo} {ob : Bool} {n : Nat} {cx oc : List AV} {nm off len cap o0 : Nat} {o : AObj} (hc : c.callee = .builtin .append) (he : (c.argTypes[0]?).bind P.underlying = some (.slice e)) (hi : P.info? e = some ie) (hw : newsP ie.size x mem = some (.cells ob n cx)) (hl : lookP mem nm = some (.raw o)) (hk : o.known = some (o0, oc)) :
    AltOK P (.call c) [.slice nm off len cap, x] mem (.ok (ob && Nat.ble o0 off && Nat.ble (off - o0 + len * ie.size) oc.length && Nat.beq len cap && Nat.blt 0 n && roomB (len + n) ie.bytes) { nm := [frn mem] } (.raw o :: nameP x mem) [.raw (.vec ((oc.drop (off - o0)).take (len * ie.size) ++ cx) e ie.size)]) := by
  intro hb
  refine ⟨rfl, fun F cs r hf hcs hr => ?_⟩
  simp only [Bool.and_eq_true, bleT, beqT, bltT] at hb
  obtain ⟨⟨⟨⟨⟨b1, b2⟩, b3⟩, b4⟩, b5⟩, b6⟩ := hb
  obtain ⟨r1, r2⟩ := room_sound b6
  simp only [foot, hc, AV.name, AV.isVec, Bool.false_eq_true, if_false, Option.some.injEq] at hf
  subst hf
  obtain ⟨a1, a2, k1, k2, rfl⟩ := objs_append _ _ _ hcs
  have := objs_one k1 hl
  subst this
  simp only [act, hc, Option.map_eq_some_iff] at hr
  obtain ⟨r', hr, rfl⟩ := hr
  simp only [appendA, he] at hr
  split at hr
  · rename_i tx k e1 e2 e3
    cases e1; cases e3
    split at hr
    · cases hr
    · simp only [hi] at hr
      split at hr
      · rename_i ie' z e4 e5
        cases e4
        split at hr
        · cases hr
        · simp only [PObj.toA, List.singleton_append, hk] at hr
          split at hr
          · rename_i o0' oc' ob' n' new h1 hel
            cases h1
            obtain ⟨n1, n2, n3⟩ := newsP_sound hw k2 hel
            cases hr
            simp only [News.n] at n1
            simp only [News.A] at n2
            subst n1; subst n2
            refine ⟨?_, fun e => absurd rfl e, rfl⟩
            simp only [sealR, grow]
            exact allP_append.2 ⟨n3 b1, b2, b3, b4, b5, r1, r2, trivial⟩
          · cases hr
      · cases hr
  · rename_i e1 e2 e3
    cases e3
  · cases hr

theorem append_arr {c : Call} {x : AV} {mem : List (Option PObj)} {e : TypeId} {ie : TypeInfo} {ob : Bool} {n : Nat} {k : IntKind} {l l' : List Int} {te : TypeId} {nm off len cap : Nat} (hc : c.callee = .builtin .append) (he : (c.argTypes[0]?).bind P.underlying = some (.slice e)) (hi : P.info? e = some ie) (hs : ie.size = 1) (hw : newsP ie.size x mem = some (.nums ob n k l')) (hl : lookP mem nm = some (.arrI k l te)) :
    AltOK P (.call c) [.slice nm off len cap, x] mem (.ok (ob && decide (off + len ≤ l.length) && Nat.beq len cap && decide (0 < n) && roomB (len + n) ie.bytes) { nm := [frn mem], obj := some [(PObj.vecI k ((l.drop off).take len ++ l') e).toA] } (.arrI k l te :: nameP x mem) [.vecI k ((l.drop off).take len ++ l') e]) := by
  intro hb
  refine ⟨rfl, fun F cs r hf hcs hr => ?_⟩
  simp only [Bool.and_eq_true, beqT, decide_eq_true_eq] at hb
  obtain ⟨⟨⟨⟨b1, b2⟩, b4⟩, b5⟩, b6⟩ := hb
  obtain ⟨r1, r2⟩ := room_sound b6
  simp only [foot, hc, AV.name, AV.isVec, Bool.false_eq_true, if_false, Option.some.injEq] at hf
  subst hf
  obtain ⟨a1, a2, k1, k2, rfl⟩ := objs_append _ _ _ hcs
  have := objs_one k1 hl
  subst this
  simp only [act, hc, Option.map_eq_some_iff] at hr
  obtain ⟨r', hr, rfl⟩ := hr
  simp only [appendA, he] at hr
  split at hr
  · rename_i tx k e1 e2 e3
    cases e1; cases e3
    split at hr
    · cases hr
    · simp only [hi] at hr
      split at hr
      · rename_i ie' z e4 e5
        cases e4
        split at hr
        · cases hr
        · simp only [PObj.toA, List.singleton_append, AObj.known] at hr
          split at hr
          · rename_i o0' oc' ob' n' new h1 hel
            cases h1
            obtain ⟨n1, n2, n3⟩ := newsP_sound hw k2 hel
            cases hr
            simp only [News.n] at n1
            simp only [News.A] at n2
            subst n1; subst n2
            refine ⟨?_, fun e => absurd rfl e, rfl⟩
            simp only [sealR, grow]
            refine allP_append.2 ⟨allP_append.2 ⟨n3 b1, Nat.zero_le _, by rw [ints_length, hs]; omega, b4, b5, r1, r2, trivial⟩, ?_, trivial⟩
            rw [hs, Nat.mul_one, Nat.sub_zero, ints_drop, ← ints_append]
          · cases hr
      · cases hr
  · rename_i e1 e2 e3
    cases e3
  · cases hr

theorem append_lit {c : Call} {x : AV} {mem : List (Option PObj)} {e : TypeId} {ie : TypeInfo} {ob : Bool} {n : Nat} {l' : List UInt8} {oc : List AV} {nm off len cap o0 : Nat} {o : AObj} (hc : c.callee = .builtin .append) (he : (c.argTypes[0]?).bind P.underlying = some (.slice e)) (hi : P.info? e = some ie) (hs : ie.size = 1) (h0 : len = 0) (hw : newsP ie.size x mem = some (.bytes ob n l')) (hl : lookP mem nm = some (.raw o)) (hk : o.known = some (o0, oc)) :
    AltOK P (.call c) [.slice nm off len cap, x] mem (.ok (ob && Nat.ble o0 off && Nat.ble (off - o0) oc.length && Nat.beq len cap && decide (0 < n) && roomB (len + n) ie.bytes) { nm := [frn mem], obj := some [(PObj.vecB l' e).toA] } (.raw o :: nameP x mem) [.vecB l' e]) := by
  intro hb
  refine ⟨rfl, fun F cs r hf hcs hr => ?_⟩
  simp only [Bool.and_eq_true, bleT, beqT, decide_eq_true_eq] at hb
  obtain ⟨⟨⟨⟨⟨b1, b2⟩, b3⟩, b4⟩, b5⟩, b6⟩ := hb
  obtain ⟨r1, r2⟩ := room_sound b6
  simp only [foot, hc, AV.name, AV.isVec, Bool.false_eq_true, if_false, Option.some.injEq] at hf
  subst hf
  obtain ⟨a1, a2, k1, k2, rfl⟩ := objs_append _ _ _ hcs
  have := objs_one k1 hl
  subst this
  simp only [act, hc, Option.map_eq_some_iff] at hr
  obtain ⟨r', hr, rfl⟩ := hr
  simp only [appendA, he] at hr
  split at hr
  · rename_i tx k e1 e2 e3
    cases e1; cases e3
    split at hr
    · cases hr
    · simp only [hi] at hr
      split at hr
      · rename_i ie' z e4 e5
        cases e4
        split at hr
        · cases hr
        · simp only [PObj.toA, List.singleton_append, hk] at hr
          split at hr
          · rename_i o0' oc' ob' n' new h1 hel
            cases h1
            obtain ⟨n1, n2, n3⟩ := newsP_sound hw k2 hel
            cases hr
            simp only [News.n] at n1
            simp only [News.A] at n2
            subst n1; subst n2
            refine ⟨?_, fun e => absurd rfl e, rfl⟩
            simp only [sealR, grow]
            refine allP_append.2 ⟨allP_append.2 ⟨n3 b1, b2, by rw [h0, Nat.zero_mul, Nat.add_zero]; exact b3, b4, b5, r1, r2, trivial⟩, ?_, trivial⟩
            rw [h0, Nat.zero_mul, List.take_zero, List.nil_append, hs]
          · cases hr
      · cases hr
  · rename_i e1 e2 e3
    cases e3
  · cases hr

theorem append_row {c : Call} {x : AV} {mem : List (Option PObj)} {e : TypeId} {ie : TypeInfo} {ob : Bool} {n : Nat} {sh : List CK} {l' : List (List CV)} {oc : List AV} {nm off len cap o0 : Nat} {o : AObj} (hc : c.callee = .builtin .append) (he : (c.argTypes[0]?).bind P.underlying = some (.slice e)) (hi : P.info? e = some ie) (hs : ie.size = sh.length) (h0 : len = 0) (hw : newsP ie.size x mem = some (.rows ob n sh l')) (hl : lookP mem nm = some (.raw o)) (hk : o.known = some (o0, oc)) :
    AltOK P (.call c) [.slice nm off len cap, x] mem (.ok (ob && Nat.ble o0 off && Nat.ble (off - o0) oc.length && Nat.beq len cap && decide (0 < n) && roomB (len + n) ie.bytes) { nm := [frn mem], obj := some [(PObj.vecR sh l' e).toA] } (.raw o :: nameP x mem) [.vecR sh l' e]) := by
  intro hb
  refine ⟨rfl, fun F cs r hf hcs hr => ?_⟩
  simp only [Bool.and_eq_true, bleT, beqT, decide_eq_true_eq] at hb
  obtain ⟨⟨⟨⟨⟨b1, b2⟩, b3⟩, b4⟩, b5⟩, b6⟩ := hb
  obtain ⟨r1, r2⟩ := room_sound b6
  simp only [foot, hc, AV.name, AV.isVec, Bool.false_eq_true, if_false, Option.some.injEq] at hf
  subst hf
  obtain ⟨a1, a2, k1, k2, rfl⟩ := objs_append _ _ _ hcs
  have := objs_one k1 hl
  subst this
  simp only [act, hc, Option.map_eq_some_iff] at hr
  obtain ⟨r', hr, rfl⟩ := hr
  simp only [appendA, he] at hr
  split at hr
  · rename_i tx k e1 e2 e3
    cases e1; cases e3
    split at hr
    · cases hr
    · simp only [hi] at hr
      split at hr
      · rename_i ie' z e4 e5
        cases e4
        split at hr
        · cases hr
        · simp only [PObj.toA, List.singleton_append, hk] at hr
          split at hr
          · rename_i o0' oc' ob' n' new h1 hel
            cases h1
            obtain ⟨n1, n2, n3⟩ := newsP_sound hw k2 hel
            cases hr
            simp only [News.n] at n1
            simp only [News.A] at n2
            subst n1; subst n2
            refine ⟨?_, fun e => absurd rfl e, rfl⟩
            simp only [sealR, grow]
            refine allP_append.2 ⟨allP_append.2 ⟨n3 b1, b2, by rw [h0, Nat.zero_mul, Nat.add_zero]; exact b3, b4, b5, r1, r2, trivial⟩, ?_, trivial⟩
            rw [h0, Nat.zero_mul, List.take_zero, List.nil_append, hs]
          · cases hr
      · cases hr
  · rename_i e1 e2 e3
    cases e3
  · cases hr

theorem append_stay {c : Call} {x : AV} {mem : List (Option PObj)} {e : TypeId} {ie : TypeInfo} {ob : Bool} {cx : List AV} {nm off len cap : Nat} {o : AObj} (hc : c.callee = .builtin .append) (he : (c.argTypes[0]?).bind P.underlying = some (.slice e)) (hi : P.info? e = some ie) (hw : newsP ie.size x mem = some (.cells ob 0 cx)) (hl : lookP mem nm = some (.raw o)) :
    AltOK P (.call c) [.slice nm off len cap, x] mem (.ok (ob && Nat.ble len cap) {} (.raw o :: nameP x mem) []) := by
  intro hb
  refine ⟨rfl, fun F cs r hf hcs hr => ?_⟩
  simp only [Bool.and_eq_true, bleT] at hb
  obtain ⟨b1, b2⟩ := hb
  simp only [foot, hc, AV.name, AV.isVec, Bool.false_eq_true, if_false, Option.some.injEq] at hf
  subst hf
  obtain ⟨a1, a2, k1, k2, rfl⟩ := objs_append _ _ _ hcs
  have := objs_one k1 hl
  subst this
  simp only [act, hc, Option.map_eq_some_iff] at hr
  obtain ⟨r', hr, rfl⟩ := hr
  simp only [appendA, he] at hr
  split at hr
  · rename_i e1 e2 e3
    cases e3
  · rename_i tx e1 e2 e3
    cases e1
    split at hr
    · cases hr
    · simp only [hi, PObj.toA, List.singleton_append] at hr
      split at hr
      · rename_i ob n new hel
        obtain ⟨n1, n2, n3⟩ := newsP_sound hw k2 hel
        cases hr
        exact ⟨allP_append.2 ⟨n3 b1, n1, b2, trivial⟩, fun e => absurd rfl e, rfl⟩
      · cases hr
  · cases hr

theorem appendP_sound {c : Call} {s x : AV} {mem : List (Option PObj)} {a : Alt} (hc : c.callee = .builtin .append) (h : appendP P c s x mem = some a) : AltOK P (.call c) [s, x] mem a := by
  unfold appendP at h
  split at h
  · rename_i e he
    split at h
    · rename_i ie hi
      split at h
      · rename_i w hw
        split at h
        · split at h
          · rename_i b o hg
            cases h
            split
            · rename_i ob n cx
              split
              · exact append_no hc he hi hw rfl
              · exact append_yes hc he hi hw hg (Nat.pos_of_ne_zero (by assumption))
            · exact ⟨fun hb => append_yes hc he hi hw hg (of_decide_eq_true hb), fun hb => append_no hc he hi hw (by simpa using hb)⟩
          · cases h
        · split at h
          · rename_i old hl
            split at h
            · rename_i b o hg
              cases h
              exact append_vec hc he hi hw hl hg
            · cases h
          · cases h
        · split at h
          · rename_i o hl
            split at h
            · rename_i o0 oc ob n cx hk
              split at h
              · cases h
                exact append_stay hc he hi hw hl
              · cases h
                exact append_slice hc he hi hw hl hk
            · rename_i o0 oc ob n sh l' hk
              split at h
              · rename_i hq
                simp only [Bool.and_eq_true, beqT] at hq
                cases h
                exact append_row hc he hi hq.1 hq.2 hw hl hk
              · cases h
            · rename_i o0 oc ob n l' hk
              split at h
              · rename_i hq
                simp only [Bool.and_eq_true, beqT] at hq
                cases h
                exact append_lit hc he hi hq.1 hq.2 hw hl hk
              · cases h
            · cases h
          · rename_i k l te hl
            split at h
            · rename_i ob n k' l'
              split at h
              · rename_i hk
                simp only [Bool.and_eq_true, beqT, beq_iff_eq] at hk
                obtain ⟨hk1, rfl⟩ := hk
                cases h
                exact append_arr hc he hi hk1 hw hl
              · cases h
            · cases h
          · cases h
        · cases h
      · cases h
    · cases h
  · cases h

end Go.Proofs.YtphhepnldndbhaaGreatDoor.Sx

/- The evaluator, part C: all operations. -/
set_option linter.unusedVariables false
set_option linter.unusedSimpArgs false
namespace Go.Proofs.YtphhepnldndbhaaGreatDoor.Sx
open Go
variable {P : Program}

theorem take_one (l : List AV) (a : Nat) (h : a ≤ l.length) : True := trivial
theorem storeP_sound {t : TypeId} {x0 y0 : Operand} {nm off : Nat} {v : AV} {mem : List (Option PObj)} {a : Alt} (h : storeP P t nm off v mem = some a) : AltOK P (.store t x0 y0) [.ptr nm off, v] mem a := by
  unfold storeP at h
  have key : ∀ (F : Foot) (hh : Hint), foot hh (.store t x0 y0) [.ptr nm off, v] = some F → F = ⟨[nm], [nm], []⟩ := fun F hh hf => by simpa [foot] using hf.symm
  split at h
  · rename_i o v' hl
    split at h
    · rename_i o0 cs0 hk
      split at h
      · rename_i o1 hs
        cases h
        intro hc
        refine ⟨rfl, fun F cs r hf hcs hr => ?_⟩
        obtain rfl := key F _ hf
        have hcs' := objs_one hcs hl
        subst hcs'
        simp only [Bool.and_eq_true, bleT, beqT] at hc
        simp only [act, PObj.toA, storeA, hk, hs] at hr
        split at hr
        · cases hr
        · cases hr
          exact ⟨⟨hc.1, hc.2, trivial⟩, fun _ => rfl, rfl⟩
      · cases h
    · cases h
  · rename_i k l e k' n hl
    split at h
    · rename_i hk
      simp only [Bool.and_eq_true, beqT, beq_iff_eq] at hk
      obtain ⟨rfl, hk⟩ := hk
      cases h
      intro hc
      refine ⟨rfl, fun F cs r hf hcs hr => ?_⟩
      obtain rfl := key F _ hf
      have hcs' := objs_one hcs hl
      subst hcs'
      simp only [decide_eq_true_eq] at hc
      simp only [act, PObj.toA, storeA, AObj.known, AObj.setCells] at hr
      split at hr
      · cases hr
      · cases hr
        refine ⟨⟨by rw [hk]; rfl, by rw [ints_length, hk]; omega, ?_, trivial⟩, fun _ => rfl, rfl⟩
        rw [hk, ← ints_set]
        show AObj.vec (List.take off (ints k' l) ++ [AV.int k' n] ++ List.drop (off + 1) (ints k' l)) e 1 = _
        rw [set_eq (by rw [ints_length]; exact hc)]
    · cases h
  · rename_i k l e k' n hl
    split at h
    · rename_i hk
      simp only [Bool.and_eq_true, beqT, beq_iff_eq] at hk
      obtain ⟨rfl, hk⟩ := hk
      cases h
      intro hc
      refine ⟨rfl, fun F cs r hf hcs hr => ?_⟩
      obtain rfl := key F _ hf
      have hcs' := objs_one hcs hl
      subst hcs'
      simp only [decide_eq_true_eq] at hc
      simp only [act, PObj.toA, storeA, AObj.known, AObj.setCells] at hr
      split at hr
      · cases hr
      · cases hr
        refine ⟨⟨by rw [hk]; rfl, by rw [ints_length, hk]; omega, ?_, trivial⟩, fun _ => rfl, rfl⟩
        rw [hk, ← ints_set]
        show AObj.cells (List.take off (ints k' l) ++ [AV.int k' n] ++ List.drop (off + 1) (ints k' l)) e = _
        rw [set_eq (by rw [ints_length]; exact hc)]
    · cases h
  · rename_i l e k' n hl
    split at h
    · rename_i hk
      simp only [Bool.and_eq_true, beqT, beq_iff_eq] at hk
      obtain ⟨rfl, hk⟩ := hk
      cases h
      intro hc
      refine ⟨rfl, fun F cs r hf hcs hr => ?_⟩
      obtain rfl := key F _ hf
      have hcs' := objs_one hcs hl
      subst hcs'
      simp only [Bool.and_eq_true, decide_eq_true_eq] at hc
      simp only [act, PObj.toA, storeA, AObj.known, AObj.setCells] at hr
      split at hr
      · cases hr
      · cases hr
        refine ⟨⟨by rw [hk]; rfl, by rw [u8s_length, hk]; omega, ?_, trivial⟩, fun _ => rfl, rfl⟩
        rw [hk]
        show AObj.vec (List.take off (u8s l) ++ [AV.int .u8 n] ++ List.drop (off + 1) (u8s l)) e 1 = _
        rw [set_eq (by rw [u8s_length]; exact hc.1)]
        simp only [u8s, List.map_set]
        rw [toByte_toNat hc.2]
    · cases h
  · rename_i l e b hl
    split at h
    · rename_i hk
      have hk := beqT.1 hk
      cases h
      intro hc
      refine ⟨rfl, fun F cs r hf hcs hr => ?_⟩
      obtain rfl := key F _ hf
      have hcs' := objs_one hcs hl
      subst hcs'
      simp only [decide_eq_true_eq] at hc
      simp only [act, PObj.toA, storeA, AObj.known, AObj.setCells] at hr
      split at hr
      · cases hr
      · cases hr
        refine ⟨⟨by rw [hk]; rfl, by rw [List.length_map, hk]; omega, ?_, trivial⟩, fun _ => rfl, rfl⟩
        rw [hk]
        show AObj.cells (List.take off (l.map AV.bool) ++ [AV.bool b] ++ List.drop (off + 1) (l.map AV.bool)) e = _
        rw [set_eq (by rw [List.length_map]; exact hc), List.map_set]
    · cases h
  · rename_i l e k' n hl
    split at h
    · rename_i hk
      simp only [Bool.and_eq_true, beqT, beq_iff_eq] at hk
      obtain ⟨rfl, hk⟩ := hk
      cases h
      intro hc
      refine ⟨rfl, fun F cs r hf hcs hr => ?_⟩
      obtain rfl := key F _ hf
      have hcs' := objs_one hcs hl
      subst hcs'
      simp only [Bool.and_eq_true, decide_eq_true_eq] at hc
      simp only [act, PObj.toA, storeA, AObj.known, AObj.setCells] at hr
      split at hr
      · cases hr
      · cases hr
        refine ⟨⟨by rw [hk]; rfl, by rw [u8s_length, hk]; omega, ?_, trivial⟩, fun _ => rfl, rfl⟩
        rw [hk]
        show AObj.cells (List.take off (u8s l) ++ [AV.int .u8 n] ++ List.drop (off + 1) (u8s l)) e = _
        rw [set_eq (by rw [u8s_length]; exact hc.1)]
        simp only [u8s, List.map_set]
        rw [toByte_toNat hc.2]
    · cases h
  · cases h

theorem rowsA_set {sh : List CK} {rows : List (List CV)} {i : Nat} {r : List CV} (hi : i < rows.length) : (rowsA sh rows).take (i * sh.length) ++ rowA sh r ++ (rowsA sh rows).drop (i * sh.length + sh.length) = rowsA sh (rows.set i r) := by
  rw [rowsA_take, show i * sh.length + sh.length = (i + 1) * sh.length by rw [Nat.succ_mul], rowsA_drop, List.set_eq_take_append_cons_drop, if_pos hi, rowsA_append]
  simp only [rowsA, List.flatMap_cons, List.append_assoc]
theorem storeRP_sound {t : TypeId} {x0 y0 : Operand} {nm w i j : Nat} {v : AV} {mem : List (Option PObj)} {a : Alt} (h : storeRP P t w i j nm v mem = some a) : AltOK P (.store t x0 y0) [.rptr nm w i j, v] mem a := by
  unfold storeRP at h
  have key : ∀ (F : Foot) (hh : Hint), foot hh (.store t x0 y0) [.rptr nm w i j, v] = some F → F = ⟨[nm], [nm], []⟩ := fun F hh hf => by simpa [foot] using hf.symm
  split at h
  · rename_i sh rows e hl
    split at h
    · rename_i cs
      split at h
      · rename_i r hr0
        cases h
        intro hc
        refine ⟨rfl, fun F cs' r' hf hcs hr => ?_⟩
        obtain rfl := key F _ hf
        have hcs' := objs_one hcs hl
        subst hcs'
        simp only [Bool.and_eq_true, decide_eq_true_eq, beqT] at hc
        obtain ⟨⟨⟨c1, rfl⟩, rfl⟩, c4⟩ := hc
        have hrow := rowOf_sound _ _ _ hr0
        have hlen : cs.length = sh.length := by rw [← hrow, rowA_length]
        simp only [act, PObj.toA, storeA, AObj.known, AObj.setCells] at hr
        split at hr
        · cases hr
        · cases hr
          refine ⟨⟨by show cs.length = _; rw [hlen, c4], ?_, ?_, trivial⟩, fun _ => rfl, rfl⟩
          · rw [rowsA_length, c4, Nat.add_zero]
            have : (i + 1) * sh.length ≤ rows.length * sh.length := Nat.mul_le_mul_right _ c1
            rw [Nat.add_mul] at this; omega
          · rw [c4, Nat.add_zero, ← hrow]
            show AObj.vec _ e sh.length = _
            rw [show (AV.agg (rowA sh r)).cells = rowA sh r from rfl, rowsA_set c1]
      · cases h
    · cases h
  · cases h
theorem stringP_sound {src dst e : TypeId} {x0 : Operand} {x : AV} {mem : List (Option PObj)} {a : Alt} (h1 : P.underlying src = some (.slice e)) (h2 : P.underlying dst = some .string) (h3 : P.underlying e = some (.int .u8)) (h : stringP x mem = some a) : AltOK P (.convert src dst x0) [x] mem a := by
  unfold stringP at h
  split at h
  · rename_i nm len
    split at h
    · rename_i l ty hl
      cases h
      intro hc
      refine ⟨rfl, fun F cs r hf hcs hr => ?_⟩
      simp only [foot, AV.name, Option.some.injEq] at hf
      subst hf
      have := objs_one hcs hl
      subst this
      simp only [decide_eq_true_eq] at hc
      simp only [act, h1, h2, h3, PObj.toA, AV.isDsl, elemsA, AObj.known] at hr
      cases hr
      refine ⟨⟨by trivial, by rw [u8s_length]; omega, ?_, trivial⟩, fun e => absurd rfl e, rfl⟩
      rw [Nat.mul_one, u8s_take]
    · cases h
  · rename_i nm off len cap
    split at h
    · rename_i l ty hl
      cases h
      intro hc
      refine ⟨rfl, fun F cs r hf hcs hr => ?_⟩
      simp only [foot, AV.name, Option.some.injEq] at hf
      subst hf
      have := objs_one hcs hl
      subst this
      simp only [decide_eq_true_eq] at hc
      simp only [act, h1, h2, h3, PObj.toA, AV.isDsl, elemsA, AObj.known] at hr
      cases hr
      refine ⟨⟨Nat.zero_le _, by rw [u8s_length]; omega, ?_, trivial⟩, fun e => absurd rfl e, rfl⟩
      rw [Nat.mul_one, Nat.sub_zero, u8s_drop]
    · rename_i o hl
      split at h
      · rename_i o0 c hk
        split at h
        · rename_i b l hb
          cases h
          intro hc
          refine ⟨rfl, fun F cs r hf hcs hr => ?_⟩
          simp only [foot, AV.name, Option.some.injEq] at hf
          subst hf
          have := objs_one hcs hl
          subst this
          simp only [Bool.and_eq_true, bleT] at hc
          obtain ⟨⟨c1, c2⟩, c3⟩ := hc
          simp only [act, h1, h2, h3, PObj.toA, AV.isDsl, elemsA, hk] at hr
          cases hr
          exact ⟨⟨c2, c3, bytesOfA_sound _ _ _ hb c1, trivial⟩, fun e => absurd rfl e, rfl⟩
        · cases h
      · cases h
    · cases h
  · rename_i nm w' off len
    split at h
    · rename_i l ty hl
      cases h
      intro hc
      refine ⟨rfl, fun F cs r hf hcs hr => ?_⟩
      simp only [foot, AV.name, Option.some.injEq] at hf
      subst hf
      have := objs_one hcs hl
      subst this
      simp only [Bool.and_eq_true, beqT, decide_eq_true_eq] at hc
      simp only [act, h1, h2, h3, PObj.toA, AV.isDsl, elemsA] at hr
      cases hr
      refine ⟨⟨hc.1, by rw [u8s_length]; omega, ?_, trivial⟩, fun e => absurd rfl e, rfl⟩
      rw [Nat.mul_one, Nat.mul_one, u8s_drop]
    · cases h
  · cases h

theorem convP_sound {src dst : TypeId} {x0 : Operand} {x : AV} {mem : List (Option PObj)} {a : Alt} (h : convP P src dst x mem = some a) : AltOK P (.convert src dst x0) [x] mem a := by
  unfold convP at h
  split at h
  · rename_i d e s h1 h2
    split at h
    · rename_i h3
      cases h
      intro hc
      refine ⟨rfl, fun F cs r hf hcs hr => ?_⟩
      simp only [foot, Option.some.injEq] at hf
      subst hf
      simp only [objs, Option.some.injEq] at hcs
      subst hcs
      simp only [act, h1, h2, h3] at hr
      cases hr
      exact ⟨trivial, fun e => absurd rfl e, rfl⟩
    · cases h
  · rename_i e h1 h2
    split at h
    · rename_i h3
      rw [okP_eq h]
      intro hc
      refine ⟨rfl, fun F cs r hf hcs hr => ?_⟩
      simp only [foot, AV.name, Option.some.injEq] at hf
      subst hf
      simp only [objs, Option.some.injEq] at hcs
      subst hcs
      simp only [act, h1, h2, h3] at hr
      cases hr
      exact ⟨trivial, fun e => absurd rfl e, rfl⟩
    · cases h
  · rename_i e h1 h2 _
    split at h
    · rename_i h3
      exact stringP_sound h1 h2 h3 h
    · cases h
  · rename_i t nm off h1 h2
    split at h
    · rename_i c ty hl
      cases h
      intro hc
      refine ⟨rfl, fun F cs r hf hcs hr => ?_⟩
      simp only [foot, AV.name, Option.some.injEq] at hf
      subst hf
      have := objs_one hcs hl
      subst this
      simp only [bltT] at hc
      simp only [act, h1, h2, PObj.toA] at hr
      split at hr
      · split at hr
        · cases hr
          exact ⟨⟨hc, trivial⟩, fun e => absurd rfl e, rfl⟩
        · cases hr
      · cases hr
    · cases h
  · rename_i u nm off h1 h2
    split at h
    · rename_i c ty hl
      cases h
      intro hc
      refine ⟨rfl, fun F cs r hf hcs hr => ?_⟩
      simp only [foot, AV.name, Option.some.injEq] at hf
      subst hf
      have := objs_one hcs hl
      subst this
      simp only [act, h1, h2, PObj.toA] at hr
      split at hr
      · cases hr
        exact ⟨⟨hc, trivial⟩, fun e => absurd rfl e, rfl⟩
      · cases hr
    · cases h
  · rename_i d k k' n h1 h2
    rw [okP_eq h]
    intro hc
    refine ⟨rfl, fun F cs r hf hcs hr => ?_⟩
    simp only [foot, AV.name, Option.some.injEq] at hf
    subst hf
    simp only [objs, Option.some.injEq] at hcs
    subst hcs
    simp only [act, h1, h2] at hr
    obtain ⟨ob, v, q1, rfl⟩ := ok1_spec hr
    have := convA_obl q1; subst this
    exact ⟨trivial, fun e => absurd rfl e, rfl⟩
  · rename_i d s h1 h2
    rw [okP_eq h]
    intro hc
    refine ⟨rfl, fun F cs r hf hcs hr => ?_⟩
    simp only [foot, Option.some.injEq] at hf
    subst hf
    simp only [objs, Option.some.injEq] at hcs
    subst hcs
    simp only [act, h1, h2] at hr
    obtain ⟨ob, v, q1, rfl⟩ := ok1_spec hr
    have := convA_obl q1; subst this
    exact ⟨trivial, fun e => absurd rfl e, rfl⟩
  · rename_i d k n h1 h2
    rw [okP_eq h]
    intro hc
    refine ⟨rfl, fun F cs r hf hcs hr => ?_⟩
    simp only [foot, AV.name, Option.some.injEq] at hf
    subst hf
    simp only [objs, Option.some.injEq] at hcs
    subst hcs
    simp only [act, h1, h2] at hr
    obtain ⟨ob, v, q1, rfl⟩ := ok1_spec hr
    have := convA_obl q1; subst this
    exact ⟨trivial, fun e => absurd rfl e, rfl⟩
  · cases h

theorem nextP_sound {x0 : Operand} {nm : Nat} {mem : List (Option PObj)} {a : Alt} (h : nextP nm mem = some a) : AltOK P (.next x0 true) [.ptr nm 0] mem a := by
  unfold nextP at h
  split at h
  · rename_i s pos hl
    cases h
    constructor
    · intro hb _
      refine ⟨rfl, fun F cs r hf hcs hr => ?_⟩
      simp only [foot, Option.some.injEq] at hf
      subst hf
      have := objs_one hcs hl
      subst this
      simp only [act, PObj.toA] at hr
      cases hr
      exact ⟨⟨by trivial, of_decide_eq_true hb, by trivial, by trivial, by trivial, trivial⟩, fun _ => rfl, rfl⟩
    · intro hb _
      refine ⟨rfl, fun F cs r hf hcs hr => ?_⟩
      simp only [foot, Option.some.injEq] at hf
      subst hf
      have := objs_one hcs hl
      subst this
      simp only [act, PObj.toA] at hr
      cases hr
      exact ⟨⟨Nat.le_of_not_lt (of_decide_eq_false hb), trivial⟩, fun _ => rfl, rfl⟩
  · cases h

theorem objs_nil {m : List (Option AObj)} {cs : List AObj} (h : objs m [] = some cs) : cs = [] := by simpa [objs] using h.symm

/-- What the executor tells of an operation without conditions. -/
theorem plain_ok {o : Op} {vals : List AV} {mem : List (Option PObj)} {chk : Bool} (h : ∀ F cs r, foot {} o vals = some F → objs (memA mem) F.rd = some cs → act P {} o vals cs = some r → chk = true → AllP r.obl ∧ F.ws = [] ∧ r.new = []) : AltOK P o vals mem (.ok chk {} [] []) := by
  intro hc
  refine ⟨rfl, fun F cs r hf hcs hr => ?_⟩
  obtain ⟨a, b, c⟩ := h F cs r hf hcs hr hc
  exact ⟨a, fun e => absurd b e, c⟩

theorem pact_sound {o : Op} {vals : List AV} {mem : List (Option PObj)} {a : Alt} (h : pact P o vals mem = some a) : AltOK P o vals mem a := by
  unfold pact at h
  split at h
  · -- move
    rw [okP_eq h]
    refine plain_ok fun F cs r hf hcs hr _ => ?_
    simp only [foot, footV, Option.some.injEq] at hf; subst hf
    simp only [act, moveA] at hr; cases hr
    exact ⟨trivial, rfl, rfl⟩
  · rw [okP_eq h]
    refine plain_ok fun F cs r hf hcs hr _ => ?_
    simp only [foot, footV, Option.some.injEq] at hf; subst hf
    simp only [act, moveA] at hr; cases hr
    exact ⟨trivial, rfl, rfl⟩
  · -- pick
    rename_i v1 v2 v3
    rw [okP_eq h]
    refine plain_ok fun F cs r hf hcs hr _ => ?_
    simp only [foot, Option.some.injEq] at hf; subst hf
    cases v1 <;> simp only [act] at hr <;> cases hr
    exact ⟨trivial, rfl, rfl⟩
  · -- alloc
    rename_i t
    simp only [Option.map_eq_some_iff] at h
    obtain ⟨z, hz, rfl⟩ := h
    intro _
    refine ⟨rfl, fun F cs r hf hcs hr => ?_⟩
    simp only [foot, Option.some.injEq] at hf; subst hf
    simp only [act, hz] at hr
    split at hr
    · cases hr; exact ⟨trivial, fun e => absurd rfl e, rfl⟩
    · cases hr
  · -- box
    rename_i t x v
    cases h
    intro _
    refine ⟨rfl, fun F cs r hf hcs hr => ?_⟩
    simp only [foot, Option.some.injEq] at hf; subst hf
    simp only [act] at hr
    split at hr
    · cases hr; exact ⟨trivial, fun e => absurd rfl e, rfl⟩
    · cases hr
  · -- build
    rename_i t ps
    rw [okP_eq h]
    refine plain_ok fun F cs r hf hcs hr hc => ?_
    have hF : F = .no := by
      cases vals with
      | nil => simp only [foot, Option.some.injEq] at hf; exact hf.symm
      | cons a vs => simp only [foot, Option.some.injEq] at hf; exact hf.symm
    subst hF
    simp only [act] at hr
    split at hr
    · rename_i ob c hb
      split at hr
      · cases hr; exact ⟨build_sound hb hc, rfl, rfl⟩
      · cases hr
    · cases hr
  · -- buildSlice
    rename_i t len ps
    split at h
    · rename_i e hu
      split at h
      · rename_i ie z hi hz
        split at h
        · rename_i ob c hf0
          split at h
          · rename_i x h1
            have hx : len = 1 ∧ c = [.int .i64 x] := by
              unfold oneI at h1
              split at h1
              · cases h1; exact ⟨rfl, rfl⟩
              · cases h1
            obtain ⟨rfl, rfl⟩ := hx
            cases h
            intro hc
            refine ⟨rfl, fun F cs r hf hcs hr => ?_⟩
            have hF : F = ⟨[], [], [frn mem]⟩ := by
              cases vals with
              | nil => simp only [foot, Option.some.injEq] at hf; exact hf.symm
              | cons a vs => simp only [foot, Option.some.injEq] at hf; exact hf.symm
            subst hF
            rw [Bool.and_eq_true, beqT] at hc
            obtain ⟨hc, hs⟩ := hc
            simp only [act, hu, hi, hz, if_true, true_or] at hr
            split at hr
            · simp only [hf0] at hr
              cases hr
              refine ⟨?_, fun e => absurd rfl e, rfl⟩
              rw [sealR_obl]
              refine allP_append.2 ⟨allP_append.2 ⟨(fillB_sound _ _ _ _ hf0 hc).1, ?_, trivial⟩, ?_, trivial⟩
              · rw [hs]; rfl
              · rw [hs]; rfl
            · cases hr
          · cases h
            intro hc
            refine ⟨rfl, fun F cs r hf hcs hr => ?_⟩
            have hF : F = ⟨[], [], [frn mem]⟩ := by
              cases vals with
              | nil => simp only [foot, Option.some.injEq] at hf; exact hf.symm
              | cons a vs => simp only [foot, Option.some.injEq] at hf; exact hf.symm
            subst hF
            simp only [act, hu, hi, hz] at hr
            split at hr
            · simp only [hf0] at hr
              cases hr
              exact ⟨(fillB_sound _ _ _ _ hf0 hc).1, fun e => absurd rfl e, rfl⟩
            · cases hr
        · cases h
      · cases h
    · cases h
  · -- makeSlice
    rename_i t x1 x2 k1 len k2 cap
    split at h
    · rename_i e hu
      split at h
      · rename_i ie z hi hz
        have fl : ∀ (k : IntKind) (n : Int), (List.replicate cap.toNat (AV.int k n).cells).flatten = ints k (List.replicate cap.toNat n) := fun k n => by
          simp [AV.cells, ints, List.flatten_replicate_singleton, List.map_replicate]
        split at h
        · cases h
          intro hc
          refine ⟨rfl, fun F cs r hf hcs hr => ?_⟩
          simp only [foot, Option.some.injEq] at hf; subst hf
          have hc := of_decide_eq_true hc
          simp only [act, hu, hi, hz, show ((0 : Nat) = 3) = False from by simp, if_false] at hr
          split at hr
          · cases hr
            refine ⟨⟨hc.1, hc.2.1, hc.2.2.1, hc.2.2.2, ?_, trivial⟩, fun e => absurd rfl e, rfl⟩
            rw [fl]; simp [PObj.toA, ints, u8s, List.map_replicate]
          · cases hr
        · cases h
          intro hc
          refine ⟨rfl, fun F cs r hf hcs hr => ?_⟩
          simp only [foot, Option.some.injEq] at hf; subst hf
          have hc := of_decide_eq_true hc
          simp only [act, hu, hi, hz, show ((0 : Nat) = 3) = False from by simp, if_false] at hr
          split at hr
          · cases hr
            refine ⟨⟨hc.1, hc.2.1, hc.2.2.1, hc.2.2.2, ?_, trivial⟩, fun e => absurd rfl e, rfl⟩
            simp [PObj.toA, AV.cells, List.flatten_replicate_singleton, List.map_replicate]
          · cases hr
        · cases h
          intro hc
          refine ⟨rfl, fun F cs r hf hcs hr => ?_⟩
          simp only [foot, Option.some.injEq] at hf; subst hf
          have hc := of_decide_eq_true hc
          simp only [act, hu, hi, hz, show ((0 : Nat) = 3) = False from by simp, if_false] at hr
          split at hr
          · cases hr
            refine ⟨⟨hc.1, hc.2.1, hc.2.2.1, hc.2.2.2, ?_, trivial⟩, fun e => absurd rfl e, rfl⟩
            rw [fl]; rfl
          · cases hr
        · split at h
          · rename_i sh r hsr
            cases h
            intro hc
            refine ⟨rfl, fun F cs r' hf hcs hr => ?_⟩
            simp only [foot, Option.some.injEq] at hf; subst hf
            simp only [Bool.and_eq_true, decide_eq_true_eq, beqT] at hc
            obtain ⟨hc, hs⟩ := hc
            have hro : rowA sh r = z.cells := by
              split at hsr
              · simp only [Option.bind_eq_some_iff, Option.map_eq_some_iff, Prod.mk.injEq] at hsr
                obtain ⟨sh', _, r', h1, rfl, rfl⟩ := hsr
                exact rowOf_sound _ _ _ h1
              · cases hsr
            simp only [act, hu, hi, hz, if_true] at hr
            split at hr
            · cases hr
              refine ⟨⟨hc.1, hc.2.1, hc.2.2.1, hc.2.2.2, ?_, trivial⟩, fun e => absurd rfl e, rfl⟩
              rw [hs]
              simp only [PObj.toA, rowsA, List.flatMap_replicate, hro]
            · cases hr
          · cases h
            intro hc
            refine ⟨rfl, fun F cs r hf hcs hr => ?_⟩
            simp only [foot, Option.some.injEq] at hf; subst hf
            have hc := of_decide_eq_true hc
            simp only [act, hu, hi, hz, show ((0 : Nat) = 3) = False from by simp, if_false] at hr
            split at hr
            · cases hr
              exact ⟨⟨hc.1, hc.2.1, hc.2.2.1, hc.2.2.2, trivial⟩, fun e => absurd rfl e, rfl⟩
            · cases hr
      · cases h
    · cases h
  · exact loadP_sound h
  · exact loadGP_sound h
  · exact loadDP_sound h
  · exact loadRP_sound h
  · exact storeP_sound h
  · exact storeRP_sound h
  · -- nilCheck
    rename_i x v
    rw [okP_eq h]
    refine plain_ok fun F cs r hf hcs hr _ => ?_
    simp only [foot, Option.some.injEq] at hf; subst hf
    cases v <;> simp only [act] at hr <;> cases hr <;> exact ⟨trivial, rfl, rfl⟩
  · -- binOp
    rename_i op t x1 x2 yt x y
    rw [okP_eq h]
    refine plain_ok fun F cs r hf hcs hr hc => ?_
    simp only [foot, Option.some.injEq] at hf; subst hf
    simp only [act] at hr
    rw [if_neg (by simp)] at hr
    split at hr
    · cases hr; exact ⟨trivial, rfl, rfl⟩
    · cases hr; exact ⟨trivial, rfl, rfl⟩
    · obtain ⟨ob, v, q1, rfl⟩ := ok1_spec hr
      exact ⟨binP_sound q1 hc, rfl, rfl⟩
  · -- unOp
    rw [okP_eq h]
    refine plain_ok fun F cs r hf hcs hr hc => ?_
    simp only [foot, Option.some.injEq] at hf; subst hf
    simp only [act] at hr
    obtain ⟨ob, v, q1, rfl⟩ := ok1_spec hr
    have := unA_obl q1; subst this
    exact ⟨trivial, rfl, rfl⟩
  · exact convP_sound h
  · -- makeInterface
    rename_i t x v
    rw [okP_eq h]
    refine plain_ok fun F cs r hf hcs hr hc => ?_
    simp only [foot, Option.some.injEq] at hf; subst hf
    simp only [act] at hr
    split at hr
    · cases hr
    · split at hr
      · cases hr; exact ⟨trivial, rfl, rfl⟩
      · cases hr
    · cases hr
  · -- makeFunc
    rename_i f x y
    rw [okP_eq h]
    refine plain_ok fun F cs r hf hcs hr hc => ?_
    have hF : F = .no := by
      cases vals with
      | nil => simp only [foot, Option.some.injEq] at hf; exact hf.symm
      | cons a vs => simp only [foot, Option.some.injEq] at hf; exact hf.symm
    subst hF
    cases f <;> simp only [act] at hr <;> try (cases hr; done)
    split at hr
    · cases hr; exact ⟨trivial, rfl, rfl⟩
    · cases hr
  · exact sliceP_sound h
  · -- fieldAddr
    rename_i t x f v
    rw [okP_eq h]
    refine plain_ok fun F cs r hf hcs hr hc => ?_
    simp only [foot, Option.some.injEq] at hf; subst hf
    cases v <;> simp only [act] at hr <;> try (cases hr; done)
    all_goals
      split at hr
      · split at hr
        · split at hr
          · cases hr; exact ⟨trivial, rfl, rfl⟩
          · cases hr
        · cases hr
      · cases hr
  · -- field
    rename_i t x f c
    split at h
    · rename_i fs hu
      split at h
      · rename_i fd hfd
        split at h
        · rename_i d hd
          rw [okP_eq h]
          refine plain_ok fun F cs r hf hcs hr hc => ?_
          simp only [foot, Option.some.injEq] at hf; subst hf
          simp only [act, hu, hfd, hd] at hr
          split at hr
          · rename_i ha
            rw [if_pos ha, bleT] at hc
            cases hr; exact ⟨⟨hc, trivial⟩, rfl, rfl⟩
          · simp only [Option.map_eq_some_iff] at hr
            obtain ⟨v, _, rfl⟩ := hr
            exact ⟨trivial, rfl, rfl⟩
        · cases h
      · cases h
    · cases h
  · -- indexAddr
    rename_i t x1 x2 x k i
    split at h
    · rename_i xa _ _ n e hu
      rw [okP_eq h]
      refine plain_ok fun F cs r hf hcs hr hc => ?_
      simp only [foot, Option.some.injEq] at hf; subst hf
      have hc := of_decide_eq_true hc
      cases xa <;> simp only [act, hu] at hr <;> try (cases hr; done)
      all_goals
        split at hr
        · cases hr; exact ⟨⟨hc.1, hc.2, trivial⟩, rfl, rfl⟩
        · cases hr
    · rename_i e nm off len cap hu
      rw [okP_eq h]
      refine plain_ok fun F cs r hf hcs hr hc => ?_
      simp only [foot, Option.some.injEq] at hf; subst hf
      have hc := of_decide_eq_true hc
      simp only [act, hu] at hr
      split at hr
      · cases hr; exact ⟨⟨hc.1, hc.2, trivial⟩, rfl, rfl⟩
      · cases hr
    · rename_i e nm len hu
      split at h
      · cases h
        intro hc
        refine ⟨rfl, fun F cs r hf hcs hr => ?_⟩
        simp only [foot, Option.some.injEq] at hf; subst hf
        have hc := of_decide_eq_true hc
        simp only [act, hu] at hr
        split at hr
        · cases hr; exact ⟨⟨hc.1, hc.2, trivial⟩, fun e => absurd rfl e, rfl⟩
        · cases hr
      · rw [okP_eq h]
        refine plain_ok fun F cs r hf hcs hr hc => ?_
        simp only [foot, Option.some.injEq] at hf; subst hf
        have hc := of_decide_eq_true hc
        simp only [act, hu] at hr
        split at hr
        · cases hr; exact ⟨⟨hc.1, hc.2, trivial⟩, rfl, rfl⟩
        · cases hr
    · rename_i e nm len hu
      split at h
      · cases h
        intro hc
        refine ⟨rfl, fun F cs r hf hcs hr => ?_⟩
        simp only [foot, Option.some.injEq] at hf; subst hf
        have hc := of_decide_eq_true hc
        simp only [act, hu] at hr
        split at hr
        · cases hr; exact ⟨⟨hc.1, hc.2, trivial⟩, fun e => absurd rfl e, rfl⟩
        · cases hr
      · cases h
        intro hc
        refine ⟨rfl, fun F cs r hf hcs hr => ?_⟩
        simp only [foot, Option.some.injEq] at hf; subst hf
        have hc := of_decide_eq_true hc
        simp only [act, hu] at hr
        split at hr
        · cases hr; exact ⟨⟨hc.1, hc.2, trivial⟩, fun e => absurd rfl e, rfl⟩
        · cases hr
      · rw [okP_eq h]
        refine plain_ok fun F cs r hf hcs hr hc => ?_
        simp only [foot, Option.some.injEq] at hf; subst hf
        have hc := of_decide_eq_true hc
        simp only [act, hu] at hr
        split at hr
        · cases hr; exact ⟨⟨hc.1, hc.2, trivial⟩, rfl, rfl⟩
        · cases hr
    · rename_i e nm w' off len hu
      rw [okP_eq h]
      refine plain_ok fun F cs r hf hcs hr hc => ?_
      simp only [foot, Option.some.injEq] at hf; subst hf
      simp only [Bool.and_eq_true, decide_eq_true_eq] at hc
      simp only [act, hu] at hr
      split at hr
      · cases hr; exact ⟨⟨hc.1.1, hc.1.2, Nat.eq_of_beq_eq_true hc.2, trivial⟩, rfl, rfl⟩
      · cases hr
    · cases h
  · -- index
    rename_i t x1 x2 x k i
    split at h
    · rename_i s hu
      cases h
      intro hc
      refine ⟨rfl, fun F cs r hf hcs hr => ?_⟩
      simp only [foot, Option.some.injEq] at hf; subst hf
      have hc := of_decide_eq_true hc
      simp only [act, hu] at hr
      cases hr
      exact ⟨⟨hc.1, strGet hc.2, trivial⟩, fun e => absurd rfl e, rfl⟩
    · rename_i n e c hu
      split at h
      · rename_i d hd
        rw [okP_eq h]
        refine plain_ok fun F cs r hf hcs hr hc => ?_
        simp only [foot, Option.some.injEq] at hf; subst hf
        simp only [Bool.and_eq_true] at hc
        obtain ⟨hc1, hc2⟩ := hc
        have hc1 := of_decide_eq_true hc1
        simp only [act, hu, hd] at hr
        split at hr
        · rename_i ha
          rw [if_pos ha, bleT] at hc2
          cases hr; exact ⟨⟨hc1.1, hc1.2, hc2, trivial⟩, rfl, rfl⟩
        · simp only [Option.map_eq_some_iff] at hr
          obtain ⟨v, _, rfl⟩ := hr
          exact ⟨⟨hc1.1, hc1.2, trivial⟩, rfl, rfl⟩
      · cases h
    · cases h
  · -- extract
    rename_i x i v
    rw [okP_eq h]
    refine plain_ok fun F cs r hf hcs hr hc => ?_
    simp only [foot, Option.some.injEq] at hf; subst hf
    cases v <;> simp only [act] at hr <;> try (cases hr; done)
    simp only [Option.map_eq_some_iff] at hr
    obtain ⟨v, _, rfl⟩ := hr
    exact ⟨trivial, rfl, rfl⟩
  · -- range
    rename_i t x s
    cases h
    intro _
    refine ⟨rfl, fun F cs r hf hcs hr => ?_⟩
    simp only [foot, Option.some.injEq] at hf; subst hf
    simp only [act] at hr
    split at hr
    · rename_i hnm
      cases hnm
      cases hr; exact ⟨trivial, fun e => absurd rfl e, rfl⟩
    · cases hr
  · exact nextP_sound h
  · -- makeMap
    rename_i t
    simp only [Option.map_eq_some_iff] at h
    obtain ⟨n, hn, rfl⟩ := h
    intro _
    refine ⟨rfl, fun F cs r hf hcs hr => ?_⟩
    simp only [foot, Option.some.injEq] at hf; subst hf
    simp only [act, hn] at hr
    cases hr; exact ⟨trivial, fun e => absurd rfl e, rfl⟩
  · -- lookup
    rw [okP_eq h]
    refine plain_ok fun F cs r hf hcs hr _ => ?_
    simp only [foot, Option.some.injEq] at hf; subst hf
    simp only [act, lookS] at hr
    split at hr
    · split at hr
      · cases hr; exact ⟨trivial, rfl, rfl⟩
      · cases hr
    · cases hr
  · -- mapUpdate
    rename_i t x1 x2 x3 nm cs'
    split at h
    · rename_i k n ks hk hl
      cases h
      intro _
      refine ⟨rfl, fun F cs r hf hcs hr => ?_⟩
      simp only [foot, Option.some.injEq] at hf; subst hf
      have := objs_one hcs hl
      subst this
      simp only [act, updS, hk, PObj.toA] at hr
      split at hr
      · rename_i heq1 heq2 heq3
        cases heq2; cases heq3
        split at hr
        · cases hr; exact ⟨trivial, fun _ => rfl, rfl⟩
        · cases hr
      · cases hr
    · cases h
  · -- calls
    rename_i c
    split at h
    · rename_i v hc
      rw [okP_eq h]
      refine plain_ok fun F cs r hf hcs hr _ => ?_
      simp only [foot, hc, Option.some.injEq] at hf; subst hf
      simp only [act, hc] at hr
      split at hr
      · rename_i e2
        cases e2
        simp only [Option.map_eq_some_iff] at hr
        obtain ⟨v, _, rfl⟩ := hr
        exact ⟨trivial, rfl, rfl⟩
      · cases hr
    · rename_i v w hc
      rw [okP_eq h]
      refine plain_ok fun F cs r hf hcs hr _ => ?_
      simp only [foot, hc, Option.some.injEq] at hf; subst hf
      simp only [act, hc, Option.map_eq_some_iff] at hr
      obtain ⟨v, _, rfl⟩ := hr
      exact ⟨trivial, rfl, rfl⟩
    · rename_i v w hc
      rw [okP_eq h]
      refine plain_ok fun F cs r hf hcs hr _ => ?_
      simp only [foot, hc, Option.some.injEq] at hf; subst hf
      simp only [act, hc, Option.map_eq_some_iff] at hr
      obtain ⟨v, _, rfl⟩ := hr
      exact ⟨trivial, rfl, rfl⟩
    · rename_i s x hc
      exact appendP_sound hc h
    · rename_i v hc
      rw [okP_eq h]
      refine plain_ok fun F cs r hf hcs hr _ => ?_
      simp only [foot, hc, Option.some.injEq] at hf; subst hf
      simp only [act, hc] at hr
      split at hr
      · rename_i e2
        cases e2
        simp only [Option.map_eq_some_iff] at hr
        obtain ⟨v, _, rfl⟩ := hr
        exact ⟨trivial, rfl, rfl⟩
      · cases hr
    · rename_i s hc
      cases h
      intro _
      refine ⟨rfl, fun F cs r hf hcs hr => ?_⟩
      simp only [foot, hc, AV.name, List.append_nil, Option.some.injEq] at hf; subst hf
      simp only [act, hc] at hr
      split at hr
      · rename_i e2
        cases e2
        split at hr
        · cases hr
          exact ⟨trivial, fun _ => objs_nameP hcs, rfl⟩
        · cases hr
      · rename_i hx e2 hn
        cases hn
        exact absurd rfl hx
      · cases hr
    · rename_i nm off len cap x hne hc
      split at h
      · rename_i te hte
        split at h
        · rename_i ie hi
          split at h
          · rename_i l e ob n d hl hw
            cases h
            intro hb
            refine ⟨rfl, fun F cs r hf hcs hr => ?_⟩
            simp only [Bool.and_eq_true, decide_eq_true_eq] at hb
            obtain ⟨b1, b2, b3⟩ := hb
            simp only [foot, hc, Option.some.injEq] at hf; subst hf
            have hcs : objs (memA mem) ([nm] ++ x.name) = some cs := hcs
            obtain ⟨a1, a2, k1, k2, rfl⟩ := objs_append _ _ _ hcs
            have := objs_one k1 hl
            subst this
            simp only [act, hc] at hr
            split at hr
            · rename_i e2 hn
              cases hn
              exact absurd rfl hne
            · rename_i e0 s x0 hx e2 hn
              cases hn
              rw [hte] at e2
              cases e2
              simp only [copyA, hi, List.singleton_append] at hr
              split at hr
              · rename_i o0 oc ob' n' cc hk hel
                simp only [PObj.toA, AObj.known, Option.some.injEq, Prod.mk.injEq] at hk
                obtain ⟨rfl, rfl⟩ := hk
                obtain ⟨n1, n2, n3⟩ := newsP_sound hw k2 hel
                simp only [News.n] at n1
                simp only [News.A] at n2
                subst n1; subst n2
                simp only [PObj.toA, AObj.setCells] at hr
                cases hr
                refine ⟨allP_append.2 ⟨n3 b1, b2, by rw [u8s_length, u8s_length]; exact b3, ?_, trivial⟩, fun _ => ?_, rfl⟩
                · rw [u8s_length]; simp [PObj.toA, u8s, List.map_take, List.map_drop]
                · simp only [List.map_cons, objs_nameP k2]; rfl
              · cases hr
            · cases hr
          · cases h
        · cases h
      · cases h
    · rename_i hc
      rw [okP_eq h]
      refine plain_ok fun F cs r hf hcs hr _ => ?_
      simp only [foot, hc, AV.name, Option.some.injEq] at hf; subst hf
      simp only [act, hc, objs_nil hcs, sliceDataA] at hr
      cases hr
      exact ⟨trivial, rfl, rfl⟩
    · rename_i nm len hc
      split at h
      · rename_i cs0 t sz hl
        cases h
        intro hb
        refine ⟨rfl, fun F cs r hf hcs hr => ?_⟩
        simp only [foot, hc, AV.name, Option.some.injEq] at hf; subst hf
        have := objs_one hcs hl
        subst this
        simp only [act, hc, sliceDataA, PObj.toA] at hr
        cases hr
        exact ⟨⟨bltT.1 hb, trivial⟩, fun e => absurd rfl e, rfl⟩
      · rename_i l t hl
        cases h
        intro hb
        refine ⟨rfl, fun F cs r hf hcs hr => ?_⟩
        simp only [foot, hc, AV.name, Option.some.injEq] at hf; subst hf
        have := objs_one hcs hl
        subst this
        simp only [act, hc, sliceDataA, PObj.toA] at hr
        cases hr
        exact ⟨⟨by rw [u8s_length]; exact of_decide_eq_true hb, trivial⟩, fun e => absurd rfl e, rfl⟩
      · rename_i l t hl
        cases h
        intro hb
        refine ⟨rfl, fun F cs r hf hcs hr => ?_⟩
        simp only [foot, hc, AV.name, Option.some.injEq] at hf; subst hf
        have := objs_one hcs hl
        subst this
        simp only [act, hc, sliceDataA, PObj.toA] at hr
        cases hr
        exact ⟨⟨by rw [u8s_length]; exact of_decide_eq_true hb, trivial⟩, fun e => absurd rfl e, rfl⟩
      · cases h
    · rename_i n hc
      rw [okP_eq h]
      refine plain_ok fun F cs r hf hcs hr hb => ?_
      simp only [foot, hc, AV.name, Option.some.injEq] at hf; subst hf
      simp only [act, hc, objs_nil hcs, unsafeStrA] at hr
      split at hr
      · rename_i e2 e3 e4
        cases e2
        cases hr
        exact ⟨⟨by simpa using hb, trivial⟩, rfl, rfl⟩
      · rename_i e2 e3 e4; cases e2
      · rename_i e2 e3 e4; cases e2
      · cases hr
    · rename_i nm n hc
      split at h
      · rename_i l t hl
        cases h
        intro hb
        refine ⟨rfl, fun F cs r hf hcs hr => ?_⟩
        simp only [foot, hc, AV.name, Option.some.injEq] at hf; subst hf
        have := objs_one hcs hl
        subst this
        simp only [Bool.and_eq_true, beq_iff_eq, Bool.not_eq_true', List.isEmpty_eq_false_iff, decide_eq_true_eq] at hb
        obtain ⟨⟨b1, b2⟩, b3⟩ := hb
        simp only [act, hc, unsafeStrA, PObj.toA] at hr
        split at hr
        · rename_i e2 e3 e4; cases e2
        · rename_i e2 e3 e4
          cases e2; cases e3
          split at hr
          · split at hr
            · cases hr
              exact ⟨⟨rfl, b1, b2, b3, trivial⟩, fun _ => rfl, rfl⟩
            · cases hr
          · cases hr
        · rename_i e2 e3 e4; cases e3
        · cases hr
      · rename_i l t hl
        cases h
        intro hb
        refine ⟨rfl, fun F cs r hf hcs hr => ?_⟩
        simp only [foot, hc, AV.name, Option.some.injEq] at hf; subst hf
        have := objs_one hcs hl
        subst this
        simp only [Bool.and_eq_true, beq_iff_eq, Bool.not_eq_true', List.isEmpty_eq_false_iff, decide_eq_true_eq] at hb
        obtain ⟨⟨b1, b2⟩, b3⟩ := hb
        simp only [act, hc, unsafeStrA, PObj.toA] at hr
        split at hr
        · rename_i e2 e3 e4; cases e2
        · rename_i e2 e3 e4; cases e3
        · rename_i e2 e3 e4
          cases e2; cases e3
          split at hr
          · split at hr
            · cases hr
              exact ⟨⟨rfl, b1, b2, b3, trivial⟩, fun _ => rfl, rfl⟩
            · cases hr
          · cases hr
        · cases hr
      · cases h
    · cases h
  · cases h

end Go.Proofs.YtphhepnldndbhaaGreatDoor.Sx

/- The evaluator, part D: names that are left behind, or told otherwise. -/
set_option linter.unusedVariables false
set_option linter.unusedSimpArgs false
namespace Go.Proofs.YtphhepnldndbhaaGreatDoor.Sx
open Go
variable {P : Program}

mutual
def AV.names : AV → List Nat
  | .ptr nm _ => [nm]
  | .slice nm _ _ _ => [nm]
  | .vec nm _ => [nm]
  | .dsl nm _ => [nm]
  | .dptr nm _ => [nm]
  | .rptr nm _ _ _ => [nm]
  | .vsl nm _ _ _ => [nm]
  | .mapp nm => [nm]
  | .agg cs => namesL cs
  | .tuple cs => namesL cs
  | .func _ as cs => namesL as ++ namesL cs
  | .iface _ v => v.names
  | _ => []
def namesL : List AV → List Nat
  | [] => []
  | v :: vs => v.names ++ namesL vs
end

def posN : List Nat → Nat → Nat
  | [], _ => 0
  | m :: r, n => if Nat.beq m n then 0 else posN r n + 1
def hasN : List Nat → Nat → Bool
  | [], _ => false
  | m :: r, n => Nat.beq m n || hasN r n
def subN (r : List Nat) : List Nat → Bool
  | [] => true
  | n :: ns => hasN r n && subN r ns
theorem posN_get : ∀ {r : List Nat} {n : Nat}, hasN r n = true → r[posN r n]? = some n
  | [], n, h => by simp [hasN] at h
  | m :: r, n, h => by
    simp only [hasN, Bool.or_eq_true] at h
    simp only [posN]
    split
    · rename_i e; rw [beqT.1 e]; rfl
    · rename_i e
      rcases h with h | h
      · exact absurd h e
      · simpa using posN_get h
theorem posN_lt {r : List Nat} {n : Nat} (h : hasN r n = true) : posN r n < r.length := (List.getElem?_eq_some_iff.1 (posN_get h)).1

mutual
def AV.unren (r : List Nat) : AV → AV
  | .ptr nm off => .ptr (posN r nm) off
  | .slice nm off l c => .slice (posN r nm) off l c
  | .vec nm l => .vec (posN r nm) l
  | .dsl nm l => .dsl (posN r nm) l
  | .dptr nm l => .dptr (posN r nm) l
  | .rptr nm w i j => .rptr (posN r nm) w i j
  | .vsl nm w i j => .vsl (posN r nm) w i j
  | .mapp nm => .mapp (posN r nm)
  | .agg cs => .agg (unrenL r cs)
  | .tuple cs => .tuple (unrenL r cs)
  | .func f as cs => .func f (unrenL r as) (unrenL r cs)
  | .iface t v => .iface t (v.unren r)
  | .bool b => .bool b
  | .int k n => .int k n
  | .str s => .str s
  | .nilptr => .nilptr
  | .nilslice => .nilslice
  | .gptr g off => .gptr g off
  | .nilfunc => .nilfunc
  | .nilmap => .nilmap
  | .niliface => .niliface
  | .bad => .bad
def unrenL (r : List Nat) : List AV → List AV
  | [] => []
  | v :: vs => v.unren r :: unrenL r vs
end

theorem subN_append {r a b : List Nat} : subN r (a ++ b) = true ↔ subN r a = true ∧ subN r b = true := by
  induction a with
  | nil => simp [subN]
  | cons n a ih => simp [subN, ih, and_assoc]
theorem subN_one {r : List Nat} {n : Nat} : subN r [n] = true ↔ hasN r n = true := by simp [subN]

theorem get_app {r x : List Nat} {i n : Nat} (h : r[i]? = some n) : (r ++ x)[i]? = some n := by
  rw [List.getElem?_append_left (List.getElem?_eq_some_iff.1 h).1]; exact h

mutual
theorem ren_unren {r x : List Nat} : ∀ (v : AV), subN r v.names = true → (v.unren r).ren (r ++ x) = v
  | .ptr nm off, h => by simp only [AV.unren, AV.ren, get_app (x := x) (posN_get (subN_one.1 h))]
  | .slice nm off l c, h => by simp only [AV.unren, AV.ren, get_app (x := x) (posN_get (subN_one.1 h))]
  | .vec nm l, h => by simp only [AV.unren, AV.ren, get_app (x := x) (posN_get (subN_one.1 h))]
  | .dsl nm l, h => by simp only [AV.unren, AV.ren, get_app (x := x) (posN_get (subN_one.1 h))]
  | .dptr nm l, h => by simp only [AV.unren, AV.ren, get_app (x := x) (posN_get (subN_one.1 h))]
  | .rptr nm w i j, h => by simp only [AV.unren, AV.ren, get_app (x := x) (posN_get (subN_one.1 h))]
  | .vsl nm w i j, h => by simp only [AV.unren, AV.ren, get_app (x := x) (posN_get (subN_one.1 h))]
  | .mapp nm, h => by simp only [AV.unren, AV.ren, get_app (x := x) (posN_get (subN_one.1 h))]
  | .agg cs, h => by simp only [AV.unren, AV.ren, renL_unren cs h]
  | .tuple cs, h => by simp only [AV.unren, AV.ren, renL_unren cs h]
  | .func f as cs, h => by
    obtain ⟨h1, h2⟩ := subN_append.1 h
    simp only [AV.unren, AV.ren, renL_unren as h1, renL_unren cs h2]
  | .iface t v, h => by simp only [AV.unren, AV.ren, ren_unren v h]
  | .bool b, _ => rfl
  | .int k n, _ => rfl
  | .str s, _ => rfl
  | .nilptr, _ => rfl
  | .nilslice, _ => rfl
  | .gptr _ _, _ => rfl
  | .nilfunc, _ => rfl
  | .nilmap, _ => rfl
  | .niliface, _ => rfl
  | .bad, _ => rfl
theorem renL_unren {r x : List Nat} : ∀ (vs : List AV), subN r (namesL vs) = true → renL (r ++ x) (unrenL r vs) = vs
  | [], _ => rfl
  | v :: vs, h => by
    obtain ⟨h1, h2⟩ := subN_append.1 h
    simp only [unrenL, renL, ren_unren v h1, renL_unren vs h2]
end

def AObj.names : AObj → List Nat
  | .cells cs _ => namesL cs
  | .vec cs _ _ => namesL cs
  | .ro _ cs => namesL cs
  | .flat _ cs => namesL cs
  | .flatR _ _ _ => []
  | .flatN _ _ => []
  | .iter _ _ => []
  | .shut cs _ _ => namesL cs
  | .mapS _ _ => []
  | .loopR _ _ _ cs _ _ _ => namesL cs
  | .dead => []
def AObj.unren (r : List Nat) : AObj → AObj
  | .cells cs t => .cells (unrenL r cs) t
  | .vec cs t sz => .vec (unrenL r cs) t sz
  | .ro off cs => .ro off (unrenL r cs)
  | .flat m cs => .flat m (unrenL r cs)
  | .flatR m sh rows => .flatR m sh rows
  | .flatN sh rows => .flatN sh rows
  | .iter s p => .iter s p
  | .shut cs t sz => .shut (unrenL r cs) t sz
  | .mapS n ks => .mapS n ks
  | .loopR up n ix cs ps asg body => .loopR up n ix (unrenL r cs) ps asg body
  | .dead => .dead
theorem AObj.ren_unren {r x : List Nat} {o : AObj} (h : subN r o.names = true) : (o.unren r).ren (r ++ x) = o := by
  cases o <;> simp only [AObj.unren, AObj.ren] <;> first | rfl | rw [renL_unren _ h]
theorem AObj.unren_kind {r : List Nat} {o : AObj} : (o.unren r).owned = o.owned ∧ (o.unren r).mine = o.mine ∧ (o.unren r).live = o.live ∧ (o.unren r).isFlat = o.isFlat := by cases o <;> exact ⟨rfl, rfl, rfl, rfl⟩

def PObj.names : PObj → List Nat
  | .raw o => o.names
  | _ => []
def PObj.unren (r : List Nat) : PObj → PObj
  | .raw o => .raw (o.unren r)
  | o => o
def PObj.ren (r : List Nat) : PObj → PObj
  | .raw o => .raw (o.ren r)
  | o => o
theorem renL_id {r : List Nat} : ∀ (l : List AV), (∀ v ∈ l, v.ren r = v) → renL r l = l
  | [], _ => rfl
  | v :: l, h => by simp only [renL]; rw [h v List.mem_cons_self, renL_id l fun u hu => h u (List.mem_cons_of_mem _ hu)]
theorem rowsA_mem {sh : List CK} {rows : List (List CV)} {v : AV} (h : v ∈ rowsA sh rows) : ∃ k c, v = cellA k c := by
  simp only [rowsA, List.mem_flatMap, rowA, List.mem_map] at h
  obtain ⟨r, _, j, _, rfl⟩ := h
  exact ⟨_, _, rfl⟩
theorem renL_rows (r : List Nat) (sh : List CK) (rows : List (List CV)) : renL r (rowsA sh rows) = rowsA sh rows := renL_id _ fun v hv => by
  obtain ⟨k, c, rfl⟩ := rowsA_mem hv
  cases k <;> rfl
theorem renL_bools (r : List Nat) (l : List Bool) : renL r (l.map AV.bool) = l.map AV.bool := renL_id _ fun v hv => by
  simp only [List.mem_map] at hv; obtain ⟨b, _, rfl⟩ := hv; rfl
theorem namesL_id : ∀ (l : List AV), (∀ v ∈ l, v.names = []) → namesL l = []
  | [], _ => rfl
  | v :: l, h => by simp only [namesL]; rw [h v List.mem_cons_self, namesL_id l fun u hu => h u (List.mem_cons_of_mem _ hu)]; rfl
theorem namesL_rows (sh : List CK) (rows : List (List CV)) : namesL (rowsA sh rows) = [] := namesL_id _ fun v hv => by
  obtain ⟨k, c, rfl⟩ := rowsA_mem hv
  cases k <;> rfl
theorem namesL_bools (l : List Bool) : namesL (l.map AV.bool) = [] := namesL_id _ fun v hv => by
  simp only [List.mem_map] at hv; obtain ⟨b, _, rfl⟩ := hv; rfl
theorem PObj.ren_toA (r : List Nat) (o : PObj) : (o.ren r).toA = o.toA.ren r := by
  cases o <;> simp [PObj.ren, PObj.toA, AObj.ren, renL_ints, renL_u8s, renL_rows, renL_bools]
theorem PObj.ren_unren {r x : List Nat} {o : PObj} (h : subN r o.names = true) : (o.unren r).toA.ren (r ++ x) = o.toA := by
  cases o with
  | raw o => exact AObj.ren_unren h
  | _ => simp [PObj.unren, PObj.toA, AObj.ren, renL_ints, renL_u8s, renL_rows, renL_bools]

/-- The names that are reached, in order. -/
def reach (mem : List (Option PObj)) : Nat → List Nat → List Nat → List Nat
  | 0, _, acc => acc
  | _ + 1, [], acc => acc
  | f + 1, n :: todo, acc =>
    if hasN acc n then reach mem f todo acc else
    match lookP mem n with
    | some o => reach mem f (todo ++ o.names) (acc ++ [n])
    | none => reach mem f todo acc

def nodupN : List Nat → Bool
  | [] => true
  | n :: ns => !hasN ns n && nodupN ns
theorem hasN_mem {r : List Nat} {n : Nat} : hasN r n = true ↔ n ∈ r := by
  induction r with
  | nil => simp [hasN]
  | cons m r ih =>
    simp only [hasN, Bool.or_eq_true, ih, beqT, List.mem_cons]
    constructor
    · rintro (h | h)
      · exact .inl h.symm
      · exact .inr h
    · rintro (h | h)
      · exact .inl h.symm
      · exact .inr h
theorem nodupN_spec : ∀ {r : List Nat}, nodupN r = true → r.Nodup
  | [], _ => List.nodup_nil
  | n :: ns, h => by
    simp only [nodupN, Bool.and_eq_true, Bool.not_eq_true'] at h
    have h1 := h.1
    exact List.nodup_cons.2 ⟨fun e => by (rw [hasN_mem.2 e] at h1; cases h1), nodupN_spec h.2⟩

/-- The objects of some names, named by their places among them; none, if one is not there, or leads elsewhere. -/
def takeObjs (mem : List (Option PObj)) (r : List Nat) : List Nat → Option (List PObj)
  | [] => some []
  | n :: ns => match lookP mem n with
    | some o => if subN r o.names then (takeObjs mem r ns).map (o.unren r :: ·) else none
    | none => none

def keepSlots (r : List Nat) (keep : Nat → Bool) : Nat → List (Option AV) → List (Option AV)
  | _, [] => []
  | i, some v :: vs => (if keep i && subN r v.names then some (v.unren r) else none) :: keepSlots r keep (i + 1) vs
  | i, none :: vs => none :: keepSlots r keep (i + 1) vs

def firstN (K : Nat) (r : List Nat) : Bool := (List.range K).all fun n => r[n]? == some n

/-- A state with the names of 'r' alone, by their places; NF names are free behind them. -/
def compact (K NF : Nat) (r : List Nat) (keep : Nat → Bool) (s : PState) : Option PState :=
  if nodupN r && firstN K r then
    match takeObjs s.mem r r with
    | some os => some ⟨keepSlots r keep 0 s.slots, os.map some ++ List.replicate NF none⟩
    | none => none
  else none

theorem keepSlots_ren {r : List Nat} {keep : Nat → Bool} : ∀ (i : Nat) (vs : List (Option AV)), ∃ ob, renSlots r vs (keepSlots r keep i vs) = some ob ∧ AllP ob
  | i, [] => ⟨[], rfl, trivial⟩
  | i, none :: vs => by
    obtain ⟨ob, h1, h2⟩ := keepSlots_ren (r := r) (keep := keep) (i + 1) vs
    exact ⟨ob, by simpa [keepSlots, renSlots] using h1, h2⟩
  | i, some v :: vs => by
    obtain ⟨ob, h1, h2⟩ := keepSlots_ren (r := r) (keep := keep) (i + 1) vs
    simp only [keepSlots]
    split
    · rename_i h
      simp only [Bool.and_eq_true] at h
      have := ren_unren (x := []) v h.2
      rw [List.append_nil] at this
      exact ⟨(v = AV.ren r (AV.unren r v)) :: ob, by simp only [renSlots, h1, Option.map_some], this.symm, h2⟩
    · exact ⟨ob, by simpa [renSlots] using h1, h2⟩

theorem sameF_refl (o : AObj) : sameF o o := by cases o <;> first | rfl | exact ⟨rfl, by simp⟩

theorem takeObjs_spec {mem : List (Option PObj)} {r : List Nat} : ∀ (ns : List Nat) (os : List PObj), takeObjs mem r ns = some os → os.length = ns.length ∧ ∀ (i n : Nat), ns[i]? = some n → ∃ o, lookP mem n = some o ∧ os[i]? = some (o.unren r) ∧ subN r o.names = true
  | [], os, h => by simp [takeObjs] at h; subst h; exact ⟨rfl, fun i n hi => by simp at hi⟩
  | m :: ns, os, h => by
    simp only [takeObjs] at h
    split at h
    · rename_i o ho
      split at h
      · rename_i hs
        simp only [Option.map_eq_some_iff] at h
        obtain ⟨os', h', rfl⟩ := h
        obtain ⟨h1, h2⟩ := takeObjs_spec ns os' h'
        refine ⟨by simp [h1], fun i n hi => ?_⟩
        cases i with
        | zero => simp at hi; subst hi; exact ⟨o, ho, rfl, hs⟩
        | succ i => simpa using h2 i n (by simpa using hi)
      · cases h
    · cases h

theorem renMem_take {mem : List (Option PObj)} {r : List Nat} {NF : Nat} : ∀ (ns : List Nat) (os : List PObj), takeObjs mem r ns = some os → ∃ ob, renMem r (memA mem) ns (memA (os.map some ++ List.replicate NF none)) = some ob ∧ AllP ob
  | [], os, h => by
    simp [takeObjs] at h; subst h
    refine ⟨[], ?_, trivial⟩
    simp [memA, renMem]
  | m :: ns, os, h => by
    simp only [takeObjs] at h
    split at h
    · rename_i o ho
      split at h
      · rename_i hs
        simp only [Option.map_eq_some_iff] at h
        obtain ⟨os', h', rfl⟩ := h
        obtain ⟨ob, h1, h2⟩ := renMem_take ns os' h'
        have hm : (memA mem)[m]? = some (some o.toA) := by
          simp only [lookP, Option.join_eq_some_iff] at ho
          rw [memA_get, ho]; rfl
        have hsame : sameF o.toA ((o.unren r).toA.ren r) := by
          have := PObj.ren_unren (x := []) hs
          rw [List.append_nil] at this
          rw [this]; exact sameF_refl _
        have e : memA (List.map some (o.unren r :: os') ++ List.replicate NF none) = some (o.unren r).toA :: memA (os'.map some ++ List.replicate NF none) := rfl
        rw [e]
        by_cases hd : (o.unren r).toA = .dead
        · rw [hd]; exact ⟨ob, by simpa [renMem] using h1, h2⟩
        · refine ⟨sameF o.toA ((o.unren r).toA.ren r) :: ob, ?_, hsame, h2⟩
          generalize (o.unren r).toA = b at hd
          cases b <;> first | exact absurd rfl hd | simp only [renMem, hm, h1, Option.map_some]
      · cases h
    · cases h

theorem compact_ren {K NF : Nat} {r : List Nat} {keep : Nat → Bool} {s t : PState} (h : compact K NF r keep s = some t) : ∃ ob, renA r K s.toA t.toA = some ob ∧ AllP ob := by
  unfold compact at h
  split at h
  · rename_i hc
    simp only [Bool.and_eq_true] at hc
    split at h
    · rename_i os ho
      cases h
      obtain ⟨o1, h1, k1⟩ := keepSlots_ren (r := r) (keep := keep) 0 s.slots
      obtain ⟨o2, h2, k2⟩ := renMem_take (NF := NF) r os ho
      refine ⟨o1 ++ o2, ?_, allP_append.2 ⟨k1, k2⟩⟩
      unfold renA
      rw [if_pos]
      · simp only [PState.toA, h1, h2]
      · simp only [Bool.and_eq_true, decide_eq_true_eq]
        refine ⟨⟨nodupN_spec hc.1, ?_⟩, hc.2⟩
        refine List.all_eq_true.2 fun n hn => ?_
        obtain ⟨i, hi⟩ := List.getElem?_of_mem hn
        obtain ⟨o, ho', _⟩ := (takeObjs_spec r os ho).2 i n hi
        simp only [lookP, Option.join_eq_some_iff] at ho'
        simp only [PState.toA, memA_get, ho', Option.map_some]
    · cases h
  · cases h

end Go.Proofs.YtphhepnldndbhaaGreatDoor.Sx
