/- The symbolic executor, part C: the operations, on abstract values. -/
import Derived.Test.YtpdhfopfjoinnaaDoorSxB
import Derived.Laws.StructEq
import Derived.Laws.Small
import GoSem.Core.Utf8
namespace Go.Proofs.YtpdhfopfjoinnaaDoor.Sx
open Go

def AllP : List Prop → Prop
  | [] => True
  | p :: ps => p ∧ AllP ps

theorem allP_append {a b : List Prop} : AllP (a ++ b) ↔ AllP a ∧ AllP b := by
  induction a with
  | nil => simp [AllP]
  | cons p ps ih => simp [AllP, ih, and_assoc]

/-- The contract of a callee, with names of its own: 'pre' what it needs to know of memory, 'post' what is known behind it; the names behind those of 'pre' are new. -/
structure CallH where
  ren : List Nat
  args : List AV
  pre : List AObj
  res : AV
  post : List AObj

structure Hint where
  nm : List Nat := []
  val : Option AV := none
  obj : Option (List AObj) := none
  skip : Bool := false
  call : Option CallH := none
  view : Nat := 0

structure Foot where
  rd : List Nat
  ws : List Nat
  al : List Nat

def Foot.wr (F : Foot) : Bool := !F.ws.isEmpty

structure Res where
  obl : List Prop
  val : AV
  upd : List AObj
  new : List AObj

def Foot.no : Foot := ⟨[], [], []⟩

/-- A result, told otherwise where the hint says so. -/
def fin (h : Hint) (obl : List Prop) (v : AV) : Res :=
  match h.val with
  | some v' => ⟨obl ++ [v = v'], v', [], []⟩
  | none => ⟨obl, v, [], []⟩

theorem fin_spec {h : Hint} {obl : List Prop} {v : AV} (k : AllP (fin h obl v).obl) : AllP obl ∧ (fin h obl v).val = v ∧ (fin h obl v).upd = [] ∧ (fin h obl v).new = [] := by
  unfold fin at k ⊢
  split
  · rename_i v' hv
    rw [hv] at k
    have := (allP_append.1 k)
    exact ⟨this.1, this.2.1.symm, rfl, rfl⟩
  · rename_i hv; rw [hv] at k; exact ⟨k, rfl, rfl, rfl⟩

def intBin (op : BinOp) (k : IntKind) (x y : Int) : Option (List Prop × AV) :=
  match op with
  | .add => some ([], .int k (k.wrap (x + y)))
  | .sub => some ([], .int k (k.wrap (x - y)))
  | .mul => some ([], .int k (k.wrap (x * y)))
  | .quo => some ([y ≠ 0], .int k (k.wrap (x.tdiv y)))
  | .rem => some ([y ≠ 0], .int k (x.tmod y))
  | .and => some ([], .int k (k.wrap (BitVec.ofInt k.bits x &&& BitVec.ofInt k.bits y).toNat))
  | .or => some ([], .int k (k.wrap (BitVec.ofInt k.bits x ||| BitVec.ofInt k.bits y).toNat))
  | .xor => some ([], .int k (k.wrap (BitVec.ofInt k.bits x ^^^ BitVec.ofInt k.bits y).toNat))
  | .andNot => some ([], .int k (k.wrap (BitVec.ofInt k.bits x &&& ~~~ BitVec.ofInt k.bits y).toNat))
  | .eql => some ([], .bool (x == y))
  | .neq => some ([], .bool (x != y))
  | .lss => some ([], .bool (decide (x < y)))
  | .leq => some ([], .bool (decide (x ≤ y)))
  | .gtr => some ([], .bool (decide (x > y)))
  | .geq => some ([], .bool (decide (x ≥ y)))
  | _ => none

def strBin (op : BinOp) (x y : List UInt8) : Option (List Prop × AV) :=
  match op with
  | .add => some ([x.length + y.length ≤ 9223372036854775807], .str (x ++ y))
  | .eql => some ([], .bool (x == y))
  | .neq => some ([], .bool (!(x == y)))
  | .lss => some ([], .bool (Op.bytesLess x y))
  | .leq => some ([], .bool (Op.bytesLess x y || x == y))
  | .gtr => some ([], .bool (!(Op.bytesLess x y || x == y)))
  | .geq => some ([], .bool (!Op.bytesLess x y))
  | _ => none

def isAggD : TypeDesc → Bool
  | .struct _ | .array _ _ => true
  | _ => false

/-- A part of a struct or an array. -/
def partA (P : Program) (t : TypeId) (cs : List AV) (off : Nat) : Option AV :=
  match P.underlying t with
  | some d => if isAggD d then some (.agg ((cs.drop off).take (P.cellsOf t))) else cs[off]?
  | none => none

mutual
def aeq (P : Program) : Nat → TypeId → AV → AV → Option Bool
  | 0, _, _, _ => none
  | d + 1, t, x, y =>
    match P.underlying t, x, y with
    | some .bool, .bool a, .bool b => some (a == b)
    | some (.int _), .int k a, .int k' b => if k = k' then some (a == b) else none
    | some .string, .str a, .str b => some (a == b)
    | some (.struct fs), .agg xs, .agg ys => if P.stoodInHeld t then none else aeqFields P d xs ys fs.toList
    | _, _, _ => none
def aeqFields (P : Program) : Nat → List AV → List AV → List Field → Option Bool
  | 0, _, _, _ => none
  | _ + 1, _, _, [] => some true
  | d + 1, xs, ys, f :: fs =>
    if f.name ≠ "_" then
      match partA P f.type xs f.offset, partA P f.type ys f.offset with
      | some a, some b =>
        match aeq P d f.type a b, aeqFields P d xs ys fs with
        | some r, some s => some (r && s)
        | _, _ => none
      | _, _ => none
    else aeqFields P d xs ys fs
end

/-- Are two pointers the same? -/
def ptrEq : AV → AV → Option Bool
  | .nilptr, .nilptr => some true
  | .ptr _ _, .nilptr => some false
  | .nilptr, .ptr _ _ => some false
  | .ptr n o, .ptr m q => if n = m ∧ o = q then some true else none
  | _, _ => none

def binA (P : Program) (op : BinOp) (xType : TypeId) (x y : AV) : Option (List Prop × AV) :=
  match op, x, y with
  | .shl, .int k a, .int _ b => some ([0 ≤ b], .int k (k.wrap (a * 2 ^ (min b.toNat k.bits))))
  | .shr, .int k a, .int _ b => some ([0 ≤ b], .int k (a.fdiv (2 ^ (min b.toNat k.bits))))
  | _, .int k a, .int k' b => if k = k' then intBin op k a b else none
  | _, .str a, .str b => strBin op a b
  | .eql, .bool a, .bool b => match P.underlying xType with | some .bool => some ([], .bool (a == b)) | _ => none
  | .neq, .bool a, .bool b => match P.underlying xType with | some .bool => some ([], .bool (!(a == b))) | _ => none
  | .eql, .agg a, .agg b => if P.eqGuardType P.depth xType then none else (aeq P 100 xType (.agg a) (.agg b)).map fun r => ([], .bool r)
  | .neq, .agg a, .agg b => if P.eqGuardType P.depth xType then none else (aeq P 100 xType (.agg a) (.agg b)).map fun r => ([], .bool (!r))
  | .eql, x, y => match P.underlying xType with | some (.pointer te) => if (P.info? te).isSome then (ptrEq x y).map fun r => ([], .bool r) else none | _ => none
  | .neq, x, y => match P.underlying xType with | some (.pointer te) => if (P.info? te).isSome then (ptrEq x y).map fun r => ([], .bool (!r)) else none | _ => none
  | _, _, _ => none

def unA (op : UnOp) (x : AV) : Option (List Prop × AV) :=
  match op, x with
  | .neg, .int k n => some ([], .int k (k.wrap (0 - n)))
  | .xor, .int k n => some ([], .int k (k.wrap (BitVec.ofInt k.bits (if k.signed then -1 else k.max) ^^^ BitVec.ofInt k.bits n).toNat))
  | .not, .bool b => some ([], .bool (!b))
  | _, _ => none

/-- The bytes of a string, as cells. -/
def u8s (s : List UInt8) : List AV := s.map fun b => .int .u8 b.toNat

/-- The text of a rune. -/
def encL (n : Int) : List UInt8 := (Utf8.encode n).data.toList
def convA (P : Program) (src dst : TypeId) (x : AV) : Option (List Prop × AV) :=
  match P.underlying src, P.underlying dst, x with
  | some _, some (.int k), .int _ n => some ([], .int k (k.wrap n))
  | some _, some .string, .str s => some ([], .str s)
  | some _, some .string, .int _ n => some ([], .str (encL n))
  | _, _, _ => none

/-- Parts put into a row of cells. -/
def fillA (place : Nat → Option (Nat × Nat)) (cells : List AV) : List (Nat × AV) → Option (List Prop × List AV)
  | [] => some ([], cells)
  | (i, v) :: rest =>
    match place i with
    | none => none
    | some (off, size) =>
      match fillA place (cells.take off ++ v.cells ++ cells.drop (off + size)) rest with
      | some (o, c) => some ((v.cells.length = size) :: (off + size ≤ cells.length) :: o, c)
      | none => none

def zeroA (P : Program) (t : TypeId) : Option AV := ((P.info? t).bind (·.zero)).bind (ofConst 4)

def AV.notTuple : AV → Bool
  | .tuple _ => false
  | .bad => false
  | _ => true

def partsA : List (Nat × Operand) → List AV → List (Nat × AV)
  | (i, _) :: ps, v :: vs => (i, v) :: partsA ps vs
  | _, _ => []

def buildA (P : Program) (t : TypeId) (parts : List (Nat × AV)) : Option (List Prop × List AV) :=
  match P.underlying t, zeroA P t with
  | some (.struct fs), some z =>
    if z.notTuple && parts.all (fun p => p.2.notTuple) && fs.all (fun f => (P.info? f.type).isSome) then fillA (fun i => (fs[i]?).map fun f => (f.offset, P.cellsOf f.type)) z.cells parts else none
  | some (.array _ e), some z =>
    if z.notTuple && parts.all (fun p => p.2.notTuple) && (P.info? e).isSome then fillA (fun i => some (i * P.cellsOf e, P.cellsOf e)) z.cells parts else none
  | _, _ => none

/-- A value read of cells that are known. -/
def loadA (P : Program) (h : Hint) (t : TypeId) (off : Nat) (o : AObj) : Option Res :=
  match o.known, P.underlying t with
  | some (o0, cs), some d =>
    if isAggD d then
      match h.val with
      | some (.agg l) => some ⟨[o0 ≤ off, off - o0 + P.cellsOf t ≤ cs.length, (cs.drop (off - o0)).take (P.cellsOf t) = l], .agg l, [o], []⟩
      | some _ => none
      | none => some ⟨[o0 ≤ off, off - o0 + P.cellsOf t ≤ cs.length], .agg ((cs.drop (off - o0)).take (P.cellsOf t)), [o], []⟩
    else
      match h.val with
      | some v => some ⟨[o0 ≤ off, cs[off - o0]? = some v], v, [o], []⟩
      | none => match cs[off - o0]? with
        | some v => some ⟨[o0 ≤ off], v, [o], []⟩
        | none => none
  | _, _ => none

/-- The cells of a slice, from its beginning on. -/
def AObj.knownD : AObj → Option (List AV)
  | .flat _ cs => some cs
  | .vec cs _ _ => some cs
  | _ => none
/-- Out of a slice. -/
def loadD (P : Program) (h : Hint) (t : TypeId) (off : Nat) (o : AObj) (cs : List AV) : Option Res :=
  match P.underlying t, h.val with
  | some d, some v =>
    if isAggD d then
      match v with
      | .agg l => some ⟨[off + P.cellsOf t ≤ cs.length, (cs.drop off).take (P.cellsOf t) = l], .agg l, [o], []⟩
      | _ => none
    else some ⟨[cs[off]? = some v], v, [o], []⟩
  | _, _ => none

def AObj.setCells (cs : List AV) : AObj → Option AObj
  | .cells _ t => some (.cells cs t)
  | .vec _ t sz => some (.vec cs t sz)
  | _ => none

def storeA (P : Program) (h : Hint) (t : TypeId) (off : Nat) (v : AV) (o : AObj) : Option Res :=
  if !v.notTuple || (P.info? t).isNone then none else
  match o.known with
  | some (_, cs) =>
    let n := P.cellsOf t
    match h.obj with
    | some [o'] =>
      match o.setCells (cs.take off ++ v.cells ++ cs.drop (off + n)) with
      | some o1 => some ⟨[v.cells.length = n, off + n ≤ cs.length, o1 = o'], .tuple [], [o'], []⟩
      | none => none
    | _ =>
      match o.setCells (cs.take off ++ v.cells ++ cs.drop (off + n)) with
      | some o1 => some ⟨[v.cells.length = n, off + n ≤ cs.length], .tuple [], [o1], []⟩
      | none => none
  | none => none

/-- A new block. -/
def newA (h : Hint) (obl : List Prop) (v : AV) (o : AObj) : Res :=
  match h.obj with
  | some [o'] => ⟨obl ++ [o = o'], v, [], [o']⟩
  | _ => ⟨obl, v, [], [o]⟩

end Go.Proofs.YtpdhfopfjoinnaaDoor.Sx
