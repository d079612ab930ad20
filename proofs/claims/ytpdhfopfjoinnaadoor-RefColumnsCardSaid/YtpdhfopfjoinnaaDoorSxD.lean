/- The symbolic executor, part D: what each operation does, by its footprint and its act. -/
import Derived.Test.YtpdhfopfjoinnaaDoorSxC
import GoSem.Core.Utf8
namespace Go.Proofs.YtpdhfopfjoinnaaDoor.Sx
open Go

/-- The names that a value bears at its head. -/
def AV.name : AV → List Nat
  | .ptr nm _ => [nm]
  | .slice nm _ _ _ => [nm]
  | .vec nm _ => [nm]
  | .dsl nm _ => [nm]
  | .dptr nm _ => [nm]
  | _ => []

def AV.isDsl : AV → Bool
  | .dsl _ _ => true
  | _ => false
def AV.isVec : AV → Bool
  | .vec _ _ => true
  | _ => false
def isIntD : TypeDesc → Bool
  | .int _ => true
  | _ => false

/-- A value that is moved may be told otherwise. View 1: a nil slice, as one that is never written (a name of its own); view 2: a slice that grows, as one that is never written any more. -/
def footV (h : Hint) (v : AV) : Foot :=
  match h.view, v with
  | 1, _ => ⟨[], [], h.nm⟩
  | 2, .vec nm _ => ⟨[nm], [nm], []⟩
  | _, _ => .no
def moveA (h : Hint) (v : AV) (cs : List AObj) : Option Res :=
  match h.view with
  | 0 => some (fin h [] v)
  | 1 => match v, h.nm with
    | .nilslice, [k] => some ⟨[], .dsl k 0, [], [.flat true []]⟩
    | _, _ => none
  | 2 => match v, cs with
    | .vec nm len, [.vec c _ _] => some ⟨[], .dsl nm len, [.flat true c], []⟩
    | _, _ => none
  | _ => none

/-- Which blocks an operation reads, whether it writes them, which it makes. -/
def foot (h : Hint) (op : Op) (vals : List AV) : Option Foot :=
  match op, vals with
  | .alloc _, [] => some ⟨[], [], h.nm⟩
  | .box _ _, [_] => some ⟨[], [], h.nm⟩
  | .buildSlice _ _ _, _ => some ⟨[], [], h.nm⟩
  | .makeSlice _ _ _, [_, _] => some ⟨[], [], h.nm⟩
  | .load _ _, [.ptr nm _] => some ⟨[nm], [], []⟩
  | .load _ _, [.dptr nm _] => some ⟨[nm], [], []⟩
  | .store _ _ _, [.ptr nm _, _] => some ⟨[nm], [nm], []⟩
  | .slice _ _ _ _ _, .vec nm _ :: _ => some ⟨[nm], [], []⟩
  | .range _ _, [_] => some ⟨[], [], h.nm⟩
  | .move _, [v] => some (footV h v)
  | .assign _, [v] => some (footV h v)
  | .next _ _, [.ptr nm _] => some ⟨[nm], [nm], []⟩
  | .convert _ _ _, [.str _] => some ⟨[], [], h.nm⟩
  | .convert _ _ _, [v] => some ⟨v.name, [], []⟩
  | .call c, vals =>
    match c.callee, vals with
    | .builtin .append, [s, x] => some ⟨s.name ++ x.name, if s.isVec then s.name else [], h.nm⟩
    | .builtin .clear, [x] => some ⟨x.name, x.name, []⟩
    | .builtin .unsafeSliceData, [x] => some ⟨x.name, [], []⟩
    | .builtin .unsafeString, [x, _] => some ⟨x.name, x.name, []⟩
    | .builtin .copy, [s, x] => some ⟨s.name ++ x.name, s.name, []⟩
    | .builtin _, _ => some .no
    | .value _, _ =>
      match h.call with
      | some k => some ⟨k.ren.take k.pre.length, ((k.ren.zip k.pre).filter fun p => p.2.owned).map (·.1), k.ren.drop k.pre.length⟩
      | none => none
    | _, _ => none
  | _, _ => some .no

/-- Bounds of a slice expression: low, high, max as they are told. -/
def boundA (d : Nat) : Option Operand → List AV → Option (List Prop × Nat × List AV)
  | none, vs => some ([], d, vs)
  | some _, .int _ i :: vs => some ([0 ≤ i], i.toNat, vs)
  | some _, _ => none

def boundsA (len cap : Nat) (lo hi mx : Option Operand) (vs : List AV) : Option (List Prop × Nat × Nat × Nat) :=
  match boundA 0 lo vs with
  | some (o1, l, vs) =>
    match boundA len hi vs with
    | some (o2, h, vs) =>
      match boundA cap mx vs with
      | some (o3, m, []) => some (o1 ++ o2 ++ o3 ++ [l ≤ h, h ≤ m, m ≤ cap], l, h, m)
      | _ => none
    | none => none
  | none => none

def bytesA (P : Program) (t : TypeId) : Nat := P.bytesOf t

/-- The cells that a slice or a string holds. -/
def elemsA (sz : Nat) (x : AV) (cs : List AObj) : Option (List Prop × Nat × List AV) :=
  match x, cs with
  | .nilslice, [] => some ([], 0, [])
  | .str s, [] => some ([sz = 1], s.length, u8s s)
  | .slice _ off len _, [o] =>
    match o.known with
    | some (o0, c) => some ([o0 ≤ off, off - o0 + len * sz ≤ c.length], len, (c.drop (off - o0)).take (len * sz))
    | none => none
  | .vec _ len, [o] =>
    match o.known with
    | some (o0, c) => some ([o0 = 0, len * sz ≤ c.length], len, c.take (len * sz))
    | none => none
  | .dsl _ len, [o] =>
    match o.knownD with
    | some c => some ([len * sz ≤ c.length], len, c.take (len * sz))
    | none => none
  | _, _ => none

def grow (h : Hint) (obl : List Prop) (v : AV) (upd : List AObj) (o : AObj) : Res :=
  match h.obj with
  | some [o'] => ⟨obl ++ [o = o'], v, upd, [o']⟩
  | _ => ⟨obl, v, upd, [o]⟩

/-- Two values of a type are the same, or not. -/
def EqR (P : Program) (t : TypeId) (x y : AV) (r : Bool) : Prop := ∀ (E : Env) (w : World) (a b : Value), den E x = some a → den E y = some b → (Op.equalIn 10000 t a b).run P w = .ok r w
def eqA (P : Program) (h : Hint) (op : BinOp) (t : TypeId) (x y : AV) : Option Res :=
  if P.eqGuardType P.depth t then none else
  match op, x, y, h.val with
  | .eql, .agg a, .agg b, some (.bool r) => some ⟨[EqR P t (.agg a) (.agg b) r], .bool r, [], []⟩
  | .neq, .agg a, .agg b, some (.bool r) => some ⟨[EqR P t (.agg a) (.agg b) r], .bool (!r), [], []⟩
  | _, _, _, _ => none

/-- Is an operand written out? -/
def isC : Operand → Bool
  | .const _ => true
  | _ => false
/-- Is one of two values of an interface, a slice or a function type nil, the other too? -/
def nilEq (P : Program) (t : TypeId) (c : Bool) (x y : AV) : Option Bool :=
  match P.underlying t, x, y with
  | some (.interface _), .niliface, .niliface => if c then some true else none
  | some (.interface _), .niliface, .iface _ _ => some false
  | some (.interface _), .iface _ _, .niliface => some false
  | some (.slice _), .nilslice, .nilslice => some true
  | some (.slice _), .vec _ _, .nilslice => some false
  | some (.slice _), .slice _ _ _ _, .nilslice => some false
  | some (.func _ _ _), .nilfunc, .nilfunc => some true
  | some (.func _ _ _), .func _ _ _, .nilfunc => some false
  | _, _, _ => none

/-- Cells written into an object's, from a place on. -/
def overA (h : Hint) (ob : List Prop) (off : Nat) (vc : List AV) (v : AV) (o : AObj) : Option Res :=
  match o.known with
  | some (_, cs) =>
    match o.setCells (cs.take off ++ vc ++ cs.drop (off + vc.length)) with
    | some o1 =>
      match h.obj with
      | some [o'] => some ⟨ob ++ [off + vc.length ≤ cs.length, o1 = o'], v, [o'], []⟩
      | _ => some ⟨ob ++ [off + vc.length ≤ cs.length], v, [o1], []⟩
    | none => none
  | none => none

/-- The data of a slice that grows, and a string over its bytes, which may not be written any more. -/
def sliceDataA (vs : List AV) (cs : List AObj) : Option Res :=
  match vs, cs with
  | [.nilslice], [] => some ⟨[], .nilptr, [], []⟩
  | [.vec nm _], [.vec c t sz] => some ⟨[0 < c.length], .ptr nm 0, [.vec c t sz], []⟩
  | _, _ => none
def unsafeStrA (P : Program) (h : Hint) (c : Call) (vs : List AV) (cs : List AObj) : Option Res :=
  match vs, cs, c.argTypes.toList with
  | [.nilptr, .int .i64 n], [], [_, _] => some ⟨[n = 0], .str [], [], []⟩
  | [.ptr _ 0, .int .i64 n], [.vec cs t _], [pt, _] =>
    match P.underlying pt with
    | some (.pointer e) =>
      if e = t ∧ P.cellsOf t = 1 then
        match h.val with
        | some (.str s) => some ⟨[cs = u8s s, n = s.length, s ≠ [], s.length < 9223372036854775808], .str s, [.dead], []⟩
        | _ => none
      else none
    | _ => none
  | _, _, _ => none

/-- A slice's elements made zero. -/
def clearA (P : Program) (h : Hint) (c : Call) (x : AV) (cs : List AObj) : Option Res :=
  match (c.argTypes[0]?).bind P.underlying with
  | some (.slice e) =>
    match zeroA P e with
    | some z =>
      if !z.notTuple then none else
      match x, cs with
      | .nilslice, [] => some ⟨[], .tuple [], [], []⟩
      | .slice _ off len _, [o] => overA h [] off (List.replicate len z.cells).flatten (.tuple []) o
      | .vec _ len, [o] => overA h [] 0 (List.replicate len z.cells).flatten (.tuple []) o
      | _, _ => none
    | none => none
  | _ => none

/-- What grows: nothing yet, or a 'vec' of just that length, or a slice that has no room. -/
def appendA (P : Program) (h : Hint) (c : Call) (s x : AV) (cs : List AObj) : Option Res :=
  match (c.argTypes[0]?).bind P.underlying, (c.argTypes[1]?).bind P.underlying, h.nm with
  | some (.slice e), some tx, [k] =>
    if isIntD tx then none else
    match P.info? e, zeroA P e with
    | some ie, some z =>
      if !(z.notTuple && z.cells.length == ie.size && 0 < ie.size) then none else
      match s, cs with
      | .nilslice, cx =>
        match elemsA ie.size x cx with
        | some (ob, n, new) => some (grow h (ob ++ [0 < n, 2 * n * ie.bytes ≤ 281474976710656, 2 * n < 9223372036854775808]) (.vec k n) cx (.vec new e ie.size))
        | none => none
      | .vec _ len, .vec old te sz :: cx => if te != e then none else
        if sz == ie.size then
          match elemsA ie.size x cx with
          | some (ob, n, new) => some (grow h (ob ++ [old.length = len * ie.size, 2 * (len + n) * ie.bytes ≤ 281474976710656, 2 * (len + n) < 9223372036854775808]) (.vec k (len + n)) (.dead :: cx) (.vec (old ++ new) te ie.size))
          | none => none
        else none
      | .slice _ off len cap, o :: cx =>
        match o.known, elemsA ie.size x cx with
        | some (o0, oc), some (ob, n, new) => some (grow h (ob ++ [o0 ≤ off, off - o0 + len * ie.size ≤ oc.length, len = cap, 0 < n, 2 * (len + n) * ie.bytes ≤ 281474976710656, 2 * (len + n) < 9223372036854775808]) (.vec k (len + n)) (o :: cx) (.vec ((oc.drop (off - o0)).take (len * ie.size) ++ new) e ie.size))
        | _, _ => none
      | _, _ => none
    | _, _ => none
  | some (.slice e), some tx, [] =>
    if isIntD tx then none else
    match P.info? e, s with
    | some ie, .nilslice =>
      match elemsA ie.size x cs with
      | some (ob, n, _) => some ⟨ob ++ [n = 0], .nilslice, cs, []⟩
      | none => none
    | _, _ => none
  | _, _, _ => none

/-- View 4: what grew is never written any more. -/
def sealR (h : Hint) (r : Res) : Res :=
  if h.view = 4 then
    match r.val, r.new with
    | .vec k n, [.vec c _ _] => ⟨r.obl, .dsl k n, r.upd, [.flat true c]⟩
    | _, _ => r
  else r

def lenA (P : Program) (t : TypeId) (x : AV) : Option AV :=
  match P.underlying t, x with
  | some .string, .str s => some (.int .i64 s.length)
  | some (.array n _), _ => some (.int .i64 n)
  | some (.slice _), .slice _ _ n _ => some (.int .i64 n)
  | some (.slice _), .vec _ n => some (.int .i64 n)
  | some (.slice _), .nilslice => some (.int .i64 0)
  | some (.slice _), .dsl _ n => some (.int .i64 n)
  | _, _ => none

/-- The capacity, where it is told. -/
def capA (P : Program) (t : TypeId) (x : AV) : Option AV :=
  match P.underlying t, x with
  | some (.slice _), .slice _ _ _ n => some (.int .i64 n)
  | some (.slice _), .nilslice => some (.int .i64 0)
  | _, _ => none
def AV.isSlice : AV → Bool
  | .nilslice => true
  | .slice _ _ _ _ => true
  | .vec _ _ => true
  | _ => false

def minA (x y : AV) : Option AV :=
  match x, y with
  | .int k x, .int _ y => some (.int k (if y < x then y else x))
  | _, _ => none
def maxA (x y : AV) : Option AV :=
  match x, y with
  | .int k x, .int _ y => some (.int k (if y > x then y else x))
  | _, _ => none

def ok1 (h : Hint) (r : Option (List Prop × AV)) : Option Res := r.map fun p => fin h p.1 p.2

def sliceA (P : Program) (h : Hint) (t : TypeId) (lo hi mx : Option Operand) (x : AV) (vs : List AV) (cs : List AObj) : Option Res :=
  match P.underlying t, x, cs with
  | some (.array n e), .ptr nm off, [] => if (P.info? e).isNone then none else
    match boundsA n n lo hi mx vs with
    | some (ob, l, u, m) => some (fin h ob (.slice nm (if m = l then off else off + l * P.cellsOf e) (u - l) (m - l)))
    | none => none
  | some .string, .str s, [] =>
    match boundsA s.length s.length lo hi mx vs with
    | some (ob, l, u, _) => if mx.isNone then some (fin h ob (.str ((s.drop l).take (u - l)))) else none
    | none => none
  | some (.slice e), .slice nm off len cap, [] => if (P.info? e).isNone then none else
    match boundsA len cap lo hi mx vs with
    | some (ob, l, u, m) => some (fin h ob (.slice nm (if m = l then off else off + l * P.cellsOf e) (u - l) (m - l)))
    | none => none
  | some (.slice e), .vec nm len, [o] => if (P.info? e).isNone then none else
    match lo, mx, o with
    | none, none, .vec c _ sz => if sz != P.cellsOf e then none else
      match boundA len hi vs with
      | some (ob, u, []) =>
        match h.val with
        | some v' => some ⟨ob ++ [0 < P.cellsOf e, u * P.cellsOf e ≤ c.length, AV.vec nm u = v'], v', [o], []⟩
        | none => some ⟨ob ++ [0 < P.cellsOf e, u * P.cellsOf e ≤ c.length], .vec nm u, [o], []⟩
      | _ => none
    | _, _, _ => none
  | some (.slice e), .dsl nm len, [] => if (P.info? e).isNone then none else
    match lo, mx with
    | none, none =>
      match boundA len hi vs with
      | some (ob, u, []) => some (fin h (ob ++ [u ≤ len]) (.dsl nm u))
      | _ => none
    | _, _ => none
  | some (.slice e), .nilslice, [] => if (P.info? e).isNone then none else
    match boundsA 0 0 lo hi mx vs with
    | some (ob, _, _, _) => some (fin h ob .nilslice)
    | none => none
  | _, _, _ => none

def act (P : Program) (h : Hint) (o : Op) (vals : List AV) (cs : List AObj) : Option Res :=
  match o, vals with
  | .move _, [v] => moveA h v cs
  | .assign _, [v] => moveA h v cs
  | .pick _ _ _, [.bool c, a, b] => some (fin h [] (if c then a else b))
  | .alloc t, [] => match zeroA P t, h.nm with
    | some z, [k] => if z.notTuple then some (newA h [] (.ptr k 0) (.cells z.cells t)) else none
    | _, _ => none
  | .box t _, [v] => match h.nm with
    | [k] => if v.notTuple then some (newA h [] (.ptr k 0) (.cells v.cells t)) else none
    | _ => none
  | .build t ps, vs => match buildA P t (partsA ps.toList vs) with
    | some (ob, c) => if ps.size == vs.length then some (fin h ob (.agg c)) else none
    | none => none
  | .buildSlice t len ps, vs => match P.underlying t, h.nm with
    | some (.slice e), [k] => match P.info? e, zeroA P e with
      | some ie, some z =>
        if ps.size == vs.length && 0 < len && 0 < ie.size && len * ie.size ≤ 16777216 && (partsA ps.toList vs).all (fun p => p.2.notTuple) && z.cells.length == ie.size && z.notTuple then
          match fillA (fun i => some (i * ie.size, ie.size)) (List.replicate len z.cells).flatten (partsA ps.toList vs) with
          | some (ob, c) => if h.view = 3 ∨ h.view = 4 then some (sealR h (newA h (ob ++ [c.length = len * ie.size]) (.vec k len) (.vec c e ie.size))) else some (newA h ob (.slice k 0 len len) (.cells c e))
          | none => none
        else none
      | _, _ => none
    | _, _ => none
  | .makeSlice t _ _, [.int _ len, .int _ cap] => match P.underlying t, h.nm with
    | some (.slice e), [k] => match P.info? e, zeroA P e with
      | some ie, some z =>
        if 0 < ie.size && z.cells.length == ie.size && z.notTuple then
          some (newA h [0 ≤ len, len ≤ cap, cap * ie.bytes ≤ 281474976710656, cap < 9223372036854775808] (.slice k 0 len.toNat cap.toNat) (.cells (List.replicate cap.toNat z.cells).flatten e))
        else none
      | _, _ => none
    | _, _ => none
  | .load t _, [.ptr _ off] => match cs with
    | [o] => loadA P h t off o
    | _ => none
  | .load t _, [.dptr _ off] => match cs with
    | [o] => match o.knownD with
      | some c => loadD P h t off o c
      | none => none
    | _ => none
  | .load t _, [.gptr g off] => match gtab g, cs with
    | some l, [] => match loadA P h t off (.ro 0 (gcells l)) with
      | some r => some ⟨r.obl, r.val, [], []⟩
      | none => none
    | _, _ => none
  | .store t _ _, [.ptr _ off, v] => match cs with
    | [o] => storeA P h t off v o
    | _ => none
  | .nilCheck _, [.ptr nm off] => some (fin h [] (.ptr nm off))
  | .nilCheck _, [.gptr nm off] => some (fin h [] (.gptr nm off))
  | .nilCheck _, [.func f a c] => some (fin h [] (.func f a c))
  | .binOp op t p q _, [x, y] => if h.nm = [0] then eqA P h op t x y else
    match nilEq P t (isC p || isC q) x y, op with
    | some r, .eql => some (fin h [] (.bool r))
    | some r, .neq => some (fin h [] (.bool (!r)))
    | _, _ => ok1 h (binA P op t x y)
  | .unOp op _ _, [x] => ok1 h (unA op x)
  | .convert src dst _, [x] =>
    match P.underlying src, P.underlying dst, x, cs, h.nm with
    | some _, some (.slice e), .str s, [], [k] =>
      match P.underlying e with
      | some (.int .u8) => some (newA h [] (.vec k s.length) (.vec (u8s s) e 1))
      | _ => none
    | some (.slice e), some .string, .nilslice, [], [] =>
      match P.underlying e with
      | some (.int .u8) => some (fin h [] (.str []))
      | _ => none
    | some (.slice e), some .string, x, [o], [] => if x.isDsl then none else
      match P.underlying e, elemsA 1 x [o], h.val with
      | some (.int .u8), some (ob, _, c), some (.str s) => some ⟨ob ++ [c = u8s s], .str s, [o], []⟩
      | _, _, _ => none
    | some (.pointer t), some .unsafePointer, .ptr nm off, [.cells c ty], [] =>
      match P.info? t with
      | some j => if j.size ≠ 0 then some ⟨[off < c.length], .ptr nm off, [.cells c ty], []⟩ else none
      | none => none
    | some .unsafePointer, some (.pointer u), .ptr nm off, [.cells c ty], [] =>
      match P.info? u with
      | some _ => some ⟨[liesAt P P.depth ty (c.length / P.cellsOf ty) off u 1 = true], .ptr nm off, [.cells c ty], []⟩
      | none => none
    | _, _, _, [], [] => ok1 h (convA P src dst x)
    | _, _, _, _, _ => none
  | .makeInterface t _, [v] => match P.underlying t with
    | some (.interface _) => none
    | some _ => if v.notTuple then some (fin h [] (.iface t v)) else none
    | none => none
  | .makeFunc (.func f) a c, vs => if a.size + c.size == vs.length then some (fin h [] (.func f (vs.take a.size) (vs.drop a.size))) else none
  | .slice t _ lo hi mx, x :: vs => if mx.isSome && hi.isNone then none else sliceA P h t lo hi mx x vs cs
  | .fieldAddr t _ f, [.ptr nm off] => match P.underlying t with
    | some (.struct fs) => match fs[f]? with
      | some fd => if (P.info? fd.type).isSome && P.cellsOf fd.type ≠ 0 then some (fin h [] (.ptr nm (off + fd.offset))) else none
      | none => none
    | _ => none
  | .fieldAddr t _ f, [.dptr nm off] => match P.underlying t with
    | some (.struct fs) => match fs[f]? with
      | some fd => if (P.info? fd.type).isSome && P.cellsOf fd.type ≠ 0 then some (fin h [] (.dptr nm (off + fd.offset))) else none
      | none => none
    | _ => none
  | .fieldAddr t _ f, [.gptr nm off] => match P.underlying t with
    | some (.struct fs) => match fs[f]? with
      | some fd => if (P.info? fd.type).isSome && P.cellsOf fd.type ≠ 0 then some (fin h [] (.gptr nm (off + fd.offset))) else none
      | none => none
    | _ => none
  | .field t _ f, [.agg c] => match P.underlying t with
    | some (.struct fs) => match fs[f]? with
      | some fd =>
        match P.underlying fd.type with
        | some d =>
          if isAggD d then some (fin h [fd.offset + P.cellsOf fd.type ≤ c.length] (.agg ((c.drop fd.offset).take (P.cellsOf fd.type))))
          else match h.val with
            | some v => some ⟨[c[fd.offset]? = some v], v, [], []⟩
            | none => (c[fd.offset]?).map fun v => ⟨[], v, [], []⟩
        | none => none
      | none => none
    | _ => none
  | .indexAddr t _ _, [x, .int _ i] => match P.underlying t, x with
    | some (.array n e), .ptr nm off => if (P.info? e).isSome then some (fin h [0 ≤ i, i < n] (.ptr nm (off + i.toNat * P.cellsOf e))) else none
    | some (.array n e), .gptr nm off => if (P.info? e).isSome then some (fin h [0 ≤ i, i < n] (.gptr nm (off + i.toNat * P.cellsOf e))) else none
    | some (.slice e), .slice nm off len _ => if (P.info? e).isSome then some (fin h [0 ≤ i, i < len] (.ptr nm (off + i.toNat * P.cellsOf e))) else none
    | some (.slice e), .vec nm len => if (P.info? e).isSome then some (fin h [0 ≤ i, i < len] (.ptr nm (i.toNat * P.cellsOf e))) else none
    | some (.slice e), .dsl nm len => if (P.info? e).isSome then some (fin h [0 ≤ i, i < len] (.dptr nm (i.toNat * P.cellsOf e))) else none
    | _, _ => none
  | .index t _ _, [x, .int _ i] => match P.underlying t, x with
    | some .string, .str s => match h.val with
      | some (.int .u8 b) => some ⟨[0 ≤ i, (s[i.toNat]?).map (fun c => (c.toNat : Int)) = some b], .int .u8 b, [], []⟩
      | some _ => none
      | none => (s[i.toNat]?).map fun c => ⟨[0 ≤ i], .int .u8 c.toNat, [], []⟩
    | some (.array n e), .agg c => match P.underlying e with
      | some d => if isAggD d then some (fin h [0 ≤ i, i < n, i.toNat * P.cellsOf e + P.cellsOf e ≤ c.length] (.agg ((c.drop (i.toNat * P.cellsOf e)).take (P.cellsOf e))))
        else match h.val with
          | some v => some ⟨[0 ≤ i, i < n, c[i.toNat * P.cellsOf e]? = some v], v, [], []⟩
          | none => (c[i.toNat * P.cellsOf e]?).map fun v => ⟨[0 ≤ i, i < n], v, [], []⟩
      | none => none
    | _, _ => none
  | .extract _ i, [.tuple vs] => (vs[i]?).map fun v => fin h [] v
  | .range t _, [.str s] => match P.underlying t, h.nm with
    | some .string, [k] => some (newA h [] (.ptr k 0) (.iter s 0))
    | _, _ => none
  | .next _ true, [.ptr _ 0] => match cs, h.val with
    | [.iter s pos], some (.tuple [.bool true, .int .i64 p, .int .i32 c]) =>
      match h.obj with
      | some [.iter s' pos'] => some ⟨[s = s', pos < s.length, (pos : Int) = p, ((Utf8.decode ⟨s.toArray⟩ pos).1 : Int) = c, pos + (Utf8.decode ⟨s.toArray⟩ pos).2 = pos'], .tuple [.bool true, .int .i64 p, .int .i32 c], [.iter s' pos'], []⟩
      | _ => none
    | [.iter s pos], some (.tuple [.bool false]) => some ⟨[s.length ≤ pos], .tuple [.bool false], [.iter s pos], []⟩
    | _, _ => none
  | .call c, vs =>
    match c.callee with
    | .builtin .len => match c.argTypes[0]?, vs with
      | some t, [x] => (lenA P t x).map fun v => fin h [] v
      | _, _ => none
    | .builtin .min => match vs with
      | [x, y] => (minA x y).map fun v => fin h [] v
      | _ => none
    | .builtin .max => match vs with
      | [x, y] => (maxA x y).map fun v => fin h [] v
      | _ => none
    | .builtin .append => match vs with
      | [s, x] => (appendA P h c s x cs).map (sealR h)
      | _ => none
    | .builtin .clear => match vs with
      | [x] => clearA P h c x cs
      | _ => none
    | .builtin .unsafeSliceData => sliceDataA vs cs
    | .builtin .cap => match c.argTypes[0]?, vs with
      | some t, [x] => (capA P t x).map fun v => fin h [] v
      | _, _ => none
    | .builtin .copy => match (c.argTypes[0]?).bind P.underlying, vs with
      | some (.slice e), [s, .nilslice] => if (P.info? e).isSome && s.isSlice then some ⟨[], .int .i64 0, cs, []⟩ else none
      | _, _ => none
    | .builtin .unsafeString => unsafeStrA P h c vs cs
    | _ => none
  | _, _ => none

end Go.Proofs.YtpdhfopfjoinnaaDoor.Sx
