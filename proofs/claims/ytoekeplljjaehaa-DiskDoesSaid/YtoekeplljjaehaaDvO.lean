/- Layer 26: a call of both disks, some pieces pending: the tree. -/
import Derived.Test.YtoekeplljjaehaaGr11
set_option linter.unusedVariables false
set_option linter.unusedSimpArgs false
namespace Go.Proofs.Ytoekeplljjaehaa
open Go Sx
/-- Both disks: cells told by P and R, numbers, kept, there, rows or what is left of them, K, and what is new. -/
def dV (b : Bool) (n : Nat) (P R0 R1 : AV) (l : List Int) (k t : List UInt8) (o5 : PObj) (K : List UInt8) (o7 : PObj) (new : List PObj) : List PObj :=
  [.raw (.cells [.slice 3 0 n n, .slice 4 0 n n, P] dT), .raw (.cells [R0, R1] rT), .flatI b l, .arrB k 5, .arrB t 5, o5, .vecB K 5, o7] ++ new
def d1 (b : Bool) (n m : Nat) (l : List Int) (k t K : List UInt8) (rows : List (List CV)) : List PObj := dV b n (.vec 5 m) (.vec 6 n) (.vec 7 m) l k t (.vecR shP rows pT) K (.vecR shP rows qT) []
def dWV (p : Bool) (q q2 : Bool) (n m : Nat) (l : List Int) (k t K : List UInt8) (rows : List (List CV)) (a : Int) (s : List UInt8) : List PObj :=
  dV false n (bcond p (.vec 8 (m + pl a s)) (.vec 5 m)) (.vec 6 n) (bcond q (.vec (bcond p 9 8) (bcond q2 (m + pl a s) m)) (.vec 7 m)) l k (bcond p (splice a.toNat s t) t) (bcond p (.raw .dead) (.vecR shP rows pT)) K (bcond q (.raw .dead) (.vecR shP rows qT))
    (bcond p [.vecR shP (rows ++ pr a s) pT] [] ++ bcond q [.vecR shP (bcond q2 (rows ++ pr a s) rows) qT] [])
def rwB (m : Nat) (rows : List (List CV)) : Bool := decide (rows.length = m ∧ m ≤ 1099511627776)
def wBV (n m : Nat) (l : List Int) (k t K : List UInt8) (rows : List (List CV)) (a : Int) (s : List UInt8) : Ans :=
  let r (v : Int) (p : Bool) : Ans := .chk (wOk n a s) (.chk (rwB m rows) (.br (inD n a s.length) (.br s.isEmpty (.ret (.bool (v == 0)) (dWV p true false n m l k t K rows a s)) (.ret (.bool (v == 0)) (dWV p true true n m l k t K rows a s))) (.ret (.bool (v == 260)) (dWV p false false n m l k t K rows a s))))
  .chk (lD n) (.chk (smN n k t) (.chk (rwB m rows) (.chk (i64B a) (.br (inD n a s.length) (.br s.isEmpty (r 0 false) (r 0 true)) (r 260 false)))))
/-- Behind a crash of both: what each has kept. -/
def dC (n : Nat) (l : List Int) (k K : List UInt8) (rows : List (List CV)) (k' : List UInt8) (K' : Option (List UInt8)) : List PObj :=
  match K' with
  | none => dV false n .nilslice (.vec 6 n) .nilslice l k' k' (.vecR shP rows pT) K (.vecR shP rows qT) []
  | some L => dV false n .nilslice (.vec 8 n) .nilslice l k' k' (.vecR shP rows pT) K (.vecR shP rows qT) [.vecB L 5]
/-- By no numbers. -/
def cNone (n m : Nat) (l : List Int) (k t K : List UInt8) (rows : List (List CV)) : Ans :=
  .chk (lD n) (.chk (smN n k t) (.chk (rwB m rows) (.chk (mkB m) (.ret (.bool true) (dC n l k K rows k none)))))
def cSome (n m : Nat) (l ks : List Int) (k t K : List UInt8) (rows : List (List CV)) : Ans :=
  .chk (askC ks ks.length n n n n m k t rows) (.chk (okK m (tk m) ks) (.chk (rowsB n rows) (.chk (askV n m ks.length ks K rows) (.chk (!ks.isEmpty) (.chk (okK m (tk m) ks) (.ret (.bool true) (dC n l k K rows (layAll rows ks k) (some (layAll rows ks K)))))))))
def cAny (n m len : Nat) (l : List Int) (k t K : List UInt8) (rows : List (List CV)) : Ans :=
  .chk (lZ n) (.chk (askP n m len l k t rows) (.br (okK m (tk m) l)
    (.chk (askV n m len l K rows) (.br l.isEmpty (.ret (.bool true) (dC n l k K rows (layAll rows l k) none)) (.br (okK m (tk m) l) (.ret (.bool true) (dC n l k K rows (layAll rows l k) (some (layAll rows l K)))) (.ret (.bool false) (dV false n .nilslice (.vec 6 n) (.vec 7 m) l (layAll rows l k) (layAll rows l k) (.vecR shP rows pT) K (.vecR shP rows qT) [])))))
    (.chk (askV n m len l K rows) (.br l.isEmpty (.ret (.bool false) (dV false n (.vec 5 m) (.vec 6 n) .nilslice l k t (.vecR shP rows pT) K (.vecR shP rows qT) [])) (.br (okK m (tk m) l) (.ret (.bool false) (dV false n (.vec 5 m) (.vec 8 n) .nilslice l k t (.vecR shP rows pT) K (.vecR shP rows qT) [.vecB (layAll rows l K) 5])) (.ret (.bool true) (d1 false n m l k t K rows)))))))
def xDo1 (n m len : Nat) (l : List Int) (k t K : List UInt8) (rows : List (List CV)) (kd a : Int) (s : List UInt8) : Ans :=
  .chk (slB (m200 s) s) (.br (kd.tmod 4 == 0) (wBV n m l k t K rows a (s200 s)) (.br (kd.tmod 4 == 1)
    (.chk (i64B a) (.chk (posB n) (.chk (slB (mN n (pkI a n) (s200 s)) (s200 s)) (wBV n m l k t K rows (pkI a n) (loS (mN n (pkI a n) (s200 s)) (s200 s))))))
    (.br (kd.tmod 4 == 2) (.chk (lD n) (.chk (smN n k t) (.chk (rwB m rows) (.chk (askT n m K rows) (.ret (.bool true) (dV false n .nilslice (.vec 8 n) .nilslice l t t (.vecR shP rows pT) K (.vecR shP rows qT) [.vecB (layR rows K) 5]))))))
      (.br (decide (a < 0)) (cAny n m len l k t K rows)
        (.br (decide ((m : Int) = 0)) (cNone n m l k t K rows) (.chk (askKp l len m) (.br (keepS m l).isEmpty (cNone n m l k t K rows) (cSome n m l (keepS m l) k t K rows))))))))
theorem cDo1 (b : Bool) (n m len : Nat) (l : List Int) (k t K : List UInt8) (rows : List (List CV)) (kd a : Int) (s : List UInt8) : Comes tDo nolv 12 [.ptr 0 0, .ptr 1 0, .agg [.int .u8 kd, .int .i64 a, .str s, .dsl 2 len]] (d1 b n m l k t K rows) (xDo1 n m len l k t K rows kd a s) := by unfold Comes; kernel_rfl
end Go.Proofs.Ytoekeplljjaehaa
