/- Layer 26: a call of both disks, nothing pending: what comes of it. -/
import Derived.Test.YtoekeplljjaehaaDvO
import Derived.Test.YtoekeplljjaehaaGr07
import Derived.Test.YtoekeplljjaehaaGr08
set_option linter.unusedVariables false
set_option linter.unusedSimpArgs false
namespace Go.Proofs.Ytoekeplljjaehaa
open Go Sx
/-- Where a call writes, and what. -/
def aW (n : Nat) (kd a : Int) : Int := bcond (kd.tmod 4 == 0) a (pkI a n)
def sW (n : Nat) (kd a : Int) (s : List UInt8) : List UInt8 := bcond (kd.tmod 4 == 0) (s200 s) (loS (mN n (pkI a n) (s200 s)) (s200 s))
/-- Does a call write at all? -/
def wrQ (n : Nat) (kd a : Int) (s : List UInt8) : Bool := (kd.tmod 4 == 0 || kd.tmod 4 == 1) && (inD n (aW n kd a) (sW n kd a s).length && !(sW n kd a s).isEmpty)
def yDo0 (n : Nat) (l : List Int) (k : List UInt8) (kd a : Int) (s : List UInt8) : Ans :=
  .br (wrQ n kd a s) (.ret (.bool true) (dW true true n l k k k (aW n kd a) (sW n kd a s))) (.ret (.bool true) (d0 false n l k k k))
theorem lD_ok (n : Nat) : lD n = true := by
  unfold lD litD
  simp [Nat.beq_refl]
theorem lZ_ok (n : Nat) : lZ n = true := by
  unfold lZ litZ
  simp [Nat.beq_refl]
theorem wB_run {n : Nat} {l : List Int} {k : List UInt8} {a : Int} {s : List UInt8} (hk : k.length = n) (hn : 0 < n ∧ n ≤ 320) (ha : i64B a = true) (hs : s.length ≤ 1099511627776) :
    (wB n l k k k a s).run pure2 = (Ans.br (inD n a s.length && !s.isEmpty) (.ret (.bool true) (dW true true n l k k k a s)) (.ret (.bool true) (d0 false n l k k k))).run pure2 := by
  have h1 : smN n k k = true := decide_eq_true ⟨hk, hk, by omega⟩
  have h2 : wOk n a s = true := by unfold wOk; rw [decide_eq_true (show n ≤ 320 ∧ s.length ≤ 1099511627776 from ⟨hn.2, hs⟩), ha]; rfl
  unfold wB
  simp only [Ans.run, Ans.chk, lD_ok, h1, ha, h2]
  cases hi : inD n a s.length with
  | false => rfl
  | true => cases he : s.isEmpty <;> rfl
theorem s200_len (s : List UInt8) : (s200 s).length ≤ 200 ∧ slB (m200 s) s = true := by
  unfold s200 loS slB m200
  split
  · refine ⟨by rw [List.length_take]; simp; omega, decide_eq_true ⟨by omega, by omega⟩⟩
  · refine ⟨by rw [List.length_take]; omega, decide_eq_true ⟨by omega, by omega⟩⟩
theorem mN_ok {n : Nat} {a : Int} {s : List UInt8} (hn : 0 < n ∧ n ≤ 320) (ha : i64B a = true) (hs : s.length ≤ 200) : slB (mN n (pkI a n) s) s = true ∧ (loS (mN n (pkI a n) s) s).length ≤ 200 ∧ i64B (pkI a n) = true := by
  have h1 := pkI_nat (n := n) ha
  have h2 := pk_lt (c := a) hn.1
  rw [h1]
  refine ⟨?_, ?_, i64B_to (by omega)⟩
  · unfold slB mN
    rw [i64_in (by omega) (by omega)]
    split
    · exact decide_eq_true ⟨by omega, by omega⟩
    · exact decide_eq_true ⟨by omega, by omega⟩
  · unfold loS; rw [List.length_take, List.length_drop]; omega
theorem do0_run {n len : Nat} {l : List Int} {k : List UInt8} {kd a : Int} {s : List UInt8} (hk : k.length = n) (hn : 0 < n ∧ n ≤ 320) (ha : i64B a = true) (hl : askN len l = true) : (xDo0 n len l k k k kd a s).run pure2 = (yDo0 n l k kd a s).run pure2 := by
  obtain ⟨s1, s2⟩ := s200_len s
  obtain ⟨m1, m2, m3⟩ := mN_ok hn ha s1
  have hsm : smN n k k = true := decide_eq_true ⟨hk, hk, by omega⟩
  have hp : posB n = true := posB_to (by omega)
  unfold xDo0 yDo0 wrQ aW sW
  cases h0 : (kd.tmod 4 == 0) with
  | true =>
    have key := wB_run (l := l) hk hn ha (show (s200 s).length ≤ 1099511627776 by omega)
    simp only [Ans.run, Ans.chk] at key ⊢
    rw [bcT s2, bcT rfl, key]; rfl
  | false =>
    cases h1 : (kd.tmod 4 == 1) with
    | true =>
      have key := wB_run (l := l) (s := loS (mN n (pkI a n) (s200 s)) (s200 s)) hk hn m3 (by omega)
      simp only [Ans.run, Ans.chk] at key ⊢
      rw [bcT s2, bcF rfl, bcT rfl, bcT ha, bcT hp, bcT m1, key]; rfl
    | false =>
      simp only [Ans.run, Ans.chk]
      rw [bcT s2, bcF rfl, bcF rfl]
      show _ = pure2 (.bool true) (d0 false n l k k k)
      cases (kd.tmod 4 == 2) with
      | true => rw [bcT rfl, bcT (lD_ok n), bcT hsm]
      | false =>
        rw [bcF rfl]
        cases (decide (a < 0)) with
        | true =>
          rw [lZ_ok n, hl, hsm]
          cases l.isEmpty <;> rfl
        | false => rw [bcF rfl, bcT (lD_ok n), bcT hsm]
end Go.Proofs.Ytoekeplljjaehaa

/- Layer 26: a call of both disks, some pieces pending: what comes of it. -/
set_option linter.unusedVariables false
set_option linter.unusedSimpArgs false
namespace Go.Proofs.Ytoekeplljjaehaa
open Go Sx
theorem keepL_i64 {m : Nat} (h0 : 0 < m) (hm : m ≤ 1099511627776) : ∀ (l : List Int) (tk : List Bool), (keepL m tk l).all i64B = true ∧ (keepL m tk l).length ≤ l.length
  | [], _ => ⟨rfl, Nat.le_refl _⟩
  | x :: xs, tk => by
    have hk := pk_lt (c := x) (n := 2 * m) (by omega)
    have hh : pk x (2 * m) / 2 < m := by omega
    generalize hp : pk x (2 * m) / 2 = h at hh
    simp only [keepL, hp]
    split
    · have := keepL_i64 h0 hm xs tk
      exact ⟨this.1, by simp only [List.length_cons]; omega⟩
    · have := keepL_i64 h0 hm xs (tkS tk (h : Int))
      refine ⟨?_, by simp only [List.length_cons]; omega⟩
      simp only [List.all_cons, this.1, Bool.and_true]
      split
      · exact i64B_to (by omega)
      · exact i64B_to (by omega)
def cLs (m : Nat) (a : Int) (l : List Int) : List Int := bcond (decide (a < 0)) l (keepS m l)
def yDo1 (n m : Nat) (l : List Int) (k t : List UInt8) (rows : List (List CV)) (kd a : Int) (s : List UInt8) : Ans :=
  .br (kd.tmod 4 == 0 || kd.tmod 4 == 1) (.br (inD n (aW n kd a) (sW n kd a s).length) (.br (sW n kd a s).isEmpty (.ret (.bool true) (dWV false true false n m l k t k rows (aW n kd a) (sW n kd a s))) (.ret (.bool true) (dWV true true true n m l k t k rows (aW n kd a) (sW n kd a s)))) (.ret (.bool true) (d1 false n m l k t k rows)))
    (.br (kd.tmod 4 == 2) (.ret (.bool true) (dV false n .nilslice (.vec 8 n) .nilslice l t t (.vecR shP rows pT) k (.vecR shP rows qT) [.vecB (layR rows k) 5]))
      (.br (cLs m a l).isEmpty (.ret (.bool true) (dC n l k k rows k none)) (.br (okK m (tk m) (cLs m a l)) (.ret (.bool true) (dC n l k k rows (layAll rows (cLs m a l) k) (some (layAll rows (cLs m a l) k)))) (.ret (.bool true) (d1 false n m l k t k rows)))))
theorem wBV_run {n m : Nat} {l : List Int} {k t : List UInt8} {rows : List (List CV)} {a : Int} {s : List UInt8} (hk : k.length = n) (ht : t.length = n) (hn : 0 < n ∧ n ≤ 320) (hm : rows.length = m) (hm2 : m ≤ 1099511627776) (ha : i64B a = true) (hs : s.length ≤ 1099511627776) :
    (wBV n m l k t k rows a s).run pure2 = (Ans.br (inD n a s.length) (.br s.isEmpty (.ret (.bool true) (dWV false true false n m l k t k rows a s)) (.ret (.bool true) (dWV true true true n m l k t k rows a s))) (.ret (.bool true) (d1 false n m l k t k rows))).run pure2 := by
  have h1 : smN n k t = true := decide_eq_true ⟨hk, ht, by omega⟩
  have h2 : wOk n a s = true := by unfold wOk; rw [decide_eq_true (show n ≤ 320 ∧ s.length ≤ 1099511627776 from ⟨hn.2, hs⟩), ha]; rfl
  have h3 : rwB m rows = true := decide_eq_true ⟨hm, hm2⟩
  unfold wBV
  simp only [Ans.run, Ans.chk, lD_ok, h1, ha, h2, h3]
  cases hi : inD n a s.length with
  | false => rfl
  | true => cases he : s.isEmpty <;> rfl
theorem do1_run {n m len : Nat} {l : List Int} {k t : List UInt8} {rows : List (List CV)} {kd a : Int} {s : List UInt8} (hk : k.length = n) (ht : layR rows k = t) (hn : 0 < n ∧ n ≤ 320) (hm : rows.length = m) (hm2 : 0 < m ∧ m ≤ 1099511627776) (hr : rowsB n rows = true) (ha : i64B a = true) (hl : askN len l = true) :
    (xDo1 n m len l k t k rows kd a s).run pure2 = (yDo1 n m l k t rows kd a s).run pure2 := by
  have htl : t.length = n := ht ▸ layR_len hr hk
  obtain ⟨s1, s2⟩ := s200_len s
  obtain ⟨m1, m2, m3⟩ := mN_ok hn ha s1
  have hsm : smN n k t = true := decide_eq_true ⟨hk, htl, by omega⟩
  have hp : posB n = true := posB_to (by omega)
  have hrw : rwB m rows = true := decide_eq_true ⟨hm, hm2.2⟩
  have hT : askT n m k rows = true := by unfold askT; rw [decide_eq_true (show k.length = n ∧ 0 < n ∧ n ≤ 1099511627776 ∧ rows.length = m ∧ 0 < m ∧ m ≤ 1099511627776 from ⟨hk, hn.1, by omega, hm, hm2⟩), hr]; rfl
  have hmk := mkB_m hm2.2
  unfold xDo1 yDo1 aW sW
  cases h0 : (kd.tmod 4 == 0) with
  | true =>
    have key := wBV_run (l := l) hk htl hn hm hm2.2 ha (show (s200 s).length ≤ 1099511627776 by omega)
    simp only [Ans.run, Ans.chk] at key ⊢
    rw [bcT s2, bcT rfl, key]; rfl
  | false =>
    cases h1 : (kd.tmod 4 == 1) with
    | true =>
      have key := wBV_run (l := l) (s := loS (mN n (pkI a n) (s200 s)) (s200 s)) hk htl hn hm hm2.2 m3 (by omega)
      simp only [Ans.run, Ans.chk] at key ⊢
      rw [bcT s2, bcF rfl, bcT rfl, bcT ha, bcT hp, bcT m1, key]; rfl
    | false =>
      simp only [Ans.run, Ans.chk]
      rw [bcT s2, bcF rfl, bcF rfl]
      show _ = bcond (kd.tmod 4 == 2) _ _
      cases (kd.tmod 4 == 2) with
      | true => rw [bcT rfl, bcT (lD_ok n), bcT hsm, bcT hrw, bcT hT]; rfl
      | false =>
        rw [bcF rfl]
        have hN := hl
        unfold askN at hN
        rw [Bool.and_eq_true] at hN
        obtain ⟨n1, n2⟩ := of_decide_eq_true hN.1
        unfold cLs
        cases hneg : (decide (a < 0)) with
        | true =>
          have hP : askP n m len l k t rows = true := by unfold askP; rw [decide_eq_true (show l.length = len ∧ len ≤ 9223372036854775807 ∧ rows.length = m ∧ m ≤ 1099511627776 ∧ k.length = n ∧ t.length = n ∧ n ≤ 1099511627776 from ⟨n1, n2, hm, hm2.2, hk, htl, by omega⟩), hr, hN.2]; rfl
          have hV : askV n m len l k rows = true := by unfold askV; rw [decide_eq_true (show k.length = n ∧ 0 < n ∧ n ≤ 1099511627776 ∧ rows.length = m ∧ m ≤ 1099511627776 from ⟨hk, hn.1, by omega, hm, hm2.2⟩), hr, hl]; rfl
          unfold cAny
          simp only [Ans.run, Ans.chk, lZ_ok, hP, hV]
          cases l with
          | nil => rfl
          | cons x xs =>
            have e : bcond true (x :: xs) (keepS m (x :: xs)) = x :: xs := rfl
            rw [e]
            cases okK m (tk m) (x :: xs) <;> rfl
        | false =>
          have hKp : askKp l len m = true := by unfold askKp; rw [decide_eq_true (show l.length = len ∧ (0 : Int) < m ∧ (m : Int) ≤ 1099511627776 from ⟨n1, by omega, by omega⟩), hN.2]; rfl
          have h5 : decide ((m : Int) = 0) = false := decide_eq_false (by omega)
          have hok : okK m (tk m) (keepS m l) = true := keepL_ok hm2.1 hm2.2 _ _
          obtain ⟨k1, k2⟩ := keepL_i64 hm2.1 hm2.2 (l.take 20) (tk m)
          have k2 : (keepS m l).length ≤ 20 := by have := List.length_take (i := 20) (l := l); unfold keepS; omega
          have hC : askC (keepS m l) (keepS m l).length n n n n m k t rows = true := decide_eq_true ⟨rfl, by omega, rfl, rfl, rfl, hm, hm2.2, hk, htl, by omega⟩
          have hN2 : askN (keepS m l).length (keepS m l) = true := by unfold askN; rw [decide_eq_true (show (keepS m l).length = (keepS m l).length ∧ (keepS m l).length ≤ 9223372036854775807 from ⟨rfl, by omega⟩)]; exact k1
          have hV : askV n m (keepS m l).length (keepS m l) k rows = true := by unfold askV; rw [decide_eq_true (show k.length = n ∧ 0 < n ∧ n ≤ 1099511627776 ∧ rows.length = m ∧ m ≤ 1099511627776 from ⟨hk, hn.1, by omega, hm, hm2.2⟩), hr, hN2]; rfl
          unfold cNone cSome
          simp only [Ans.run, Ans.chk, lD_ok, hsm, hrw, hmk, hKp, h5, hok, hC, hV, hr]
          cases he : (keepS m l).isEmpty with
          | true => simp only [bcond, he]
          | false => simp only [bcond, he, hok, Bool.not_false]
end Go.Proofs.Ytoekeplljjaehaa

/- Layer 26: what can't be done changes nothing: the law, evaluated. -/
set_option linter.unusedVariables false
set_option linter.unusedSimpArgs false
namespace Go.Proofs.Ytoekeplljjaehaa
open Go Sx
/-- Reads of all, and reads that are refused; writes that are refused. -/
def rE (n : Nat) (t : List UInt8) (a c : Int) (post : List PObj) : Ans :=
  if c = 320 then .chk (i64B a) (.chk (decide (0 ≤ c) && inD n a c.toNat) (.ret (.tuple [.str ((t.drop a.toNat).take c.toNat), .int .i64 0]) post))
  else .chk (i64B a) (.chk (i64B c) (.chk (!(decide (0 ≤ c) && inD n a c.toNat)) (.ret (.tuple [.str [], .int .i64 260]) post)))
def eReadE : Ent := onDisk (fun vs => match vs with | [.int .i64 a, .int .i64 c] => .ret (.tuple [.str [], .int .i64 1]) [] | _ => .fail)
  (fun n k t vs => match vs with | [.int .i64 a, .int .i64 c] => rE n t a c (dk0 n k t) | _ => .fail)
  (fun n k t rows m vs => match vs with | [.int .i64 a, .int .i64 c] => rE n t a c (dk1 n k t rows m) | _ => .fail)
theorem rE_run {n : Nat} {t : List UInt8} {a c : Int} {post : List PObj} {r : AV × List PObj} (h : (rE n t a c post).run pure2 = some r) : i64B a = true ∧ i64B c = true ∧ (rRd n t a c post).run pure2 = some r := by
  unfold rE at h
  unfold rRd
  simp only [Ans.run]
  split at h
  · rename_i e
    obtain ⟨h1, h⟩ := chk_run h
    obtain ⟨h2, h⟩ := chk_run h
    exact ⟨h1, by rw [e]; rfl, by rw [bcT h2]; exact h⟩
  · obtain ⟨h1, h⟩ := chk_run h
    obtain ⟨h2, h⟩ := chk_run h
    obtain ⟨h3, h⟩ := chk_run h
    exact ⟨h1, h2, by rw [bcF ((Bool.not_eq_true' _).mp h3)]; exact h⟩
theorem eReadE_ok : EntOK Try.prog 13 eReadE := fun args pre => by
  refine of_run (eRead_ok args pre) fun r hr => ?_
  unfold eReadE onDisk at hr
  unfold eRead onDisk
  split at hr
  · exact hr
  · obtain ⟨c1, hr⟩ := chk_run hr
    obtain ⟨c2, hr⟩ := chk_run hr
    simp only [Ans.run, Ans.chk] at hr ⊢
    rw [bcT c1, bcT c2]
    split at hr
    · obtain ⟨c3, c4, hr⟩ := rE_run hr
      simp only [Ans.run]
      rw [bcT c3, bcT c4]; exact hr
    · cases hr
  · obtain ⟨c1, hr⟩ := chk_run hr
    obtain ⟨c2, hr⟩ := chk_run hr
    obtain ⟨c6, hr⟩ := chk_run hr
    obtain ⟨c7, hr⟩ := chk_run hr
    simp only [Ans.run, Ans.chk] at hr ⊢
    rw [bcT c1, bcT c2, bcT c6, bcT c7]
    split at hr
    · obtain ⟨c3, c4, hr⟩ := rE_run hr
      simp only [Ans.run]
      rw [bcT c3, bcT c4]; exact hr
    · cases hr
  · cases hr
def eWriteE : Ent := onDisk (fun vs => match vs with | [.int .i64 a, .str s] => .ret (.int .i64 1) [] | _ => .fail)
  (fun n k t vs => match vs with | [.int .i64 a, .str s] => .chk (i64B a) (.chk (!inD n a s.length) (.ret (.int .i64 260) (dk0 n k t))) | _ => .fail)
  (fun n k t rows m vs => match vs with | [.int .i64 a, .str s] => .chk (i64B a) (.chk (!inD n a s.length) (.ret (.int .i64 260) (dk1 n k t rows m))) | _ => .fail)
theorem eWriteE_ok : EntOK Try.prog 25 eWriteE := fun args pre => by
  refine of_run (eWrite_ok args pre) fun r hr => ?_
  unfold eWriteE onDisk at hr
  unfold eWrite onDisk
  split at hr
  · exact hr
  · obtain ⟨c1, hr⟩ := chk_run hr
    obtain ⟨c2, hr⟩ := chk_run hr
    simp only [Ans.run, Ans.chk] at hr ⊢
    rw [bcT c1, bcT c2]
    split at hr
    · obtain ⟨c3, hr⟩ := chk_run hr
      obtain ⟨c4, hr⟩ := chk_run hr
      unfold rW0
      simp only [Ans.run]
      rw [bcT c3, bcF ((Bool.not_eq_true' _).mp c4)]; exact hr
    · cases hr
  · obtain ⟨c1, hr⟩ := chk_run hr
    obtain ⟨c2, hr⟩ := chk_run hr
    obtain ⟨c5, hr⟩ := chk_run hr
    obtain ⟨c6, hr⟩ := chk_run hr
    simp only [Ans.run, Ans.chk] at hr ⊢
    rw [bcT c1, bcT c2, bcT c5, bcT c6]
    split at hr
    · obtain ⟨c3, hr⟩ := chk_run hr
      obtain ⟨c4, hr⟩ := chk_run hr
      unfold rW1
      simp only [Ans.run]
      rw [bcT c3, bcF ((Bool.not_eq_true' _).mp c4)]; exact hr
    · cases hr
  · cases hr
def tEr : Tab := [(25, eWriteE), (24, eSync), (13, eReadE), (23, ePick), (20, eFilled), (10, eTrue), (32, eAre)]
theorem tEr_ok : TabOK Try.prog tEr := .cons eWriteE_ok (.cons eSync_ok (.cons eReadE_ok (.cons ePick_ok (.cons eFilled_ok (.cons awake_ok (.cons eAre_ok .nil))))))
def rdX (d : DD) (a c : Int) : List Bool := d.chk ++ [i64B a, i64B c, !(decide (0 ≤ c) && inD 320 a c.toNat)]
def wrX (d : DD) (a : Int) (l : Nat) : List Bool := d.chk ++ [i64B a, !inD 320 a l]
def crX (d : DD) (x : Int) : List Bool := match d.p with
  | none => [bad1 0 x]
  | some (_, m) => [mkB m, bad1 m x]
/-- What is asked ahead of the pieces that are named twice. -/
def askE (d : DD) (m : Nat) (at_ n : Int) : List Bool :=
  d.chk ++ ([i64B at_] ++ (rdX d (IntKind.i64.wrap (321 + pkI at_ 1000)) 0 ++ ([i64B at_] ++ (rdX d (pkI at_ 321) 321 ++ ([i64B at_] ++ (rdX d (IntKind.i64.wrap (-1 - pkI at_ 1000)) 1 ++ (wrX d (IntKind.i64.wrap (321 + pkI at_ 1000)) 0 ++
    ([i64B n] ++ (wrX d (IntKind.i64.wrap (pkI n 320 + 1)) 320 ++ ([i64B n] ++ (crX d (IntKind.i64.wrap ((m : Int) + pkI n 1000)) ++ ([i64B n] ++ crX d (IntKind.i64.wrap (IntKind.i64.wrap (-1 - (m : Int)) - pkI n 1000))))))))))))))
def xE0 (r1 r2 : List (List CV)) (at_ n : Int) : Ans :=
  ansChks (ansChks (.br (((sT2 r1 r2).drop 0).take 320 == ((sT2 r1 r2).drop 0).take 320) (.ret (.bool true) [fr r1, fr r2]) (.ret (.bool false) [fr r1, fr r2])) (DD.chk ⟨sT1 r1, sT2 r1 r2, none⟩)) (askE ⟨sT1 r1, sT2 r1 r2, none⟩ 0 at_ n)
def endE (r1 r2 : List (List CV)) (rows : List (List CV)) (m : Nat) : Ans :=
  ansChks (.br (((sT2 r1 r2).drop 0).take 320 == ((sT2 r1 r2).drop 0).take 320) (.br ((m : Int) == (m : Int)) (.ret (.bool true) [fr r1, fr r2]) (.ret (.bool false) [fr r1, fr r2])) (.ret (.bool false) [fr r1, fr r2])) (DD.chk ⟨sT1 r1, sT2 r1 r2, some (rows, m)⟩)
def xE1 (r1 r2 : List (List CV)) (rows : List (List CV)) (m : Nat) (at_ n : Int) : Ans :=
  ansChks (.br (decide ((m : Int) > 0)) (ansChks (endE r1 r2 rows m) [i64B n, posB m, i64B n, posB m, mkB m, bad2 m (pkI n m) (IntKind.i64.wrap (-1 - pkI n m))]) (endE r1 r2 rows m)) (askE ⟨sT1 r1, sT2 r1 r2, some (rows, m)⟩ m at_ n)
def xErrors (l1 l2 : Nat) (r1 r2 : List (List CV)) (at_ n : Int) : Ans :=
  ansChks (.br (fillP (r2.take 8)).isEmpty (xE0 r1 r2 at_ n) (xE1 r1 r2 ((fillP (r2.take 8)).map rowOf) (fillP (r2.take 8)).length at_ n)) [okA l1 r1, okA l2 r2]
end Go.Proofs.Ytoekeplljjaehaa

/- Layer 26: what can't be done changes nothing: it is so. -/
set_option linter.unusedVariables false
set_option linter.unusedSimpArgs false
namespace Go.Proofs.Ytoekeplljjaehaa
open Go Sx
theorem out_ge {a : Int} {l : Nat} (h : 320 < a.toNat + l ∨ a < 0) : inD 320 a l = false := decide_eq_false (by omega)
theorem rdX_ok {d : DD} {a c : Int} (hd : d.ok) (ha : i64B a = true) (hc : i64B c = true) (h : inD 320 a c.toNat = false) : ∀ b ∈ rdX d a c, b = true := by
  intro b hb
  rcases List.mem_append.1 hb with hb | hb
  · exact DD.chk_ok hd b hb
  · simp only [List.mem_cons, List.not_mem_nil, or_false] at hb
    rcases hb with rfl | rfl | rfl
    · exact ha
    · exact hc
    · rw [h, Bool.and_false]; rfl
theorem wrX_ok {d : DD} {a : Int} {l : Nat} (hd : d.ok) (ha : i64B a = true) (h : inD 320 a l = false) : ∀ b ∈ wrX d a l, b = true := by
  intro b hb
  rcases List.mem_append.1 hb with hb | hb
  · exact DD.chk_ok hd b hb
  · simp only [List.mem_cons, List.not_mem_nil, or_false] at hb
    rcases hb with rfl | rfl
    · exact ha
    · rw [h]; rfl
theorem all_app {a b : List Bool} (ha : ∀ x ∈ a, x = true) (hb : ∀ x ∈ b, x = true) : ∀ x ∈ a ++ b, x = true := fun x hx => (List.mem_append.1 hx).elim (ha x) (hb x)
theorem all_one {a : Bool} (ha : a = true) : ∀ x ∈ [a], x = true := fun x hx => by rw [List.mem_singleton.1 hx]; exact ha
theorem mkB_ok {m : Nat} (h : m ≤ 1000000) : mkB m = true := decide_eq_true (by omega)
theorem nmI_pos {x : Int} (h : 0 ≤ x) : nmI x = x := by unfold nmI; rw [if_neg (by omega)]
theorem nmI_neg {x : Int} (h : x < 0) (h2 : -9223372036854775808 ≤ x) : nmI x = -1 - x := by unfold nmI; rw [if_pos h, i64_in (by omega) (by omega)]
theorem crX_ok {d : DD} {m : Nat} {x : Int} (hp : (d.p = none ∧ m = 0) ∨ ∃ rows, d.p = some (rows, m)) (hm : m ≤ 1000000) (hx : (m : Int) ≤ nmI x) : ∀ b ∈ crX d x, b = true := by
  unfold crX
  rcases hp with ⟨hp, rfl⟩ | ⟨rows, hp⟩
  · rw [hp]; exact all_one (decide_eq_true hx)
  · rw [hp]
    intro b hb
    simp only [List.mem_cons, List.not_mem_nil, or_false] at hb
    rcases hb with rfl | rfl
    · exact mkB_ok hm
    · exact decide_eq_true hx
theorem askE_ok {d : DD} {m : Nat} {at_ n : Int} (hd : d.ok) (ha : i64B at_ = true) (hn : i64B n = true) (hm : m ≤ 1000000) (hp : (d.p = none ∧ m = 0) ∨ ∃ rows, d.p = some (rows, m)) : ∀ b ∈ askE d m at_ n, b = true := by
  have a1 : pkI at_ 1000 = (pk at_ 1000 : Nat) := pkI_nat (n := 1000) ha
  have a2 : pkI at_ 321 = (pk at_ 321 : Nat) := pkI_nat (n := 321) ha
  have n1 : pkI n 320 = (pk n 320 : Nat) := pkI_nat (n := 320) hn
  have n2 : pkI n 1000 = (pk n 1000 : Nat) := pkI_nat (n := 1000) hn
  have b1 := pk_lt (c := at_) (n := 1000) (by omega)
  have b2 := pk_lt (c := at_) (n := 321) (by omega)
  have b3 := pk_lt (c := n) (n := 320) (by omega)
  have b4 := pk_lt (c := n) (n := 1000) (by omega)
  unfold askE
  rw [a1, a2, n1, n2, i64_in (n := 321 + (pk at_ 1000 : Nat)) (by omega) (by omega), i64_in (n := -1 - (pk at_ 1000 : Nat)) (by omega) (by omega), i64_in (n := (pk n 320 : Nat) + 1) (by omega) (by omega), i64_in (n := (m : Int) + (pk n 1000 : Nat)) (by omega) (by omega), i64_in (n := -1 - (m : Int)) (by omega) (by omega), i64_in (n := -1 - (m : Int) - (pk n 1000 : Nat)) (by omega) (by omega)]
  refine all_app (DD.chk_ok hd) (all_app (all_one ha) (all_app (rdX_ok hd (i64B_to (by omega)) rfl (out_ge (by omega))) (all_app (all_one ha) (all_app (rdX_ok hd (i64B_to (by omega)) rfl (out_ge ?_)) (all_app (all_one ha) (all_app (rdX_ok hd (i64B_to (by omega)) rfl (out_ge (by omega)))
    (all_app (wrX_ok hd (i64B_to (by omega)) (out_ge (by omega))) (all_app (all_one hn) (all_app (wrX_ok hd (i64B_to (by omega)) (out_ge (by omega))) (all_app (all_one hn) (all_app (crX_ok hp hm ?_) (all_app (all_one hn) (crX_ok hp hm ?_)))))))))))))
  · left; show 320 < _ + 321; omega
  · rw [nmI_pos (by omega)]; omega
  · rw [nmI_neg (by omega) (by omega)]; omega
theorem errors_true {l1 l2 : Nat} {r1 r2 : List (List CV)} {at_ n : Int} (h1 : okA l1 r1 = true) (h2 : okA l2 r2 = true) (ha : i64B at_ = true) (hn : i64B n = true) : (xErrors l1 l2 r1 r2 at_ n).run pure2 = some (.bool true, [fr r1, fr r2]) := by
  have e1 := sT1_len r1
  have e2 := sT2_len r1 r2
  have hP := fillP_len (r2.take 8)
  have hP2 : (fillP (r2.take 8)).length ≤ 2560 := by rw [List.length_take] at hP; omega
  unfold xErrors
  refine ansChks_run ?_ (by intro b hb; simp only [List.mem_cons, List.not_mem_nil, or_false] at hb; rcases hb with rfl | rfl; exact h1; exact h2)
  simp only [Ans.run]
  cases hP0 : (fillP (r2.take 8)).isEmpty with
  | true =>
    rw [bcT rfl]
    have hd : DD.ok ⟨sT1 r1, sT2 r1 r2, none⟩ := ⟨e1, e2, fun rows m h => by cases h⟩
    unfold xE0
    refine ansChks_run ?_ (askE_ok hd ha hn (by omega) (.inl ⟨rfl, rfl⟩))
    refine ansChks_run ?_ (DD.chk_ok hd)
    simp only [Ans.run]
    rw [bcT (by simp)]; rfl
  | false =>
    rw [bcF rfl]
    have hd : DD.ok ⟨sT1 r1, sT2 r1 r2, some ((fillP (r2.take 8)).map rowOf, (fillP (r2.take 8)).length)⟩ := ⟨e1, e2, fun rows m h => by cases h; exact ⟨by rw [List.length_map], by omega⟩⟩
    have hend : (endE r1 r2 ((fillP (r2.take 8)).map rowOf) (fillP (r2.take 8)).length).run pure2 = some (.bool true, [fr r1, fr r2]) := by
      unfold endE
      refine ansChks_run ?_ (DD.chk_ok hd)
      simp only [Ans.run]
      rw [bcT (by simp), bcT (by simp)]; rfl
    generalize hm : (fillP (r2.take 8)).length = m at hd hend hP2
    unfold xE1
    refine ansChks_run ?_ (askE_ok hd ha hn (by omega) (.inr ⟨_, rfl⟩))
    simp only [Ans.run]
    by_cases hm0 : 0 < m
    · rw [bcT (decide_eq_true (by omega))]
      refine ansChks_run hend ?_
      have b1 := pk_lt (c := n) (n := m) hm0
      have ep : pkI n (m : Int) = (pk n m : Nat) := pkI_nat (n := m) hn
      intro b hb
      simp only [List.mem_cons, List.not_mem_nil, or_false] at hb
      rcases hb with rfl | rfl | rfl | rfl | rfl | rfl
      · exact hn
      · exact posB_to (by omega)
      · exact hn
      · exact posB_to (by omega)
      · exact mkB_ok (by omega)
      · rw [ep, i64_in (by omega) (by omega)]
        unfold bad2
        rw [nmI_pos (x := ((pk n m : Nat) : Int)) (by omega), nmI_neg (by omega) (by omega)]
        exact decide_eq_true (by omega)
    · rw [bcF (decide_eq_false (by omega))]
      exact hend
end Go.Proofs.Ytoekeplljjaehaa

/- Layer 26: all pieces are kept, or none: it is so. -/
set_option linter.unusedVariables false
set_option linter.unusedSimpArgs false
namespace Go.Proofs.Ytoekeplljjaehaa
open Go Sx
/-- Pieces laid, one behind the other. -/
def layP : List (Nat × List UInt8) → List UInt8 → List UInt8
  | [], k => k
  | p :: ps, k => layP ps (splice p.1 p.2 k)
theorem layP_app : ∀ (a b : List (Nat × List UInt8)) (k : List UInt8), layP (a ++ b) k = layP b (layP a k)
  | [], b, k => rfl
  | p :: a, b, k => layP_app a b (splice p.1 p.2 k)
theorem layP_parts : ∀ (f a : Nat) (s k : List UInt8), s.length ≤ f → a + s.length ≤ k.length → layP (parts a s) k = splice a s k
  | _, a, [], k, _, h => by rw [parts_nil, splice_nil (by simpa using h)]; rfl
  | 0, a, c :: s, k, h, _ => by simp at h
  | f + 1, a, c :: s, k, h, h2 => by
    have h3 : 1 ≤ hd a (c :: s) := hd_pos (by simp)
    have h4 := hd_le a (c :: s)
    rw [parts_cons (by simp)]
    show layP (parts _ _) (splice a _ k) = _
    have hl : (splice a ((c :: s).take (hd a (c :: s))) k).length = k.length := splice_len (by rw [List.length_take]; omega)
    rw [layP_parts f _ _ _ (by rw [List.length_drop]; simp only [List.length_cons] at *; omega) (by rw [hl, List.length_drop]; omega)]
    exact splice_two h2 h4
theorem layP_fill : ∀ (rs : List (List CV)) (t : List UInt8), t.length = 320 → layP (fillP rs) t = fillT rs t
  | [], t, h => rfl
  | r :: rs, t, h => by
    have h1 := sN_le r
    rw [fillP, layP_app, layP_parts _ _ _ _ (Nat.le_refl _) (by omega), fillT]
    exact layP_fill rs _ (by rw [splice_len (by omega)]; exact h)
/-- Each piece lies within the disk. -/
theorem parts_in : ∀ (f a : Nat) (s : List UInt8), s.length ≤ f → ∀ p ∈ parts a s, a ≤ p.1 ∧ p.1 + p.2.length ≤ a + s.length
  | _, a, [], _, p, hp => by rw [parts_nil] at hp; cases hp
  | 0, a, c :: s, h, p, hp => by simp at h
  | f + 1, a, c :: s, h, p, hp => by
    have h3 : 1 ≤ hd a (c :: s) := hd_pos (by simp)
    have h4 := hd_le a (c :: s)
    rw [parts_cons (by simp)] at hp
    rcases List.mem_cons.1 hp with rfl | hp
    · simp only [List.length_take]; omega
    · have := parts_in f _ _ (by rw [List.length_drop]; simp only [List.length_cons] at *; omega) p hp
      rw [List.length_drop] at this
      omega
theorem fillP_in : ∀ (rs : List (List CV)), ∀ p ∈ fillP rs, p.1 + p.2.length ≤ 320
  | [], p, hp => by cases hp
  | r :: rs, p, hp => by
    rcases List.mem_append.1 hp with hp | hp
    · have := parts_in _ _ _ (Nat.le_refl _) p hp
      have := sN_le r
      omega
    · exact fillP_in rs p hp
theorem rows_fill (rs : List (List CV)) : rowsB 320 ((fillP rs).map rowOf) = true := by
  refine List.all_eq_true.2 fun r hr => ?_
  obtain ⟨p, hp, rfl⟩ := List.mem_map.1 hr
  have := fillP_in rs p hp
  show (decide (0 ≤ ((p.1 : Nat) : Int)) && decide (((p.1 : Nat) : Int).toNat + p.2.length ≤ 320)) = true
  rw [decide_eq_true (by omega), decide_eq_true (by simpa using this)]; rfl
theorem layX_at {P : List (Nat × List UInt8)} {j : Nat} (hj : j < P.length) (k : List UInt8) : layX (P.map rowOf) (j : Int) k = splice P[j].1 P[j].2 k := by
  have e : Sx.rowAt (P.map rowOf) j = rowOf P[j] := by unfold Sx.rowAt; rw [List.getD_eq_getElem?_getD, List.getElem?_map, List.getElem?_eq_getElem hj]; rfl
  unfold layX
  rw [nmI_pos (by omega), if_neg (by omega), Int.toNat_natCast, e]
  show splice (((P[j]).1 : Nat) : Int).toNat _ k = _
  rw [Int.toNat_natCast]; rfl
theorem layAll_app (rows : List (List CV)) : ∀ (a b : List Int) (k : List UInt8), layAll rows (a ++ b) k = layAll rows b (layAll rows a k)
  | [], b, k => rfl
  | x :: a, b, k => layAll_app rows a b (layX rows x k)
theorem layAll_upto (P : List (Nat × List UInt8)) (k : List UInt8) : ∀ j, j ≤ P.length → layAll (P.map rowOf) (upto j) k = layP (P.take j) k
  | 0, _ => by simp [upto, layAll, layP]
  | j + 1, h => by
    have hj : j < P.length := h
    rw [upto_succ, layAll_app, layAll_upto P k j (by omega), List.take_succ_eq_append_getElem hj, layP_app]
    show layX _ _ _ = _
    rw [layX_at hj]; rfl
theorem okK_upto {m : Nat} : ∀ (d j : Nat) (tk : List Bool), m - j = d → j ≤ m → tk.length = m → (∀ i, j ≤ i → tk.getD i false = false) → okK m tk ((upto m).drop j) = true
  | 0, j, tk, hd, hj, hl, ht => by rw [List.drop_of_length_le (by rw [upto_len]; omega)]; rfl
  | d + 1, j, tk, hd, hj, hl, ht => by
    have hj' : j < (upto m).length := by rw [upto_len]; omega
    rw [getD_drop hj']
    have e : (upto m).getD j 0 = (j : Int) := by unfold upto; rw [List.getD_eq_getElem?_getD, List.getElem?_map, List.getElem?_range (by omega)]; rfl
    rw [e]
    simp only [okK, Bool.and_eq_true]
    rw [nmI_pos (by omega)]
    refine ⟨decide_eq_true (by omega), ?_, ?_⟩
    · unfold gtB; simp only [Int.toNat_natCast]; rw [ht _ (by omega)]; rfl
    · refine okK_upto d (j + 1) _ (by omega) (by omega) (by rw [List.length_set]; exact hl) fun i hi => ?_
      simp only [Int.toNat_natCast]
      rw [List.getD_eq_getElem?_getD, List.getElem?_set_ne (by omega), ← List.getD_eq_getElem?_getD]
      exact ht i (by omega)
theorem endN_true {l1 : Nat} {r1 r2 : List (List CV)} {k t : List UInt8} (hl : okA l1 r1 = true) (hk : k.length = 320) (ht : t.length = 320) : (endN l1 r1 r2 k t t).run pure2 = some (.bool true, [fr r1, fr r2]) := by
  unfold endN
  simp only [Ans.run, Ans.chk]
  simp [bcond, pure2, smN_t ht ht, smN_t hk hk, hl]
theorem allNone_N {l1 l2 : Nat} {r1 r2 : List (List CV)} (h1 : okA l1 r1 = true) (h2 : okA l2 r2 = true) (h0 : (fillP (r2.take 8)).isEmpty = true) : (xN0 l1 l2 r1 r2).run pure2 = some (.bool true, [fr r1, fr r2]) := by
  have e1 := sT1_len r1
  have e2 := sT2_len r1 r2
  have e : sT2 r1 r2 = sT1 r1 := by
    have := layP_fill (r2.take 8) (sT1 r1) e1
    rw [List.isEmpty_iff.1 h0] at this
    exact this.symm
  unfold xN0
  have hs := smN_t e1 e2
  have hs2 := smN_t e2 e2
  refine ansChks_run ?_ (by
    intro b hb
    simp only [List.mem_cons, List.not_mem_nil, or_false] at hb
    rcases hb with rfl | rfl | rfl | rfl | rfl | rfl | rfl | rfl | rfl | rfl | rfl | rfl | rfl | rfl <;> assumption)
  rw [e]
  exact endN_true h1 e1 e1
theorem allNone_V {l1 l2 : Nat} {r1 r2 : List (List CV)} (h1 : okA l1 r1 = true) (h2 : okA l2 r2 = true) (h0 : (fillP (r2.take 8)).isEmpty = false) : (xNV l1 l2 r1 r2 ((fillP (r2.take 8)).map rowOf) (fillP (r2.take 8)).length).run pure2 = some (.bool true, [fr r1, fr r2]) := by
  have e1 := sT1_len r1
  have e2 := sT2_len r1 r2
  have hP := fillP_len (r2.take 8)
  have hP2 : (fillP (r2.take 8)).length ≤ 2560 := by rw [List.length_take] at hP; omega
  have hpos : 0 < (fillP (r2.take 8)).length := List.length_pos_iff.2 (fun e => by rw [e] at h0; cases h0)
  have hlay : layAll ((fillP (r2.take 8)).map rowOf) (upto (fillP (r2.take 8)).length) (sT1 r1) = sT2 r1 r2 := by
    rw [layAll_upto _ _ _ (Nat.le_refl _), List.take_length]
    exact layP_fill _ _ e1
  have hrows := rows_fill (r2.take 8)
  have hv : vB ((fillP (r2.take 8)).map rowOf) (fillP (r2.take 8)).length = true := decide_eq_true ⟨by rw [List.length_map], by omega⟩
  have hn : (!(fillP (r2.take 8)).isEmpty) = true := by rw [h0]; rfl
  unfold xNV
  rw [hlay]
  have hs := smN_t e1 e2
  have hs2 := smN_t e2 e2
  have hm : posM (fillP (r2.take 8)).length = true := decide_eq_true (by omega)
  have ha : askC (upto (fillP (r2.take 8)).length) (fillP (r2.take 8)).length 320 320 320 320 (fillP (r2.take 8)).length (sT1 r1) (sT2 r1 r2) ((fillP (r2.take 8)).map rowOf) = true := decide_eq_true ⟨upto_len _, by omega, rfl, rfl, rfl, by rw [List.length_map], by omega, e1, e2, by omega⟩
  have hk : okK (fillP (r2.take 8)).length (tk (fillP (r2.take 8)).length) (upto (fillP (r2.take 8)).length) = true := by
    refine okK_upto _ 0 _ rfl (Nat.zero_le _) (by unfold tk; simp) fun i _ => ?_
    unfold tk
    rw [List.getD_eq_getElem?_getD, List.getElem?_replicate]; split <;> rfl
  have hq := eqSt_refl (sN0 l1 r1 r2 (allS (sT2 r1 r2)) (sT1 r1) (sT2 r1 r2) ((fillP (r2.take 8)).map rowOf) (fillP (r2.take 8)).length)
  refine ansChks_run (endN_true h1 e1 e2) (by
    intro b hb
    simp only [List.mem_cons, List.not_mem_nil, or_false] at hb
    rcases hb with rfl | rfl | rfl | rfl | rfl | rfl | rfl | rfl | rfl | rfl | rfl | rfl | rfl | rfl | rfl | rfl | rfl | rfl | rfl | rfl | rfl <;> assumption)
end Go.Proofs.Ytoekeplljjaehaa

/- Layer 26: a call of both disks, as entries by a round's own variables. -/
set_option linter.unusedVariables false
set_option linter.unusedSimpArgs false
namespace Go.Proofs.Ytoekeplljjaehaa
open Go Sx
noncomputable def eqAs (a b : List AV) : Bool := @decide (a = b) (Classical.propDecidable _)
noncomputable def eqPs (a b : List PObj) : Bool := @decide (a = b) (Classical.propDecidable _)
theorem eqAs_of {a b : List AV} (h : eqAs a b = true) : a = b := by unfold eqAs at h; exact @of_decide_eq_true _ (Classical.propDecidable _) h
theorem eqPs_of {a b : List PObj} (h : eqPs a b = true) : a = b := by unfold eqPs at h; exact @of_decide_eq_true _ (Classical.propDecidable _) h
theorem eqAs_refl (a : List AV) : eqAs a a = true := by unfold eqAs; exact @decide_eq_true _ (Classical.propDecidable _) rfl
theorem eqPs_refl (a : List PObj) : eqPs a a = true := by unfold eqPs; exact @decide_eq_true _ (Classical.propDecidable _) rfl
def argsDo (len : Nat) (kd a : Int) (s : List UInt8) : List AV := [.ptr 0 0, .ptr 1 0, .agg [.int .u8 kd, .int .i64 a, .str s, .dsl 2 len]]
def ask0D (n len : Nat) (l : List Int) (k : List UInt8) (a : Int) : Bool := decide (k.length = n ∧ 0 < n ∧ n ≤ 320) && (i64B a && askN len l)
noncomputable def ask1D (n m len : Nat) (l : List Int) (k t : List UInt8) (rows : List (List CV)) (a : Int) : Bool := decide (k.length = n ∧ 0 < n ∧ n ≤ 320 ∧ rows.length = m ∧ 0 < m ∧ m ≤ 1099511627776) && (@decide (layR rows k = t) (Classical.propDecidable _) && (rowsB n rows && (i64B a && askN len l)))
noncomputable def eDo0 (b : Bool) (n len : Nat) (l : List Int) (k : List UInt8) (kd a : Int) (s : List UInt8) : Ent := fun args pre =>
  .chk (eqAs args (argsDo len kd a s)) (.chk (eqPs pre (d0 b n l k k k)) (.chk (ask0D n len l k a) (yDo0 n l k kd a s)))
theorem eDo0_ok (b : Bool) (n len : Nat) (l : List Int) (k : List UInt8) (kd a : Int) (s : List UInt8) : EntOK Try.prog 12 (eDo0 b n len l k kd a s) := fun args pre => by
  unfold eDo0
  refine ⟨fun g1 => ⟨fun g2 => ⟨fun g3 => ?_, fun _ => trivial⟩, fun _ => trivial⟩, fun _ => trivial⟩
  obtain rfl := eqAs_of g1
  obtain rfl := eqPs_of g2
  unfold ask0D at g3
  simp only [Bool.and_eq_true] at g3
  obtain ⟨h1, h2⟩ := of_decide_eq_true g3.1
  exact of_run (ans_comes tDo_ok (cDo0 b n len l k k k kd a s)) fun r hr => (do0_run h1 h2 g3.2.1 g3.2.2).trans hr
noncomputable def eDo1 (b : Bool) (n m len : Nat) (l : List Int) (k t : List UInt8) (rows : List (List CV)) (kd a : Int) (s : List UInt8) : Ent := fun args pre =>
  .chk (eqAs args (argsDo len kd a s)) (.chk (eqPs pre (d1 b n m l k t k rows)) (.chk (ask1D n m len l k t rows a) (yDo1 n m l k t rows kd a s)))
theorem eDo1_ok (b : Bool) (n m len : Nat) (l : List Int) (k t : List UInt8) (rows : List (List CV)) (kd a : Int) (s : List UInt8) : EntOK Try.prog 12 (eDo1 b n m len l k t rows kd a s) := fun args pre => by
  unfold eDo1
  refine ⟨fun g1 => ⟨fun g2 => ⟨fun g3 => ?_, fun _ => trivial⟩, fun _ => trivial⟩, fun _ => trivial⟩
  obtain rfl := eqAs_of g1
  obtain rfl := eqPs_of g2
  unfold ask1D at g3
  simp only [Bool.and_eq_true] at g3
  obtain ⟨h1, h2, h3, h4, h5, h6⟩ := of_decide_eq_true g3.1
  have ht := @of_decide_eq_true _ (Classical.propDecidable _) g3.2.1
  exact of_run (ans_comes tDo_ok (cDo1 b n m len l k t k rows kd a s)) fun r hr => (do1_run h1 ht ⟨h2, h3⟩ h4 ⟨h5, h6⟩ g3.2.2.1 g3.2.2.2.1 g3.2.2.2.2).trans hr
/-- What is there, when one more is written. -/
theorem layR_parts {a : Int} {s k : List UInt8} (h0 : 0 ≤ a) (h : a.toNat + s.length ≤ k.length) : layR (pr a s) k = splice a.toNat s k := by
  have key : ∀ (ps : List (Nat × List UInt8)) (k : List UInt8), layR (ps.map rowOf) k = layP ps k := fun ps => by
    induction ps with
    | nil => intro k; rfl
    | cons p ps ih =>
      intro k
      simp only [List.map_cons, layR, layP]
      rw [ih]; rfl
  unfold pr
  rw [key, layP_parts _ _ _ _ (Nat.le_refl _) h]
end Go.Proofs.Ytoekeplljjaehaa
