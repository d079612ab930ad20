/- The symbolic executor, part X: functions of the library without a body of Go. -/
import Derived.Test.YtpdhfopfjoinnaaDoorSxV
import Derived.Laws.Externs
import Derived.Lib.Bytealg
import Derived.ChangeKeysEq
set_option linter.unusedSimpArgs false
set_option linter.unusedVariables false
namespace Go.Proofs.YtpdhfopfjoinnaaDoor.Sx
open Go

/-- Which comes first, cell by cell. -/
def cmpI : List Int → List Int → Int
  | [], [] => 0
  | [], _ :: _ => -1
  | _ :: _, [] => 1
  | a :: as, b :: bs => if a < b then -1 else if b < a then 1 else cmpI as bs

def bytesI (l : List Int) : List UInt8 := l.map fun x => x.toNat.toUInt8

theorem u8_toNat {a : Int} (h : 0 ≤ a ∧ a < 256) : (a.toNat.toUInt8).toNat = a.toNat := by
  have : a.toNat < 256 := by omega
  simp [Nat.toUInt8]
  omega

theorem u8_lt {a b : Int} (ha : 0 ≤ a ∧ a < 256) (hb : 0 ≤ b ∧ b < 256) : (a.toNat.toUInt8 < b.toNat.toUInt8) ↔ a < b := by
  rw [UInt8.lt_iff_toNat_lt, u8_toNat ha, u8_toNat hb]; omega

theorem compareBytes_bytesI : ∀ (xs ys : List Int), (∀ x ∈ xs, 0 ≤ x ∧ x < 256) → (∀ y ∈ ys, 0 ≤ y ∧ y < 256) → Lib.compareBytes (bytesI xs) (bytesI ys) = cmpI xs ys
  | [], [], _, _ => rfl
  | [], _ :: _, _, _ => rfl
  | _ :: _, [], _, _ => rfl
  | a :: as, b :: bs, ha, hb => by
    have h1 := ha a (by simp)
    have h2 := hb b (by simp)
    have ih := compareBytes_bytesI as bs (fun x hx => ha x (by simp [hx])) (fun y hy => hb y (by simp [hy]))
    simp only [bytesI, List.map_cons, Lib.compareBytes, cmpI] at ih ⊢
    simp only [u8_lt h1 h2, u8_lt h2 h1, ih]

theorem run_loadBytes {P : Program} {w : World} {b : Nat} : ∀ (l : List Int) (off : Nat) (acc : ByteArray), (∀ (i : Nat) x, (l.map (Value.int .u8))[i]? = some x → w.cell? ⟨b, off + i, none⟩ = some x) →
    (Extern.Bytes.loadBytes ⟨b, off, none⟩ l.length acc).run P w = .ok ⟨acc.data ++ (bytesI l).toArray⟩ w
  | [], off, acc, h => by simp [Extern.Bytes.loadBytes, bytesI]
  | a :: l, off, acc, h => by
    have h0 := h 0 _ rfl
    simp only [Nat.add_zero] at h0
    have ih := run_loadBytes (P := P) l (off + 1) (acc.push a.toNat.toUInt8) (fun i x hi => by
      have := h (i + 1) x (by simpa using hi)
      rwa [show off + (i + 1) = off + 1 + i by omega] at this)
    simp only [List.length_cons, Extern.Bytes.loadBytes, Sem.run_bind, run_load, h0, Result.andThen_ok, Addr.add_none, ih]
    congr 1
    apply ByteArray.ext
    simp [bytesI]

theorem denL_ints {E : Env} {k : IntKind} (l : List Int) : denL E (ints k l) = some (l.map (Value.int k)) := by
  induction l with
  | nil => rfl
  | cons a l ih => simp only [ints, List.map_cons]; exact denL_cons.2 ⟨_, _, rfl, ih, rfl⟩

theorem PostR.same {E : Env} {w : World} {pre : List AObj} (h : PreR E w pre) : PostR E E w w pre pre :=
  { le := .refl _, cut := h.fresh, objs := h.objs
    made := fun n b c o hn _ hE => by rw [h.fresh n hn] at hE; cases hE
    keep := fun _ _ _ => rfl
    newApart := fun n m o o' b c b' c' hn _ _ _ _ _ hE => by rw [h.fresh n hn] at hE; cases hE
    grow := Nat.le_refl _, os := rfl, tape := rfl, output := rfl }

theorem run_bytesOf {P : Program} {E : Env} {w : World} {nm off cap : Nat} {l : List Int} {x : Value} {b : Nat} {c : Cap} (hx : den E (.slice nm off l.length cap) = some x) (hE : E nm = some (b, c)) (ho : ObjR E w b c (.ro off (ints .u8 l))) :
    (Extern.Bytes.bytesOf x).run P w = .ok ⟨(bytesI l).toArray⟩ w := by
  obtain ⟨b', c', hb, rfl⟩ := slice_den hx
  rw [hE] at hb; cases hb
  obtain ⟨xs, hxs, hw, _⟩ := ho
  have : xs = l.map (Value.int .u8) := by have := hxs.1; rw [denL_ints] at this; exact (Option.some.inj this).symm
  subst this
  have := run_loadBytes (P := P) l off ByteArray.empty hw
  simp only [Extern.Bytes.bytesOf, this]
  congr 1
  apply ByteArray.ext; simp

/-- bytealg.Compare of two slices of bytes. -/
theorem meets_bytealg_compare {P : Program} {f : FuncId} {fn : Func} (hf : P.funcs[f]? = some fn) (h1 : (fn.name == "runtime.NumGoroutine") = false) (h2 : fn.body.isNone = true) (h3 : Extern.findNext fn = none) (h4 : Extern.find fn = some Extern.BytealgCompare.compare)
    (xs ys : List Int) (o1 o2 c1 c2 : Nat) (hx : ∀ x ∈ xs, 0 ≤ x ∧ x < 256) (hy : ∀ y ∈ ys, 0 ≤ y ∧ y < 256) :
    Meets P f [.slice 0 o1 xs.length c1, .slice 1 o2 ys.length c2] [.ro o1 (ints .u8 xs), .ro o2 (ints .u8 ys)] (.int .i64 (cmpI xs ys)) [.ro o1 (ints .u8 xs), .ro o2 (ints .u8 ys)] := by
  intro w E vs hvs hp
  obtain ⟨x, zs, hx1, hz, rfl⟩ := denL_cons.1 hvs
  obtain ⟨y, us, hy1, hu, rfl⟩ := denL_cons.1 hz
  simp only [denL, Option.some.injEq] at hu
  subst hu
  obtain ⟨b1, k1, e1, r1⟩ := hp.objs 0 _ rfl
  obtain ⟨b2, k2, e2, r2⟩ := hp.objs 1 _ rfl
  refine .inr ⟨.int .i64 (cmpI xs ys), w, ?_, E, _, rfl, rfl, PostR.same hp⟩
  rw [run_callFunc_extern hf h1 h2 h3 (e := Extern.BytealgCompare.compare) h4]
  have hc : Extern.BytealgCompare.compare [x, y].toArray = (do pure (goInt (Extern.BytealgCompare.cmp (← Extern.Bytes.bytesOf x) (← Extern.Bytes.bytesOf y))) : Sem Value) := rfl
  rw [hc]
  simp only [Sem.run_bind, run_bytesOf hx1 e1 r1, run_bytesOf hy1 e2 r2, Result.andThen_ok, Sem.run_pure, Lib.cmp_eq, goInt]
  rw [compareBytes_bytesI xs ys hx hy]

/-- abi.NoEscape: the pointer as it is. -/
theorem meets_noescape {P : Program} {f : FuncId} {fn : Func} (hf : P.funcs[f]? = some fn) (h1 : (fn.name == "runtime.NumGoroutine") = false) (h2 : fn.body.isNone = true) (h3 : Extern.findNext fn = none) (h4 : Extern.find fn = some Extern.AbiNoEscape.same) (off : Nat) :
    Meets P f [.ptr 0 off] [.ro 0 []] (.ptr 0 off) [.ro 0 []] := by
  intro w E vs hvs hp
  obtain ⟨x, zs, hx, hz, rfl⟩ := denL_cons.1 hvs
  simp only [denL, Option.some.injEq] at hz
  subst hz
  refine .inr ⟨x, w, ?_, E, x, rfl, hx, PostR.same hp⟩
  rw [run_callFunc_extern hf h1 h2 h3 (e := Extern.AbiNoEscape.same) h4]
  rfl

/-- Any block may be told as one of which nothing is known. -/
theorem fits_any {a : AObj} (r : List Nat) (hk : a.known.isSome = true) (hl : a.live = true) : Fits a (AObj.ren r (.ro 0 [])) := by
  obtain ⟨⟨o0, cs⟩, hk⟩ := Option.isSome_iff_exists.1 hk
  intro E w k c h
  exact ⟨[], ⟨rfl, rfl⟩, fun i x hi => by simp at hi, h.lt hl (by cases a <;> first | rfl | (simp [AObj.known] at hk))⟩

theorem byteI {c : Int} (h : 0 ≤ c ∧ c < 256) : (((UInt8.ofNat c.toNat).toNat : Nat) : Int) = c := by
  have : c.toNat < 256 := by omega
  simp
  omega
theorem u8s_snoc {s : List UInt8} {c : Int} (h : 0 ≤ c ∧ c < 256) : u8s s ++ [AV.int .u8 c] = u8s (s ++ [UInt8.ofNat c.toNat]) := by
  simp only [u8s, List.map_append, List.map_cons, List.map_nil, byteI h]

theorem EqR.to {P : Program} {t : TypeId} {x y : AV} {r r' : Bool} (h : EqR P t x y r) (e : r = r') : EqR P t x y r' := e ▸ h
theorem part_int {P : Program} {e : TypeId} {k k' : IntKind} {w : World} (he : P.underlying e = some (.int k')) (xs : List Int) {i : Nat} (hi : i < xs.length) : (part e (xs.map (Value.int k)).toArray i).run P w = .ok (.int k (xs.getD i 0)) w := by
  simp only [part, Sem.run_bind, run_isAgg' he, isAggD, Result.andThen_ok, Bool.false_eq_true, if_false, List.getElem?_toArray, List.getElem?_map]
  rw [List.getElem?_eq_getElem hi]
  simp [List.getD, hi]
theorem eqItems_ints {P : Program} {e : TypeId} {k k' : IntKind} {w : World} (he : P.underlying e = some (.int k')) (xs ys : List Int) (hl : xs.length = ys.length) : ∀ (m i : Nat), i + m = xs.length →
    (Op.eqItems 9999 e 1 (xs.map (Value.int k)).toArray (ys.map (Value.int k)).toArray (List.range' i m)).run P w = .ok (decide (xs.drop i = ys.drop i)) w
  | 0, i, h => by
    rw [List.drop_eq_nil_of_le (by omega), List.drop_eq_nil_of_le (by omega)]
    simp [Op.eqItems]
  | m + 1, i, h => by
    have ih := eqItems_ints (P := P) (w := w) (k := k) he xs ys hl m (i + 1) (by omega)
    have hx : i < xs.length := by omega
    have hy : i < ys.length := by omega
    simp only [List.range'_succ, Op.eqItems, Nat.mul_one, Sem.run_bind, part_int he xs hx, part_int he ys hy, Result.andThen_ok, run_equalIn_int w 9998 e _ _ _ _ he]
    have e : (xs.drop i = ys.drop i) ↔ (xs[i] = ys[i] ∧ xs.drop (i + 1) = ys.drop (i + 1)) := by
      rw [List.drop_eq_getElem_cons hx, List.drop_eq_getElem_cons hy, List.cons.injEq]
    have ex : xs.getD i 0 = xs[i] := by simp [List.getD, hx]
    have ey : ys.getD i 0 = ys[i] := by simp [List.getD, hy]
    have e2 : decide (xs.drop i = ys.drop i) = decide (xs[i] = ys[i] ∧ xs.drop (i + 1) = ys.drop (i + 1)) := decide_eq_decide.2 e
    rw [e2, ex, ey]
    by_cases hc : xs[i] = ys[i]
    · simp only [hc, beq_self_eq_true, Bool.not_true, Bool.false_eq_true, if_false, ih, true_and]
    · have hb : (xs[i] == ys[i]) = false := by simpa using hc
      simp only [hb, Bool.not_false, if_true, Sem.run_pure, hc, false_and, decide_false]
theorem eqR_ints {P : Program} {t e : TypeId} {n : Nat} {k k' : IntKind} (hu : P.underlying t = some (.array n e)) (he : P.underlying e = some (.int k')) (hc : P.cellsOf e = 1) (xs ys : List Int) (hx : xs.length = n) (hy : ys.length = n) : EqR P t (.agg (ints k xs)) (.agg (ints k ys)) (decide (xs = ys)) := by
  intro E w a b ha hb
  obtain ⟨as, h1, rfl⟩ := denC_agg.1 ha
  obtain ⟨bs, h2, rfl⟩ := denC_agg.1 hb
  have e1 := h1.1
  have e2 := h2.1
  rw [denL_ints] at e1 e2
  cases e1; cases e2
  obtain ⟨i, hi⟩ := underlying_info he
  rw [run_equalIn_array w 9999 _ _ hu hi, hc, List.range_eq_range', eqItems_ints he xs ys (by omega) n 0 (by omega)]
  rfl

end Go.Proofs.YtpdhfopfjoinnaaDoor.Sx
