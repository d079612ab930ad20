/- The symbolic executor, part E: the operations that make no block are sound. -/
import Derived.Test.YtpdhfopfjoinnaaDoorSxD
import Derived.LaidEqlPtr
import Derived.Lib.Builder
import Derived.IntWalk
import Derived.Laws.Strings
import Derived.Laws.Small
set_option linter.unusedSimpArgs false
namespace Go.Proofs.YtpdhfopfjoinnaaDoor.Sx
open Go

/-- What an operation did to memory. -/
structure Eff (E E' : Env) (w w' : World) (F : Foot) (upd new : List AObj) : Prop where
  le : Env.le E E'
  only : ∀ n, n ∉ F.al → E' n = E n
  wrote : F.wr = true → ∀ (i n : Nat) (o : AObj), F.rd[i]? = some n → upd[i]? = some o → ∃ b c, E n = some (b, c) ∧ ObjR E' w' b c o
  made : ∀ (i n : Nat) (o : AObj), F.al[i]? = some n → new[i]? = some o → ∃ b c, E' n = some (b, c) ∧ ObjR E' w' b c o ∧
    (touches b c o b → w.heap.size ≤ b ∨ (F.wr = true ∧ ∃ (j m : Nat) (c' : Cap), F.rd[j]? = some m ∧ upd[j]? = some AObj.dead ∧ E m = some (b, c')))
  keep : ∀ k : Nat, k < w.heap.size → (∀ n ∈ F.ws, ∀ c, E n ≠ some (k, c)) → w'.heap[k]? = w.heap[k]?
  newApart : ∀ (i j n m : Nat) (o o' : AObj) (b : Nat) (c : Cap) (b' : Nat) (c' : Cap), F.al[i]? = some n → F.al[j]? = some m → new[i]? = some o → new[j]? = some o' → o.owned = true → o'.live = true → E' n = some (b, c) → E' m = some (b', c') → i ≠ j → ¬ touches b' c' o' b
  grow : w.heap.size ≤ w'.heap.size
  os : w'.os = w.os
  tape : w'.tape = w.tape
  output : w'.output = w.output

def Good (E : Env) (w : World) (F : Foot) (upd new : List AObj) (val : AV) (r : Result Next) : Prop :=
  ∃ x w' E', (r = .ok (.value x) w' ∨ (r = .ok .skip w' ∧ x = undef)) ∧ den E' val = some x ∧ Eff E E' w w' F upd new

theorem Eff.same {E : Env} {w : World} {F : Foot} {upd : List AObj} (h : F.wr = false) (ha : F.al = []) : Eff E E w w F upd [] :=
  { le := .refl _, only := fun _ _ => rfl, wrote := fun e => by (rw [h] at e; cases e), made := fun i n o _ e => by simp at e, keep := fun _ _ _ => rfl,
    newApart := fun i j n m o o' b c b' c' e => by simp [ha] at e, grow := Nat.le_refl _, os := rfl, tape := rfl, output := rfl }

theorem Good.pure {E : Env} {w : World} {F : Foot} {upd : List AObj} {val : AV} {r : Result Next} {x : Value} (h : F.wr = false) (ha : F.al = []) (hr : r = .ok (.value x) w) (hd : den E val = some x) : Good E w F upd [] val r :=
  ⟨x, w, E, .inl hr, hd, .same h ha⟩

theorem den1 {E : Env} {v : AV} {x : Value} (h : denL E [v] = some [x]) : den E v = some x := by
  obtain ⟨y, ys, hy, _, e⟩ := denL_cons.1 h; cases e; exact hy

theorem denL_split {E : Env} {v : AV} {vs : List AV} {x : Value} {xs : List Value} (h : denL E (v :: vs) = some (x :: xs)) : den E v = some x ∧ denL E vs = some xs := by
  obtain ⟨y, ys, hy, hz, e⟩ := denL_cons.1 h; cases e; exact ⟨hy, hz⟩

variable {P : Program} {E : Env} {w : World}

theorem underlying_info {t : TypeId} {d : TypeDesc} (h : P.underlying t = some d) : ∃ i, P.info? t = some i := by
  unfold Program.underlying at h
  split at h <;> first | exact ⟨_, by assumption⟩ | cases h

theorem run_underlying' {t : TypeId} {d : TypeDesc} (h : P.underlying t = some d) : (underlying t).run P w = .ok d w := run_underlying h w

theorem run_sizeOf' {t : TypeId} {i : TypeInfo} (h : P.info? t = some i) : (sizeOf t).run P w = .ok (P.cellsOf t) w := by
  simp [sizeOf, typeInfo, h, Program.cellsOf]

theorem run_isAgg' {t : TypeId} {d : TypeDesc} (h : P.underlying t = some d) : (isAgg t).run P w = .ok (isAggD d) w := by
  simp only [isAgg, Sem.run_bind, run_underlying' h, Result.andThen_ok]
  cases d <;> rfl

theorem good_move {x : Operand} {ρ : Operand → Value} {o : Oper} (ho : o.op = .move x ∨ o.op = .assign x) {v : AV} {h : Hint} {F : Foot} (hF : F = .no) (hv : den E v = some (ρ x)) (k : AllP (fin h [] v).obl) :
    Good E w F (fin h [] v).upd (fin h [] v).new (fin h [] v).val ((execOp ρ o).run P w) := by
  obtain ⟨_, e1, e2, e3⟩ := fin_spec k
  rw [e1, e3]
  refine Good.pure (by rw [hF]; rfl) (by rw [hF]; rfl) ?_ hv
  rcases ho with ho | ho <;> simp [execOp, ho]

theorem intBin_run {op : BinOp} {k : IntKind} {x y : Int} {t : TypeId} {ob : List Prop} {v : AV} (h : intBin op k x y = some (ob, v)) (hob : AllP ob) :
    ∃ z, (binOp op t (.int k x) (.int k y)).run P w = .ok z w ∧ den E v = some z := by
  cases op <;> simp only [intBin, Option.some.injEq, Prod.mk.injEq, reduceCtorEq] at h <;>
    (obtain ⟨rfl, rfl⟩ := h) <;>
    (first
      | (refine ⟨_, ?_, rfl⟩; simp [binOp, Op.intArith, Op.intCmp, Op.intBits]; done)
      | (refine ⟨_, ?_, rfl⟩; have := hob.1; simp [binOp, Op.intDiv, this]; done))

theorem byteArray_toList (s : List UInt8) : (ByteArray.mk s.toArray).toList = s := by rw [ByteArray.toList_eq]

theorem strBin_run {op : BinOp} {x y : List UInt8} {t : TypeId} {ob : List Prop} {v : AV} (h : strBin op x y = some (ob, v)) (hob : AllP ob) :
    ∃ z, (binOp op t (.string ⟨x.toArray⟩) (.string ⟨y.toArray⟩)).run P w = .ok z w ∧ den E v = some z := by
  cases op <;> simp only [strBin, Option.some.injEq, Prod.mk.injEq, reduceCtorEq] at h <;>
    (obtain ⟨rfl, rfl⟩ := h) <;>
    (first
      | (refine ⟨_, ?_, rfl⟩; simp [binOp, Op.stringOp, byteArray_toList]; done)
      | (refine ⟨_, ?_, rfl⟩
         have h1 := hob.1
         have h2 : ¬ (((ByteArray.mk x.toArray).size + (ByteArray.mk y.toArray).size : Nat) : Int) > IntKind.i64.max := by
           show ¬ ((x.length + y.length : Nat) : Int) > 9223372036854775807
           omega
         have h3 : (ByteArray.mk x.toArray) ++ (ByteArray.mk y.toArray) = ByteArray.mk (x ++ y).toArray := by
           apply ByteArray.ext; simp
         simp only [binOp, Op.stringOp, if_neg h2, h3]; rfl))

theorem partA_run {t : TypeId} {cs : List AV} {xs : List Value} {off : Nat} {v : AV} (hc : denC E cs xs) (h : partA P t cs off = some v) :
    ∃ x, (part t xs.toArray off).run P w = .ok x w ∧ den E v = some x := by
  unfold partA at h
  split at h
  · rename_i d hd
    obtain ⟨i, hi⟩ := underlying_info hd
    split at h
    · rename_i ha
      cases h
      refine ⟨_, ?_, denC_agg.2 ⟨_, denC_take (denC_drop hc off) (P.cellsOf t), rfl⟩⟩
      simp only [part, Sem.run_bind, run_isAgg' hd, Result.andThen_ok, ha, if_true, run_sizeOf' hi, Sem.run_pure]
      congr 2
      simp [List.extract_eq_take_drop, List.extract_toArray]
    · rename_i ha
      obtain ⟨x, hx, hd'⟩ := denC_get hc h
      refine ⟨x, ?_, hd'⟩
      simp only [part, Sem.run_bind, run_isAgg' hd, Result.andThen_ok, ha, if_false, List.getElem?_toArray, hx, Bool.false_eq_true]
      rfl
  · cases h

theorem fieldsOf_eq {t : TypeId} {fs : Array Field} (h : P.underlying t = some (.struct fs)) : P.fieldsOf t = fs := by simp [Program.fieldsOf, h]

mutual
theorem aeq_run : ∀ (d : Nat) (D : Nat) (t : TypeId) (x y : AV) (a b : Value) (r : Bool), d ≤ D → den E x = some a → den E y = some b → aeq P d t x y = some r → (Op.equalIn D t a b).run P w = .ok r w
  | 0, D, t, x, y, a, b, r, hD, hx, hy, h => by simp [aeq] at h
  | d + 1, D, t, x, y, a, b, r, hD, hx, hy, h => by
    obtain ⟨D, rfl⟩ : ∃ D', D = D' + 1 := ⟨D - 1, by omega⟩
    simp only [aeq] at h
    split at h
    · rename_i hu; cases hx; cases hy; cases h; exact run_equalIn_bool' w D t _ _ hu
    · rename_i k' k a' k'' b' hu
      split at h
      · rename_i hk; subst hk; cases hx; cases hy; cases h; exact run_equalIn_int w D t _ _ _ _ hu
      · cases h
    · rename_i hu; cases hx; cases hy; cases h; rw [run_equalIn_string w D t _ _ hu, byteArray_toList, byteArray_toList]
    · rename_i fs xs ys hu
      split at h
      · cases h
      · rename_i hs
        obtain ⟨as, ha, rfl⟩ := denC_agg.1 hx
        obtain ⟨bs, hb, rfl⟩ := denC_agg.1 hy
        rw [run_equalIn_struct w D t _ _ (by rw [fieldsOf_eq hu]; exact hu) (by simpa using hs), fieldsOf_eq hu]
        exact aeqFields_run d D xs ys fs.toList as bs r (by omega) ha hb h
    · cases h
theorem aeqFields_run : ∀ (d : Nat) (D : Nat) (xs ys : List AV) (fs : List Field) (as bs : List Value) (r : Bool), d ≤ D → denC E xs as → denC E ys bs → aeqFields P d xs ys fs = some r → (Op.eqFields D as.toArray bs.toArray fs).run P w = .ok r w
  | 0, D, xs, ys, fs, as, bs, r, hD, ha, hb, h => by simp [aeqFields] at h
  | d + 1, D, xs, ys, [], as, bs, r, hD, ha, hb, h => by simp [aeqFields] at h; subst h; rfl
  | d + 1, D, xs, ys, f :: fs, as, bs, r, hD, ha, hb, h => by
    simp only [aeqFields] at h
    simp only [Op.eqFields]
    split at h
    · rename_i hn
      rw [if_pos hn]
      split at h
      · rename_i a b hpa hpb
        obtain ⟨x, hx, hdx⟩ := partA_run (w := w) ha hpa
        obtain ⟨y, hy, hdy⟩ := partA_run (w := w) hb hpb
        split at h
        · rename_i r1 r2 h1 h2
          cases h
          simp only [Sem.run_bind, hx, hy, Result.andThen_ok, aeq_run d D f.type a b x y r1 (by omega) hdx hdy h1, Sem.run_ite]
          have ih := aeqFields_run d D xs ys fs as bs r2 (by omega) ha hb h2
          cases r1
          · simp
          · simp [ih]
        · cases h
      · cases h
    · rename_i hn
      rw [if_neg hn]
      exact aeqFields_run d D xs ys fs as bs r (by omega) ha hb h
end

theorem eqGuard_other {op : BinOp} {t : TypeId} {x y : Operand} {a b : Value} (h : op ≠ .eql ∧ op ≠ .neq) : (eqGuard op t x y a b).run P w = .ok () w := by
  unfold eqGuard
  cases op <;> first | rfl | exact absurd rfl h.1 | exact absurd rfl h.2

theorem eqGuard_plain {op : BinOp} {t : TypeId} {x y : Operand} {a b : Value} (h1 : ¬ (a = .nilIface ∧ b = .nilIface)) (h2 : ∀ p q, ¬ (a = .agg p ∧ b = .agg q)) : (eqGuard op t x y a b).run P w = .ok () w := by
  unfold eqGuard
  cases op <;> first
    | rfl
    | (cases a <;> cases b <;> first
        | rfl
        | exact absurd ⟨rfl, rfl⟩ h1
        | exact absurd ⟨rfl, rfl⟩ (h2 _ _))

theorem eqGuard_agg {op : BinOp} {t : TypeId} {x y : Operand} {a b : Array Value} (h : P.eqGuardType P.depth t = false) : (eqGuard op t x y (.agg a) (.agg b)).run P w = .ok () w := by
  unfold eqGuard
  cases op <;> first
    | rfl
    | simp [h]

theorem ptr_den {nm off : Nat} {x : Value} (h : den E (.ptr nm off) = some x) : ∃ b c, E nm = some (b, c) ∧ x = .pointer (some ⟨b, off, none⟩) := by
  simp only [den, Option.map_eq_some_iff] at h
  obtain ⟨⟨b, c⟩, hb, rfl⟩ := h
  exact ⟨b, c, hb, rfl⟩
theorem ptrEq_run {tp te : TypeId} {x y : AV} {a b : Value} {r : Bool} (hx : den E x = some a) (hy : den E y = some b) (hp : P.underlying tp = some (.pointer te)) (hte : (P.info? te).isSome = true) (h : ptrEq x y = some r) :
    (∃ u v, a = .pointer u ∧ b = .pointer v) ∧ (binOp .eql tp a b).run P w = .ok (.bool r) w ∧ (binOp .neq tp a b).run P w = .ok (.bool (!r)) w := by
  obtain ⟨j, hj⟩ := Option.isSome_iff_exists.1 hte
  unfold ptrEq at h
  split at h
  · have ha : a = .pointer none := by simpa [den] using hx.symm
    have hb : b = .pointer none := by simpa [den] using hy.symm
    subst ha; subst hb; cases h
    have key : ∀ d : Nat, (Op.equalIn (d + 1) tp (.pointer none) (.pointer none)).run P w = .ok true w := fun d => by
      simp [Op.equalIn, run_underlying hp, sizeOf, typeInfo, hj]
    exact ⟨⟨_, _, rfl, rfl⟩, by simp [binOp, Op.equal, Op.maxDepth, key 9999], by simp [binOp, Op.equal, Op.maxDepth, key 9999]⟩
  · rename_i nm off
    obtain ⟨b', c', _, rfl⟩ := ptr_den hx
    have hb : b = .pointer none := by simpa [den] using hy.symm
    subst hb; cases h
    have key : ∀ d : Nat, (Op.equalIn (d + 1) tp (.pointer (some ⟨b', off, none⟩)) (.pointer none)).run P w = .ok false w := fun d => by
      simp [Op.equalIn, run_underlying hp, sizeOf, typeInfo, hj]
    exact ⟨⟨_, _, rfl, rfl⟩, by simp [binOp, Op.equal, Op.maxDepth, key 9999], by simp [binOp, Op.equal, Op.maxDepth, key 9999]⟩
  · rename_i nm off
    obtain ⟨b', c', _, rfl⟩ := ptr_den hy
    have ha : a = .pointer none := by simpa [den] using hx.symm
    subst ha; cases h
    have key : ∀ d : Nat, (Op.equalIn (d + 1) tp (.pointer none) (.pointer (some ⟨b', off, none⟩))).run P w = .ok false w := fun d => by
      simp [Op.equalIn, run_underlying hp, sizeOf, typeInfo, hj]
    exact ⟨⟨_, _, rfl, rfl⟩, by simp [binOp, Op.equal, Op.maxDepth, key 9999], by simp [binOp, Op.equal, Op.maxDepth, key 9999]⟩
  · split at h
    · rename_i n o m q hnm
      obtain ⟨rfl, rfl⟩ := hnm
      cases h
      obtain ⟨b1, c1, h1, rfl⟩ := ptr_den hx
      obtain ⟨b2, c2, h2, rfl⟩ := ptr_den hy
      rw [h1] at h2; cases h2
      exact ⟨⟨_, _, rfl, rfl⟩, run_eql_ptr_same w _ hp hj, Lib.run_neq_ptr_same w _ hp hj⟩
    · cases h
  · cases h

theorem binA_run {op : BinOp} {t : TypeId} {x y : AV} {a b : Value} {p q : Operand} {ob : List Prop} {v : AV} (hx : den E x = some a) (hy : den E y = some b) (h : binA P op t x y = some (ob, v)) (hob : AllP ob) :
    ∃ z, (do eqGuard op t p q a b; binOp op t a b : Sem Value).run P w = .ok z w ∧ den E v = some z := by
  unfold binA at h
  split at h
  · cases hx; cases hy; cases h
    have h0 := hob.1
    rename_i k a' k' b'
    refine ⟨_, ?_, rfl⟩
    rw [Sem.run_bind, eqGuard_other (by decide)]
    simp [binOp, Op.shift, show ¬ b' < 0 by omega]
  · cases hx; cases hy; cases h
    have h0 := hob.1
    rename_i k a' k' b'
    refine ⟨_, ?_, rfl⟩
    rw [Sem.run_bind, eqGuard_other (by decide)]
    simp [binOp, Op.shift, show ¬ b' < 0 by omega]
  · rename_i k a' k' b' _ _
    cases hx; cases hy
    split at h
    · rename_i hk; subst hk
      obtain ⟨z, hz, hd⟩ := intBin_run (P := P) (E := E) (w := w) (t := t) h hob
      exact ⟨z, by rw [Sem.run_bind, eqGuard_plain (by simp) (by simp)]; exact hz, hd⟩
    · cases h
  · rename_i a' b'
    cases hx; cases hy
    obtain ⟨z, hz, hd⟩ := strBin_run (P := P) (E := E) (w := w) (t := t) h hob
    exact ⟨z, by rw [Sem.run_bind, eqGuard_plain (by simp) (by simp)]; exact hz, hd⟩
  · split at h
    · rename_i hu; cases hx; cases hy; cases h
      refine ⟨_, ?_, rfl⟩
      rw [Sem.run_bind, eqGuard_plain (by simp) (by simp)]
      simp only [Result.andThen_ok, binOp, Op.equal, Op.maxDepth, Sem.run_bind, run_equalIn_bool' w 9999 t _ _ hu, Sem.run_pure]
    · cases h
  · split at h
    · rename_i hu; cases hx; cases hy; cases h
      refine ⟨_, ?_, rfl⟩
      rw [Sem.run_bind, eqGuard_plain (by simp) (by simp)]
      simp only [Result.andThen_ok, binOp, Op.equal, Op.maxDepth, Sem.run_bind, run_equalIn_bool' w 9999 t _ _ hu, Sem.run_pure]
    · cases h
  · split at h
    · cases h
    · rename_i hg
      simp only [Option.map_eq_some_iff, Prod.mk.injEq] at h
      obtain ⟨r, hr, rfl, rfl⟩ := h
      obtain ⟨as, ha, rfl⟩ := denC_agg.1 hx
      obtain ⟨bs, hb, rfl⟩ := denC_agg.1 hy
      refine ⟨_, ?_, rfl⟩
      rw [Sem.run_bind, eqGuard_agg (by simpa using hg)]
      simp only [Result.andThen_ok, binOp, Op.equal, Op.maxDepth, Sem.run_bind, aeq_run (w := w) 100 10000 t _ _ _ _ r (by decide) hx hy hr, Sem.run_pure]
  · split at h
    · cases h
    · rename_i hg
      simp only [Option.map_eq_some_iff, Prod.mk.injEq] at h
      obtain ⟨r, hr, rfl, rfl⟩ := h
      obtain ⟨as, ha, rfl⟩ := denC_agg.1 hx
      obtain ⟨bs, hb, rfl⟩ := denC_agg.1 hy
      refine ⟨_, ?_, rfl⟩
      rw [Sem.run_bind, eqGuard_agg (by simpa using hg)]
      simp only [Result.andThen_ok, binOp, Op.equal, Op.maxDepth, Sem.run_bind, aeq_run (w := w) 100 10000 t _ _ _ _ r (by decide) hx hy hr, Sem.run_pure]
  · split at h
    · rename_i te hp
      split at h
      · rename_i hte
        simp only [Option.map_eq_some_iff, Prod.mk.injEq] at h
        obtain ⟨r, hr, rfl, rfl⟩ := h
        obtain ⟨⟨u, v, rfl, rfl⟩, k1, k2⟩ := ptrEq_run (w := w) hx hy hp hte hr
        refine ⟨_, ?_, rfl⟩
        rw [Sem.run_bind, eqGuard_plain (by simp) (by simp)]
        exact k1
      · cases h
    · cases h
  · split at h
    · rename_i te hp
      split at h
      · rename_i hte
        simp only [Option.map_eq_some_iff, Prod.mk.injEq] at h
        obtain ⟨r, hr, rfl, rfl⟩ := h
        obtain ⟨⟨u, v, rfl, rfl⟩, k1, k2⟩ := ptrEq_run (w := w) hx hy hp hte hr
        refine ⟨_, ?_, rfl⟩
        rw [Sem.run_bind, eqGuard_plain (by simp) (by simp)]
        exact k2
      · cases h
    · cases h
  · cases h

theorem unA_run {op : UnOp} {x : AV} {a : Value} {ob : List Prop} {v : AV} (hx : den E x = some a) (h : unA op x = some (ob, v)) :
    ∃ z, (Op.unary op a).run P w = .ok z w ∧ den E v = some z := by
  unfold unA at h
  split at h
  · cases hx; cases h; exact ⟨_, rfl, rfl⟩
  · cases hx; cases h; exact ⟨_, rfl, rfl⟩
  · cases hx; cases h; exact ⟨_, rfl, rfl⟩
  · cases h

theorem convA_run {src dst : TypeId} {x : AV} {a : Value} {ob : List Prop} {v : AV} (hx : den E x = some a) (h : convA P src dst x = some (ob, v)) :
    ∃ z, (convert src dst a).run P w = .ok z w ∧ den E v = some z := by
  unfold convA at h
  split at h
  · rename_i d k k' n hs hd
    cases hx; cases h
    refine ⟨_, ?_, rfl⟩
    simp only [convert, Sem.run_bind, run_underlying' hs, run_underlying' hd, Result.andThen_ok, Conv.intToInt]
    cases d <;> simp
  · rename_i d s hs hd
    cases hx; cases h
    refine ⟨_, ?_, rfl⟩
    simp only [convert, Sem.run_bind, run_underlying' hs, run_underlying' hd, Result.andThen_ok]
    cases d <;> simp
  · rename_i d k n hs hd
    cases hx; cases h
    refine ⟨.string (Utf8.encode n), ?_, by simp [den, encL]⟩
    simp only [convert, Sem.run_bind, run_underlying' hs, run_underlying' hd, Result.andThen_ok]
    cases d <;> simp [Conv.intToString]
  · cases h

theorem isC_spec {p : Operand} (h : isC p = true) : ∃ v, p = .const v := by cases p <;> first | exact ⟨_, rfl⟩ | cases h
theorem eqIn_gen {t : TypeId} {td : TypeDesc} {a b : Value} {r : Bool} (hu : P.underlying t = some td) (h : ∀ d' : Nat, (Op.equalIn (d' + 1) t a b).run P w = .ok r w) : (Op.equal t a b).run P w = .ok r w := h 9999
theorem nilOp {op : BinOp} {t : TypeId} {a b : Value} {p q : Operand} {r : Bool} (hop : op = .eql ∨ op = .neq) (h1 : (eqGuard op t p q a b).run P w = .ok () w) (h2 : (Op.equal t a b).run P w = .ok r w) (hb : ∀ o, o = BinOp.eql ∨ o = .neq → binOp o t a b = (if o = .eql then (do pure (.bool (← Op.equal t a b))) else (do pure (.bool (!(← Op.equal t a b)))) : Sem Value)) :
    (do eqGuard op t p q a b; binOp op t a b : Sem Value).run P w = .ok (.bool (if op = .eql then r else !r)) w := by
  rw [Sem.run_bind, h1, Result.andThen_ok, hb op hop]
  rcases hop with rfl | rfl
  · simp only [if_true, Sem.run_bind, h2, Result.andThen_ok, Sem.run_pure]
  · simp only [reduceCtorEq, if_false, Sem.run_bind, h2, Result.andThen_ok, Sem.run_pure]
theorem nilEq_run {t : TypeId} {x y : AV} {a b : Value} {p q : Operand} {r : Bool} {op : BinOp} (hop : op = .eql ∨ op = .neq) (hx : den E x = some a) (hy : den E y = some b) (h : nilEq P t (isC p || isC q) x y = some r) :
    (do eqGuard op t p q a b; binOp op t a b : Sem Value).run P w = .ok (.bool (if op = .eql then r else !r)) w := by
  unfold nilEq at h
  split at h
  · rename_i hu
    split at h
    · rename_i hc
      cases h
      cases hx; cases hy
      refine nilOp hop ?_ (eqIn_gen hu fun d => ?_) ?_
      · simp only [Bool.or_eq_true] at hc
        rcases hc with hc | hc
        · obtain ⟨v, rfl⟩ := isC_spec hc
          rcases hop with rfl | rfl <;> rfl
        · obtain ⟨v, rfl⟩ := isC_spec hc
          rcases hop with rfl | rfl <;> cases p <;> rfl
      · simp only [Op.equalIn, Sem.run_bind, run_underlying' hu, Result.andThen_ok, Sem.run_pure]
      · rintro o (rfl | rfl) <;> rfl
    · cases h
  · rename_i ms t' v hu
    cases h
    cases hx
    simp only [den, Option.map_eq_some_iff] at hy
    obtain ⟨z, hz, rfl⟩ := hy
    refine nilOp hop (eqGuard_plain (by simp) (by simp)) (eqIn_gen hu fun d => ?_) ?_
    · simp only [Op.equalIn, Sem.run_bind, run_underlying' hu, Result.andThen_ok, Sem.run_pure]
    · rintro o (rfl | rfl) <;> rfl
  · rename_i ms t' v hu
    cases h
    cases hy
    simp only [den, Option.map_eq_some_iff] at hx
    obtain ⟨z, hz, rfl⟩ := hx
    refine nilOp hop (eqGuard_plain (by simp) (by simp)) (eqIn_gen hu fun d => ?_) ?_
    · simp only [Op.equalIn, Sem.run_bind, run_underlying' hu, Result.andThen_ok, Sem.run_pure]
    · rintro o (rfl | rfl) <;> rfl
  · rename_i e hu
    cases h; cases hx; cases hy
    refine nilOp hop (eqGuard_plain (by simp) (by simp)) (eqIn_gen hu fun d => ?_) ?_
    · simp only [Op.equalIn, Sem.run_bind, run_underlying' hu, Result.andThen_ok, Sem.run_pure, Option.isNone_none]
    · rintro o (rfl | rfl) <;> rfl
  · rename_i e nm l hu
    cases h; cases hy
    simp only [den, Option.bind_eq_some_iff] at hx
    obtain ⟨pp, hp, hq⟩ := hx
    split at hq
    · cases hq
      refine nilOp hop (eqGuard_plain (by simp) (by simp)) (eqIn_gen hu fun d => ?_) ?_
      · simp only [Op.equalIn, Sem.run_bind, run_underlying' hu, Result.andThen_ok, Sem.run_pure]
      · rintro o (rfl | rfl) <;> rfl
    · cases hq
  · rename_i e nm off l c hu
    cases h; cases hy
    simp only [den, Option.map_eq_some_iff] at hx
    obtain ⟨pp, hp, rfl⟩ := hx
    refine nilOp hop (eqGuard_plain (by simp) (by simp)) (eqIn_gen hu fun d => ?_) ?_
    · simp only [Op.equalIn, Sem.run_bind, run_underlying' hu, Result.andThen_ok, Sem.run_pure]
    · rintro o (rfl | rfl) <;> rfl
  · rename_i hu
    cases h; cases hx; cases hy
    refine nilOp hop (eqGuard_plain (by simp) (by simp)) (eqIn_gen hu fun d => ?_) ?_
    · simp only [Op.equalIn, Sem.run_bind, run_underlying' hu, Result.andThen_ok, Sem.run_pure]
    · rintro o (rfl | rfl) <;> rfl
  · rename_i f as cs hu
    cases h; cases hy
    simp only [den] at hx
    split at hx
    · cases hx
      refine nilOp hop (eqGuard_plain (by simp) (by simp)) (eqIn_gen hu fun d => ?_) ?_
      · simp only [Op.equalIn, Sem.run_bind, run_underlying' hu, Result.andThen_ok, Sem.run_pure]
      · rintro o (rfl | rfl) <;> rfl
    · cases hx
  · cases h

end Go.Proofs.YtpdhfopfjoinnaaDoor.Sx
