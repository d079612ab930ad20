/- The symbolic executor, part I: what grows, and slices made of parts: they are sound. -/
import Derived.Test.YtebieapmoaaahaaGreatDoorGr00
import Derived.Lib.ConvBytes
import Derived.Laws.BytesString
import Derived.Lib.UnsafeStr
set_option linter.unusedSimpArgs false
namespace Go.Proofs.YtebieapmoaaahaaGreatDoor.Sx
open Go

variable {P : Program} {E : Env} {w : World}

theorem good_buildSlice {o : Oper} {ρ : Operand → Value} {t e : TypeId} {len : Nat} {ps : Array (Nat × Operand)} {vs : List AV} {h : Hint} {k : Nat} {ie : TypeInfo} {z : AV} {ob : List Prop} {c : List AV} {r : Res} (ho : o.op = .buildSlice t len ps)
    (hv : denL E vs = some (ps.toList.map fun p => ρ p.2)) (hu : P.underlying t = some (.slice e)) (hi : P.info? e = some ie) (hz : zeroA P e = some z) (hps : ps.size = vs.length) (h1 : 0 < len) (h0 : 0 < ie.size) (h2 : len * ie.size ≤ 16777216)
    (hn' : ((partsA ps.toList vs).all fun p => p.2.notTuple) = true) (hl : z.cells.length = ie.size) (hn : z.notTuple = true) (hk : E k = none)
    (hf : fillA (fun i => some (i * ie.size, ie.size)) (List.replicate len z.cells).flatten (partsA ps.toList vs) = some (ob, c)) (hr : r = newA h ob (.slice k 0 len len) (.cells c e)) (kk : AllP r.obl) :
    Good E w ⟨[], [], [k]⟩ r.upd r.new r.val ((execOp ρ o).run P w) := by
  subst hr
  refine good_new kk fun hob => ?_
  obtain ⟨x, hx, hd⟩ := run_zeroValue (w := w) (E := E) hz
  obtain ⟨zs, hzs, hze⟩ := notTuple_cells hn hd
  have hzl : zs.length = ie.size := (denC_length hzs).trans hl
  have hsz : P.cellsOf e = ie.size := by simp [Program.cellsOf, hi]
  obtain ⟨p1, p2⟩ := partsA_spec (E := E) (ρ := ρ) ps.toList vs (by simpa using hps) hv
  obtain ⟨ys, hy, hdy⟩ := fillA_run (partsA ps.toList vs) (ps.toList.map fun p => (p.1, ρ p.2)) _ _ _ _ (denC_flat hzs len) hf hob hn' (by rw [p1]; simp) (by rw [p2]; simp)
  refine good_slice hk hdy ?_
  have hrange : (Array.range (len * ie.size)).map (fun x => zs.toArray[x % zs.toArray.size]!) = ((List.replicate len zs).flatten).toArray := by
    have := range_mod zs len
    rw [hzl] at this
    rw [← this]
    apply Array.ext'
    rw [Array.toList_map, Array.toList_range]
  have hne : ¬ len * ie.size = 0 := by
    intro hh; rcases Nat.mul_eq_zero.1 hh with h | h <;> omega
  have hy' : Instr.fill (fun i => some (i * ie.size, ie.size)) ((List.replicate len zs).flatten).toArray (ps.map fun (i, x) => (i, ρ x)).toList = some ys.toArray := by
    rw [← hy]; congr 1; simp
  simp only [execOp, ho, Instr.buildSlice, Sem.run_bind, run_underlying' hu, Result.andThen_ok, run_sizeOf' hi, hsz]
  rw [if_neg (by omega)]
  simp only [Sem.run_bind, Sem.run_pure, Result.andThen_ok]
  rw [if_neg hne]
  simp only [Sem.run_bind, hx, Result.andThen_ok, Sem.run_pure, hze, hrange, hy', newRow, run_newObj]

theorem good_buildVec {o : Oper} {ρ : Operand → Value} {t e : TypeId} {len : Nat} {ps : Array (Nat × Operand)} {vs : List AV} {h : Hint} {k : Nat} {ie : TypeInfo} {z : AV} {ob : List Prop} {c : List AV} {r : Res} (ho : o.op = .buildSlice t len ps)
    (hv : denL E vs = some (ps.toList.map fun p => ρ p.2)) (hu : P.underlying t = some (.slice e)) (hi : P.info? e = some ie) (hz : zeroA P e = some z) (hps : ps.size = vs.length) (h1 : 0 < len) (h0 : 0 < ie.size) (h2 : len * ie.size ≤ 16777216)
    (hn' : ((partsA ps.toList vs).all fun p => p.2.notTuple) = true) (hl : z.cells.length = ie.size) (hn : z.notTuple = true) (hk : E k = none)
    (hf : fillA (fun i => some (i * ie.size, ie.size)) (List.replicate len z.cells).flatten (partsA ps.toList vs) = some (ob, c)) (hr : r = newA h (ob ++ [c.length = len * ie.size]) (.vec k len) (.vec c e ie.size)) (kk : AllP r.obl) :
    Good E w ⟨[], [], [k]⟩ r.upd r.new r.val ((execOp ρ o).run P w) := by
  subst hr
  refine good_new kk fun hob => ?_
  obtain ⟨hob, hcl, _⟩ := allP_append.1 hob
  obtain ⟨x, hx, hd⟩ := run_zeroValue (w := w) (E := E) hz
  obtain ⟨zs, hzs, hze⟩ := notTuple_cells hn hd
  have hzl : zs.length = ie.size := (denC_length hzs).trans hl
  have hsz : P.cellsOf e = ie.size := by simp [Program.cellsOf, hi]
  obtain ⟨p1, p2⟩ := partsA_spec (E := E) (ρ := ρ) ps.toList vs (by simpa using hps) hv
  obtain ⟨ys, hy, hdy⟩ := fillA_run (partsA ps.toList vs) (ps.toList.map fun p => (p.1, ρ p.2)) _ _ _ _ (denC_flat hzs len) hf hob hn' (by rw [p1]; simp) (by rw [p2]; simp)
  refine good_vec hk hdy hcl ?_
  have hrange : (Array.range (len * ie.size)).map (fun x => zs.toArray[x % zs.toArray.size]!) = ((List.replicate len zs).flatten).toArray := by
    have := range_mod zs len
    rw [hzl] at this
    rw [← this]
    apply Array.ext'
    rw [Array.toList_map, Array.toList_range]
  have hne : ¬ len * ie.size = 0 := by
    intro hh; rcases Nat.mul_eq_zero.1 hh with h | h <;> omega
  have hy' : Instr.fill (fun i => some (i * ie.size, ie.size)) ((List.replicate len zs).flatten).toArray (ps.map fun (i, x) => (i, ρ x)).toList = some ys.toArray := by
    rw [← hy]; congr 1; simp
  simp only [execOp, ho, Instr.buildSlice, Sem.run_bind, run_underlying' hu, Result.andThen_ok, run_sizeOf' hi, hsz]
  rw [if_neg (by omega)]
  simp only [Sem.run_bind, Sem.run_pure, Result.andThen_ok]
  rw [if_neg hne]
  simp only [Sem.run_bind, hx, Result.andThen_ok, Sem.run_pure, hze, hrange, hy', newRow, run_newObj]

theorem elemsA_run {sz : Nat} {x : AV} {X : Value} {cs : List AObj} {ob : List Prop} {n : Nat} {new : List AV} (h : elemsA sz x cs = some (ob, n, new)) (hob : AllP ob) (hx : den E x = some X)
    (hc : ∀ (i nm : Nat) (o : AObj), x.name[i]? = some nm → cs[i]? = some o → ∃ b c, E nm = some (b, c) ∧ ObjR E w b c o) :
    ∃ xs, denC E new xs ∧ new.length = n * sz ∧ ∀ w' : World, w'.heap = w.heap → (Builtin.lenOf X).run P w' = .ok n w' ∧ (Builtin.firstCells sz n X).run P w' = .ok xs.toArray w' := by
  unfold elemsA at h
  split at h
  · cases h; cases hx
    exact ⟨[], ⟨rfl, rfl⟩, by simp, fun w' _ => ⟨rfl, rfl⟩⟩
  · rename_i s
    cases h; cases hx
    have h1 := hob.1
    subst h1
    refine ⟨s.map fun b => .int .u8 b.toNat, ⟨?_, ?_⟩, by simp [u8s], fun w' _ => ⟨?_, ?_⟩⟩
    · clear hob
      induction s with
      | nil => rfl
      | cons b s ih => simp only [u8s, List.map_cons]; exact denL_cons.2 ⟨_, _, rfl, ih (fun i nm o hi => by simp [AV.name] at hi), rfl⟩
    · simp [allOne, Value.oneCell']
    · rfl
    · simp only [Builtin.firstCells, Sem.run_pure]
      congr 1
      have e1 : ((ByteArray.mk s.toArray).extract 0 s.length).data = s.toArray := by
        simp only [ByteArray.data_extract]
        simp
      rw [e1]; simp
  · rename_i nm off len cap o
    obtain ⟨b, c, hb, rfl⟩ := slice_den hx
    split at h
    · rename_i o0 c' hk
      cases h
      obtain ⟨h1, h2, _⟩ := hob
      obtain ⟨b', c'', hb', hob'⟩ := hc 0 nm o rfl rfl
      rw [hb] at hb'; cases hb'
      obtain ⟨xs, hxs, hw⟩ := hob'.window hk
      have hl := denC_length hxs
      refine ⟨(xs.drop (off - o0)).take (n * sz), denC_take (denC_drop hxs _) _, by simp; omega, fun w' hw' => ⟨rfl, ?_⟩⟩
      have hwin : ∀ (i : Nat) x, xs[i]? = some x → w'.cell? ⟨b, o0 + i, none⟩ = some x := fun i x hi => by
        rw [← hw i x hi]; simp only [World.cell?, hw']
      have := run_window_cells (P := P) (n := n * sz) hwin h1 (by omega)
      simp only [Builtin.firstCells, this]
    · cases h
  · rename_i nm len o
    obtain ⟨b, c, hb, rfl⟩ := vec_den hx
    split at h
    · rename_i o0 c' hk
      cases h
      obtain ⟨h1, h2, _⟩ := hob
      subst h1
      obtain ⟨b', c'', hb', hob'⟩ := hc 0 nm o rfl rfl
      rw [hb] at hb'; cases hb'
      obtain ⟨xs, hxs, hw⟩ := hob'.window hk
      have hl := denC_length hxs
      refine ⟨xs.take (n * sz), denC_take hxs _, by simp; omega, fun w' hw' => ⟨rfl, ?_⟩⟩
      have hwin : ∀ (i : Nat) x, xs[i]? = some x → w'.cell? ⟨b, 0 + i, none⟩ = some x := fun i x hi => by
        rw [← hw i x hi]; simp only [World.cell?, hw']
      have := run_window_cells (P := P) (n := n * sz) hwin (Nat.le_refl 0) (by omega)
      simpa [Builtin.firstCells] using this
    · cases h
  · rename_i nm n' o
    split at h
    · rename_i c hkn
      cases h
      obtain ⟨h1, _⟩ := hob
      obtain ⟨b, k, hb, ho⟩ := hc 0 nm o rfl rfl
      obtain ⟨b', k', hb', hx⟩ := dsl_den hx
      rw [hb] at hb'; cases hb'
      rcases hx with ⟨hk, h0, rfl⟩ | ⟨hk, hle, rfl⟩
      · subst h0
        exact ⟨[], by rw [Nat.zero_mul]; exact ⟨rfl, rfl⟩, by simp, fun w' hw' => ⟨rfl, by simp [Builtin.firstCells]⟩⟩
      obtain ⟨xs, hxs, hwin⟩ := ho.windowD hkn hk
      have hl := denC_length hxs
      refine ⟨xs.take (n * sz), denC_take hxs _, by simp; omega, fun w' hw' => ?_⟩
      refine ⟨rfl, ?_⟩
      have hwin' : ∀ (i : Nat) x, xs[i]? = some x → w'.cell? ⟨b, k.o + i, none⟩ = some x := fun i x hi => by
        rw [← hwin i x hi]; simp only [World.cell?, hw']
      have := run_window_cells (P := P) (n := n * sz) (off := k.o) hwin' (Nat.le_refl _) (by omega)
      simpa [Builtin.firstCells] using this
    · cases h
  · cases h

theorem cap_le {a sp : List Value} {n nc sz : Nat} (h0 : 0 < sz) (ha : a.length = n * sz) (h : (a ++ sp).length = nc * sz) : n ≤ nc := by
  have : n * sz ≤ nc * sz := by rw [← h, List.length_append]; omega
  exact Nat.le_of_mul_le_mul_right this h0
theorem vec_made {E : Env} {k b l : Nat} {c : Cap} (hz : c.z = false) (ho : c.o = 0) (h : l ≤ c.n) : den (E.set k (b, c)) (.vec k l) = some (.slice (some ⟨b, 0, none⟩) l c.n) := by
  simp only [den, Env.set_same, Option.bind_some]
  rw [if_pos ⟨hz, ho, h⟩]
theorem growBy_le (newLen : Nat) : ∀ (r c : Nat), c ≤ newLen + (newLen + 768) / 4 → Builtin.growBy newLen r c ≤ newLen + (newLen + 768) / 4
  | 0, c, h => h
  | r + 1, c, h => by
    unfold Builtin.growBy
    split
    · exact h
    · exact growBy_le newLen r _ (by omega)

theorem nextcap_le {need cap : Nat} (h : cap < need) : Builtin.nextslicecap need cap ≤ 2 * need := by
  unfold Builtin.nextslicecap
  split
  · omega
  · split
    · omega
    · have := growBy_le need 4 cap (by omega); omega

/-- An append that finds no room. -/
theorem run_append_grow {elem t0 t1 : TypeId} {tx : TypeDesc} {c : Call} {ie : TypeInfo} {X Z : Value} {base : Option Addr} {len cap n : Nat} {olds news zs : List Value} {ty : TypeId} (h0 : c.argTypes[0]? = some t0) (h1 : c.argTypes[1]? = some t1)
    (hu0 : P.underlying t0 = some (.slice elem)) (hu1 : P.underlying t1 = some tx) (htx : ∀ k, tx ≠ .int k) (hi : P.info? elem = some ie) (hz : ∀ w', (zeroValue elem).run P w' = .ok Z w') (hze : Z.cells = zs.toArray) (hzl : zs.length = ie.size)
    (hold : ∀ w' : World, w'.heap = w.heap → (Builtin.firstCells ie.size len (.slice base len cap)).run P w' = .ok olds.toArray w') (hol : olds.length = len * ie.size)
    (hnew : ∀ w' : World, w'.heap = w.heap → (Builtin.lenOf X).run P w' = .ok n w' ∧ (Builtin.firstCells ie.size n X).run P w' = .ok news.toArray w') (hnl : news.length = n * ie.size)
    (hroom : cap < len + n) (hb : 2 * (len + n) * ie.bytes ≤ 281474976710656) (hm : 2 * (len + n) < 9223372036854775808) :
    ∃ nc spare w', (Builtin.append_ c.argTypes ty #[.slice base len cap, X]).run P w = .ok (.slice (some ⟨w.heap.size, 0, none⟩) (len + n) nc) w' ∧ w'.heap = w.heap.push (.cells (olds ++ news ++ spare).toArray elem) ∧
      (olds ++ news ++ spare).length = nc * ie.size ∧ w'.os = w.os ∧ w'.tape = w.tape ∧ w'.output = w.output := by
  have hsz : P.cellsOf elem = ie.size := by simp [Program.cellsOf, hi]
  have hcap : ¬ Builtin.nextslicecap (len + n) cap * ie.bytes > 2 ^ 48 := by
    have h1 := nextcap_le hroom
    have h2 := Nat.mul_le_mul_right ie.bytes h1
    show ¬ _ > 281474976710656
    omega
  have hbig : ¬ ((((len + n : Nat) : Int) > IntKind.i64.max) ∧ (false = true ∨ ie.bytes = 0)) := by
    rintro ⟨hh, _⟩
    have : IntKind.i64.max = 9223372036854775807 := by decide
    omega
  let q := Question.appendCap (len + n) cap elem
  let nc := q.cut (w.tape w.drawn q)
  have hnc : len + n ≤ nc := by
    show len + n ≤ (len + n) + _ % _
    omega
  let w1 : World := { w with drawn := w.drawn + 1 }
  obtain ⟨hn1, _⟩ := hnew w rfl
  obtain ⟨_, hn2⟩ := hnew w1 rfl
  have ho2 := hold w1 rfl
  let spare := (Builtin.zeroCells zs.toArray (nc - (len + n))).toList
  have hspl : spare.length = (nc - (len + n)) * ie.size := by simp [spare, Builtin.zeroCells, hzl]
  refine ⟨nc, spare, { w1 with heap := w1.heap.push (.cells (olds ++ news ++ spare).toArray elem) }, ?_, rfl, ?_, rfl, rfl, rfl⟩
  · have hmi : (match tx with | .int _ => true | _ => false) = false := by
      cases tx <;> first | rfl | exact absurd rfl (htx _)
    have hforced : q.forced = false := rfl
    have earr : olds.toArray ++ news.toArray ++ Builtin.zeroCells zs.toArray (nc - (len + n)) = (olds ++ news ++ spare).toArray := by
      apply Array.ext'; simp [spare]
    simp only [Builtin.append_, h0, h1, List.getElem?_toArray, List.getElem?_cons_zero, List.getElem?_cons_succ, Sem.run_bind, run_underlying' hu0, Result.andThen_ok, run_sizeOf' hi, run_underlying' hu1, Sem.run_pure]
    rw [if_neg (by decide)]
    simp only [Sem.run_bind, hn1, Result.andThen_ok]
    rw [if_neg (by omega)]
    simp only [Sem.run_bind, typeInfo, run_program, Result.andThen_ok, hi, Sem.run_pure]
    rw [if_neg hbig]
    simp only [Sem.run_bind, Sem.run_pure, run_program, Result.andThen_ok, hi]
    rw [if_neg hcap]
    have hch : (choose (Question.appendCap (len + n) cap elem)).run P w = .ok nc w1 := by
      rw [run_choose]; rfl
    simp only [Sem.run_bind, Sem.run_pure, run_program, Result.andThen_ok, hi, hch, run_askRoom, hsz, ho2, Bool.not_false, if_true, hn2, hz, hze, earr, newRow, run_newObj]
    rfl
  · simp only [List.length_append, hspl, hol, hnl]
    rw [← Nat.add_mul, ← Nat.add_mul]; congr 1; omega

/-- An append that finds room. -/
theorem run_append_room {elem t0 t1 : TypeId} {tx : TypeDesc} {c : Call} {ie : TypeInfo} {X : Value} {b len cap n : Nat} {cells news : List Value} {ty te : TypeId} (h0 : c.argTypes[0]? = some t0) (h1 : c.argTypes[1]? = some t1)
    (hu0 : P.underlying t0 = some (.slice elem)) (hu1 : P.underlying t1 = some tx) (htx : ∀ k, tx ≠ .int k) (hi : P.info? elem = some ie)
    {mk : Nat × Nat} (hw : w.heap[b]? = some (.cells cells.toArray te mk)) (hmk : okM mk cells.length)
    (hnew : (Builtin.lenOf X).run P w = .ok n w ∧ (Builtin.firstCells ie.size n X).run P w = .ok news.toArray w) (hnl : news.length = n * ie.size) (hone : allOne news = true)
    (hroom : len + n ≤ cap) (hcl : cells.length = cap * ie.size) :
    ∃ w', (Builtin.append_ c.argTypes ty #[.slice (some ⟨b, 0, none⟩) len cap, X]).run P w = .ok (.slice (some ⟨b, 0, none⟩) (len + n) cap) w' ∧ w'.heap[b]? = some (.cells (over cells (len * ie.size) news).toArray te mk) ∧ Upd b w w' := by
  have hsz : P.cellsOf elem = ie.size := by simp [Program.cellsOf, hi]
  have hle : len * ie.size + n * ie.size ≤ cap * ie.size := by
    rw [← Nat.add_mul]; exact Nat.mul_le_mul_right _ hroom
  obtain ⟨w', hr, hw', hu⟩ := run_storeCells (P := P) news cells (len * ie.size) 0 w hw hmk (by omega) hone
  refine ⟨w', ?_, by simpa using hw', hu⟩
  simp only [Builtin.append_, h0, h1, List.getElem?_toArray, List.getElem?_cons_zero, List.getElem?_cons_succ, Sem.run_bind, run_underlying' hu0, Result.andThen_ok, run_sizeOf' hi, run_underlying' hu1, Sem.run_pure]
  have hmi : (match tx with | .int _ => true | _ => false) = false := by
    cases tx <;> first | rfl | exact absurd rfl (htx _)
  rw [if_neg (by decide)]
  simp only [Sem.run_bind, hnew.1, Result.andThen_ok]
  rw [if_pos hroom]
  simp only [Sem.run_bind, Bool.not_false, if_true, hsz, hnew.2, Result.andThen_ok, Addr.add_none, Nat.zero_add, hr, Sem.run_pure]

theorem execOp_append {o : Oper} {ρ : Operand → Value} {c : Call} {p q : Operand} {v : Value} {w' : World} (ho : o.op = .call c) (hc : c.callee = .builtin .append) (ha : c.args.toList = [p, q])
    (h : (Builtin.append_ c.argTypes o.type #[ρ p, ρ q]).run P w = .ok v w') : (execOp ρ o).run P w = .ok (.value v) w' := by
  have ha' : c.args = #[p, q] := by
    cases hh : c.args with | mk l => rw [hh] at ha; simp at ha; rw [ha]
  simp only [execOp, ho, resolve, hc, ha', Sem.run_bind, Sem.run_pure, Result.andThen_ok, invoke, builtin]
  simp [h]

theorem good_append {o : Oper} {ρ : Operand → Value} {c : Call} {p q : Operand} {h : Hint} {s x : AV} {cs : List AObj} {r : Res} {F : Foot} (ho : o.op = .call c) (hcal : c.callee = .builtin .append) (ha : c.args.toList = [p, q])
    (hs : den E s = some (ρ p)) (hx : den E x = some (ρ q)) (hF : F = ⟨s.name ++ x.name, if s.isVec then s.name else [], h.nm⟩) (hp : Pre E w F cs) (hr : appendA P h c s x cs = some r) (kk : AllP r.obl) :
    Good E w F r.upd r.new r.val ((execOp ρ o).run P w) := by
  unfold appendA at hr
  split at hr
  · rename_i e tx k he htx hnm
    simp only [Option.bind_eq_some_iff] at he htx
    obtain ⟨t0, h0, hu0⟩ := he
    obtain ⟨t1, h1, hu1⟩ := htx
    split at hr
    · cases hr
    · rename_i hnint
      have htx : ∀ k, tx ≠ .int k := fun k e => hnint (by rw [e]; rfl)
      split at hr
      rotate_left
      · cases hr
      rename_i ie z hi hz
      split at hr
      · cases hr
      · rename_i hcond
        simp only [Bool.not_eq_true', Bool.not_eq_false, Bool.and_eq_true, beq_iff_eq, decide_eq_true_eq] at hcond
        obtain ⟨⟨hn, hl⟩, hsz⟩ := hcond
        obtain ⟨Z, _, hd⟩ := run_zeroValue (w := w) (E := E) hz
        have hZ : ∀ w', (zeroValue e).run P w' = .ok Z w' := fun w' => by
          obtain ⟨Z', hZ', hd'⟩ := run_zeroValue (w := w') (E := E) hz
          rw [hd] at hd'; cases hd'; exact hZ'
        obtain ⟨zs, hzs, hze⟩ := notTuple_cells hn hd
        have hzl : zs.length = ie.size := (denC_length hzs).trans hl
        have hEk : E k = none := hp.fresh k (by rw [hF, hnm]; simp)
        split at hr
        · -- nothing yet
          split at hr
          · rename_i ob n new hel
            cases hr
            obtain ⟨g1, g2, g3, g4⟩ := grow_cases kk
            obtain ⟨hob, h4, h5, h6, _⟩ := allP_append.1 g1 |>.imp id id
            obtain ⟨xs, hxs, hxl, hrun⟩ := elemsA_run (w := w) hel hob hx (fun i nm o hi' ho' => hp.objs i nm o (by rw [hF]; simpa [AV.name] using hi') ho')
            have hxsl : xs.length = n * ie.size := (denC_length hxs).trans hxl
            obtain ⟨nc, spare, w', hr', hheap, hlen, hos, ht, hout⟩ := run_append_grow (w := w) (base := none) (len := 0) (cap := 0) (olds := []) (ty := o.type) h0 h1 hu0 hu1 htx hi hZ hze hzl (fun w' _ => rfl) (by simp) hrun hxsl (by omega) (by simpa using h5) (by simpa using h6)
            have hp0 : ρ p = .slice none 0 0 := by simpa [den] using hs.symm
            rw [g2, g3, g4]
            refine ⟨_, w', E.set k (w.heap.size, { n := nc }), .inl (execOp_append ho hcal ha (by rw [hp0]; exact hr')), by rw [Nat.zero_add]; exact vec_made rfl rfl (cap_le hsz (a := [] ++ xs) (by simpa using hxsl) hlen), ?_⟩
            rw [hF, hnm]
            refine .push hheap hos ht hout hEk ⟨xs, spare, denC_mono (.set hEk) hxs, ⟨(0, 0), by simpa using push_new hheap, .inl rfl⟩, by simpa using hlen, rfl, rfl⟩ (fun e => absurd rfl e)
          · cases hr
        · -- what grows already
          rename_i nm len old te sz cx
          split at hr
          · cases hr
          rename_i hte
          have hte : te = e := by simpa using hte
          subst hte
          split at hr
          · rename_i hsze
            have hsze : sz = ie.size := by simpa using hsze
            subst hsze
            split at hr
            · rename_i ob n new hel
              cases hr
              obtain ⟨g1, g2, g3, g4⟩ := grow_cases kk
              obtain ⟨hob, h4, h5, h6, _⟩ := allP_append.1 g1 |>.imp id id
              obtain ⟨b, c', hb, hpx⟩ := vec_den hs
              have hrd : F.rd = nm :: x.name := by rw [hF]; rfl
              have hwr : F.wr = true := by rw [hF]; rfl
              obtain ⟨b', c'', hb', hobj⟩ := hp.objs 0 nm (.vec old te ie.size) (by rw [hrd]; rfl) rfl
              rw [hb] at hb'; cases hb'
              obtain ⟨os, ys, hos, ⟨mk, hwo, hmk⟩, hlo, hoz⟩ := hobj
              have hosl : os.length = len * ie.size := (denC_length hos).trans h4
              obtain ⟨xs, hxs, hxl, hrun⟩ := elemsA_run (w := w) hel hob hx (fun i m o hi' ho' => hp.objs (i + 1) m o (by rw [hrd]; simpa using hi') (by simpa using ho'))
              have hxsl : xs.length = n * ie.size := (denC_length hxs).trans hxl
              have hdead : ∀ (i n : Nat) (o : AObj), F.rd[i]? = some n → (AObj.dead :: cx)[i]? = some o → ∃ b c, E n = some (b, c) ∧ ObjR E w b c o := fun i m o h1 h2 => by
                cases i with
                | zero => rw [hrd] at h1; simp at h1 h2; subst h1; subst h2; exact ⟨_, _, hb, trivial⟩
                | succ i => exact hp.objs (i + 1) m o h1 (by simpa using h2)
              rw [g2, g3, g4]
              by_cases hroom : len + n ≤ c'.n
              · obtain ⟨w', hr', hw', hu⟩ := run_append_room (w := w) (ty := o.type) h0 h1 hu0 hu1 htx hi hwo hmk (hrun w rfl) hxsl hxs.2 hroom hlo
                refine ⟨_, w', E.set k (b, c'), .inl (execOp_append ho hcal ha (by rw [hpx]; exact hr')), vec_made hoz.2 hoz.1 hroom, ?_⟩
                have hle : len * ie.size + n * ie.size ≤ c'.n * ie.size := by rw [← Nat.add_mul]; exact Nat.mul_le_mul_right _ hroom
                have hyl : n * ie.size ≤ ys.length := by simp at hlo; omega
                have hov : over (os ++ ys) (len * ie.size) xs = os ++ xs ++ ys.drop (n * ie.size) := by
                  rw [over_eq _ _ _ (by simp; omega), hxsl, ← hosl, List.take_left, List.drop_append]
                  simp
                exact {
                  le := .set hEk
                  only := fun m hm => Env.set_other E _ (by rw [hF, hnm] at hm; simpa using hm)
                  wrote := fun _ i m o h1 h2 => by
                    cases i with
                    | zero => rw [hrd] at h1; simp at h1 h2; subst h1; subst h2; exact ⟨_, _, hb, trivial⟩
                    | succ i =>
                      have h2' : cx[i]? = some o := by simpa using h2
                      obtain ⟨b2, c2, hb2, ho2⟩ := hp.objs (i + 1) m o h1 (by simpa using h2)
                      refine ⟨b2, c2, hb2, ?_⟩
                      cases hl2 : o.live with
                      | false => cases o <;> simp [AObj.live] at hl2; trivial
                      | true =>
                        have hne : nm ≠ m := by
                          have := hp.rdNodup hwr
                          rw [hrd] at this h1
                          rintro rfl
                          exact (List.nodup_cons.1 this).1 (List.mem_of_getElem? (by simpa using h1))
                        have := hp.apart 0 (i + 1) nm m (.vec old te ie.size) o b c' b2 c2 (by rw [hrd]; rfl) h1 rfl (by simpa using h2) rfl hl2 hb hb2 hne
                        exact (ho2.block fun _ ht => hu.keep b2 (fun e => this (e ▸ ht))).mono (.set hEk)
                  made := fun i m o h1 h2 => by
                    rw [hF, hnm] at h1
                    cases i with
                    | succ i => simp at h1
                    | zero =>
                      simp at h1 h2; subst h1; subst h2
                      refine ⟨_, _, Env.set_same E _ _, ⟨os ++ xs, ys.drop (n * ie.size), denC_append (denC_mono (.set hEk) hos) (denC_mono (.set hEk) hxs), ⟨mk, by rw [hw', hov], by rw [← hov, over_length]; exact hmk⟩, ?_, hoz⟩, fun _ => .inr ⟨hwr, 0, nm, c', by rw [hrd]; rfl, rfl, hb⟩⟩
                      rw [← hlo]; simp [hxsl]; omega
                  keep := fun j hj hne => hu.keep j (by rintro rfl; exact hne nm (by rw [hF]; simp [AV.isVec, AV.name]) c' hb)
                  newApart := fun i j n m o1 o2 b c b' c' h1 h2 _ _ _ _ _ _ hne => by
                    rw [hF, hnm] at h1 h2
                    cases i with
                    | zero => cases j with
                      | zero => exact absurd rfl hne
                      | succ j => simp at h2
                    | succ i => simp at h1
                  grow := by rw [hu.size]; exact Nat.le_refl _
                  os := hu.os, tape := hu.tape, output := hu.output }
              · have hold : ∀ w' : World, w'.heap = w.heap → (Builtin.firstCells ie.size len (.slice (some ⟨b, 0, none⟩) len c'.n)).run P w' = .ok os.toArray w' := fun w' hw' => by
                  have := run_loadCells_window (P := P) (w := w') (b := b) (off := 0) os (fun i x hi => by
                    have hlt := (List.getElem?_eq_some_iff.1 hi).1
                    rw [Nat.zero_add, cell_of_block (by rw [hw']; exact hwo), List.getElem?_toArray, List.getElem?_append_left hlt, hi])
                  rw [hosl] at this
                  simpa [Builtin.firstCells] using this
                obtain ⟨nc, spare, w', hr', hheap, hlen, hos', ht, hout⟩ := run_append_grow (w := w) (base := some ⟨b, 0, none⟩) (len := len) (cap := c'.n) (olds := os) (ty := o.type) h0 h1 hu0 hu1 htx hi hZ hze hzl hold hosl hrun hxsl (by omega) h5 h6
                refine ⟨_, w', E.set k (w.heap.size, { n := nc }), .inl (execOp_append ho hcal ha (by rw [hpx]; exact hr')), vec_made rfl rfl (cap_le hsz (a := os ++ xs) (by rw [List.length_append, hosl, hxsl, Nat.add_mul]) hlen), ?_⟩
                have hpush := Eff.push (rd := F.rd) (ws := [nm]) (upd := AObj.dead :: cx) (o := .vec (old ++ new) te ie.size) (c := { n := nc }) hheap hos' ht hout hEk ⟨os ++ xs, spare, denC_append (denC_mono (.set hEk) hos) (denC_mono (.set hEk) hxs), ⟨(0, 0), push_new hheap, .inl rfl⟩, hlen, rfl, rfl⟩ (fun _ => hdead)
                rw [hrd] at hpush
                rw [hF, hnm]
                exact hpush
            · cases hr
          · cases hr
        · -- a slice that has no room
          rename_i nm off len cap ob' cx
          split at hr
          · rename_i o0 oc ob n new hk hel
            cases hr
            obtain ⟨g1, g2, g3, g4⟩ := grow_cases kk
            obtain ⟨hob, h4, h5, h6, h7, h8, h9, _⟩ := allP_append.1 g1 |>.imp id id
            subst h6
            obtain ⟨b, c', hb, hpx⟩ := slice_den hs
            have hrd : F.rd = nm :: x.name := by rw [hF]; rfl
            obtain ⟨b', c'', hb', hobj⟩ := hp.objs 0 nm ob' (by rw [hrd]; rfl) rfl
            rw [hb] at hb'; cases hb'
            obtain ⟨os, hos, hwin⟩ := hobj.window hk
            have hosl := denC_length hos
            obtain ⟨xs, hxs, hxl, hrun⟩ := elemsA_run (w := w) hel hob hx (fun i m o hi' ho' => hp.objs (i + 1) m o (by rw [hrd]; simpa using hi') (by simpa using ho'))
            have hxsl : xs.length = n * ie.size := (denC_length hxs).trans hxl
            have hold : ∀ w' : World, w'.heap = w.heap → (Builtin.firstCells ie.size len (.slice (some ⟨b, off, none⟩) len len)).run P w' = .ok ((os.drop (off - o0)).take (len * ie.size)).toArray w' := fun w' hw' => by
              have hwin' : ∀ (i : Nat) x, os[i]? = some x → w'.cell? ⟨b, o0 + i, none⟩ = some x := fun i x hi => by
                rw [← hwin i x hi]; simp only [World.cell?, hw']
              have := run_window_cells (P := P) (n := len * ie.size) hwin' h4 (by omega)
              simp only [Builtin.firstCells, this]
            obtain ⟨nc, spare, w', hr', hheap, hlen, hos', ht, hout⟩ := run_append_grow (w := w) (base := some ⟨b, off, none⟩) (len := len) (cap := len) (ty := o.type) h0 h1 hu0 hu1 htx hi hZ hze hzl hold (by simp; omega) hrun hxsl (by omega) h8 h9
            rw [g2, g3, g4]
            refine ⟨_, w', E.set k (w.heap.size, { n := nc }), .inl (execOp_append ho hcal ha (by rw [hpx]; exact hr')), vec_made rfl rfl (cap_le hsz (a := (os.drop (off - o0)).take (len * ie.size) ++ xs) (by rw [List.length_append, hxsl, Nat.add_mul]; congr 1; simp; omega) hlen), ?_⟩
            rw [hF, hnm]
            exact .push hheap hos' ht hout hEk ⟨_, spare, denC_append (denC_mono (.set hEk) (denC_take (denC_drop hos _) _)) (denC_mono (.set hEk) hxs), ⟨(0, 0), push_new hheap, .inl rfl⟩, hlen, rfl, rfl⟩ (fun e => absurd rfl e)
          · cases hr
        · cases hr
  · -- nothing put to nothing
    rename_i e tx he htx hnm
    simp only [Option.bind_eq_some_iff] at he htx
    obtain ⟨t0, h0, hu0⟩ := he
    obtain ⟨t1, h1, hu1⟩ := htx
    split at hr
    · cases hr
    · rename_i hnint
      have htx : ∀ k, tx ≠ .int k := fun k e => hnint (by rw [e]; rfl)
      split at hr
      · rename_i ie hi
        split at hr
        · rename_i ob n new hel
          cases hr
          obtain ⟨hob, hn, _⟩ := allP_append.1 kk |>.imp id id
          have hn : n = 0 := hn
          subst hn
          obtain ⟨xs, hxs, hxl, hrun⟩ := elemsA_run (P := P) (w := w) hel hob hx (fun i nm o hi' ho' => hp.objs i nm o (by rw [hF]; simpa [AV.name] using hi') ho')
          have hp0 : ρ p = .slice none 0 0 := by simpa [den] using hs.symm
          refine Good.pure (by rw [hF]; rfl) (by rw [hF]; exact hnm) (execOp_append ho hcal ha (v := .slice none 0 0) ?_) rfl
          rw [hp0]
          obtain ⟨r1, r2⟩ := hrun w rfl
          have hsz : P.cellsOf e = ie.size := by simp [Program.cellsOf, hi]
          simp only [Builtin.append_, h0, h1, List.getElem?_toArray, List.getElem?_cons_zero, List.getElem?_cons_succ, Sem.run_bind, run_underlying' hu0, Result.andThen_ok, run_sizeOf' hi, run_underlying' hu1, Sem.run_pure]
          have hmi : (match tx with | .int _ => true | _ => false) = false := by
            cases tx <;> first | rfl | exact absurd rfl (htx _)
          rw [if_neg (by decide)]
          simp only [Sem.run_bind, r1, Result.andThen_ok, Bool.not_false, if_true, hsz, r2, Nat.zero_add, Nat.le_refl, Sem.run_pure]
        · cases hr
      · cases hr
  · cases hr

end Go.Proofs.YtebieapmoaaahaaGreatDoor.Sx

/- The symbolic executor, part J: every operation but a call of a function is sound. -/
set_option linter.unusedSimpArgs false
set_option linter.unusedVariables false
namespace Go.Proofs.YtebieapmoaaahaaGreatDoor.Sx
open Go

variable {P : Program} {E : Env} {w : World}

theorem Eff.fresh {w' : World} {rd ws : List Nat} {k : Nat} {c : Cap} {upd : List AObj} {o : AObj} (hold : ∀ j : Nat, j < w.heap.size → w'.heap[j]? = w.heap[j]?) (hg : w.heap.size ≤ w'.heap.size) (hos : w'.os = w.os) (ht : w'.tape = w.tape) (hout : w'.output = w.output)
    (hk : E k = none) (ho : ObjR (E.set k (w.heap.size, c)) w' w.heap.size c o)
    (hu : ws ≠ [] → ∀ (i n : Nat) (o : AObj), rd[i]? = some n → upd[i]? = some o → ∃ b c, E n = some (b, c) ∧ ObjR E w b c o) :
    Eff E (E.set k (w.heap.size, c)) w w' ⟨rd, ws, [k]⟩ upd [o] :=
  { le := .set hk
    only := fun n hn => Env.set_other E _ (by simpa using hn)
    wrote := fun e i n o hr hup => by
      obtain ⟨b, c, he, hob⟩ := hu (by intro h0; rw [h0] at e; cases e) i n o hr hup
      refine ⟨b, c, he, ?_⟩
      cases hl : o.live with
      | true => exact (hob.block fun h1 h2 => hold _ (hob.lt h1 h2)).mono (.set hk)
      | false => cases o <;> simp [AObj.live] at hl; trivial
    made := fun i n o' h1 h2 => by
      cases i with
      | zero => simp at h1 h2; subst h1; subst h2; exact ⟨_, _, Env.set_same E _ _, ho, fun _ => .inl (Nat.le_refl _)⟩
      | succ i => simp at h1
    keep := fun k hk _ => hold k hk
    newApart := fun i j n m o1 o2 b c b' c' h1 h2 _ _ _ _ _ _ hne => by
      cases i with
      | zero => cases j with
        | zero => exact absurd rfl hne
        | succ j => simp at h2
      | succ i => simp at h1
    grow := hg, os := hos, tape := ht, output := hout }

theorem denL_u8s (s : List UInt8) : denL E (u8s s) = some (s.map fun b => Value.int .u8 b.toNat) := by
  induction s with
  | nil => rfl
  | cons b s ih => simp only [u8s, List.map_cons]; exact denL_cons.2 ⟨_, _, rfl, ih, rfl⟩
theorem denC_u8s (s : List UInt8) : denC E (u8s s) (s.map fun b => Value.int .u8 b.toNat) := ⟨denL_u8s s, by simp [allOne, Value.oneCell']⟩

theorem good_bytes {o : Oper} {ρ : Operand → Value} {src dst e : TypeId} {p : Operand} {d : TypeDesc} {s : List UInt8} {k : Nat} (ho : o.op = .convert src dst p) (hp : den E (.str s) = some (ρ p)) (hs : P.underlying src = some d) (hd : P.underlying dst = some (.slice e))
    (he : P.underlying e = some (.int .u8)) (hk : E k = none) : Good E w ⟨[], [], [k]⟩ [] [.vec (u8s s) e 1] (.vec k s.length) ((execOp ρ o).run P w) := by
  have hp' : ρ p = .string ⟨s.toArray⟩ := by simpa [den] using hp.symm
  refine ⟨.slice (some ⟨w.heap.size, 0, none⟩) s.length (grownCap w s.length 0 e), Lib.bytesWorld w e ⟨s.toArray⟩, E.set k (w.heap.size, { n := grownCap w s.length 0 e }), .inl ?_, vec_made rfl rfl (by have := grownCap_ge w s.length 0 e; omega), .fresh (fun j hj => Lib.bytesWorld_at_old w e _ j hj) (by rw [Lib.bytesWorld_size]; omega) ?_ ?_ ?_ hk ?_ (fun e => absurd rfl e)⟩
  · simp only [execOp, ho, Sem.run_bind, hp', Lib.run_convert_string_bytes w src dst e _ hs hd he, Result.andThen_ok, Sem.run_pure]
    rfl
  · rfl
  · rfl
  · rfl
  · have hsz : (Lib.bytesCells w e ⟨s.toArray⟩) = ((s.map fun b => Value.int .u8 b.toNat) ++ List.replicate (grownCap w s.length 0 e - s.length) (Value.int .u8 0)).toArray := by
      simp [Lib.bytesCells, ByteArray.size]
    have hge := grownCap_ge w s.length 0 e
    refine ⟨s.map fun b => Value.int .u8 b.toNat, List.replicate (grownCap w s.length 0 e - s.length) (Value.int .u8 0), denC_u8s s, ⟨((Lib.bytesCells w e ⟨s.toArray⟩).size, (Lib.bytesCells w e ⟨s.toArray⟩).size + 1), ?_, .inr ?_⟩, ?_, rfl, rfl⟩
    · rw [Lib.bytesWorld_at_new, ← hsz]
    · simp [hsz]
    · simp; omega

theorem foldl_bytes : ∀ (s : List UInt8) (acc : ByteArray), ((s.map fun b => (b.toNat : Int)).foldl (fun (r : ByteArray) n => r.push (UInt8.ofNat n.toNat)) acc) = ⟨acc.data ++ s.toArray⟩
  | [], acc => by simp
  | b :: s, acc => by
    simp only [List.map_cons, List.foldl_cons]
    rw [foldl_bytes s]
    apply ByteArray.ext
    simp

theorem good_string {o : Oper} {ρ : Operand → Value} {src dst e : TypeId} {p : Operand} {x : AV} {ob : AObj} {F : Foot} {oo : List Prop} {n : Nat} {c : List AV} {s : List UInt8} (ho : o.op = .convert src dst p) (hx : den E x = some (ρ p)) (hs : P.underlying src = some (.slice e)) (hd : P.underlying dst = some .string)
    (he : P.underlying e = some (.int .u8)) (hF : F = ⟨x.name, [], []⟩) (hp : Pre E w F [ob]) (hel : elemsA 1 x [ob] = some (oo, n, c)) (hob : AllP oo) (hc : c = u8s s) (hnd : x.isDsl = false) : Good E w F [ob] [] (.str s) ((execOp ρ o).run P w) := by
  obtain ⟨xs, hxs, hl, hrun⟩ := elemsA_run (w := w) hel hob hx (fun i nm o' h1 h2 => hp.objs i nm o' (by rw [hF]; exact h1) h2)
  have hsl : ∃ a l cc, ρ p = .slice (some a) l cc ∧ n = l := by
    unfold elemsA at hel
    split at hel
    · rename_i h0; exact absurd h0 (by simp)
    · rename_i h0; exact absurd h0 (by simp)
    · obtain ⟨b, c', hb, e⟩ := slice_den hx
      split at hel
      · simp only [Option.some.injEq, Prod.mk.injEq] at hel; exact ⟨_, _, _, e, hel.2.1.symm⟩
      · cases hel
    · obtain ⟨b, c', hb, e⟩ := vec_den hx
      split at hel
      · simp only [Option.some.injEq, Prod.mk.injEq] at hel; exact ⟨_, _, _, e, hel.2.1.symm⟩
      · cases hel
    · simp [AV.isDsl] at hnd
    · cases hel
  subst hc
  obtain ⟨_, hr⟩ := hrun w rfl
  have hxe : xs = s.map fun b => Value.int .u8 b.toNat := by
    have := hxs.1; rw [denL_u8s] at this; exact (Option.some.inj this).symm
  refine Good.pure (by rw [hF]; rfl) (by rw [hF]) (x := .string ⟨s.toArray⟩) ?_ rfl
  obtain ⟨a, l, cc, e, rfl⟩ := hsl
  rw [e] at hr
  simp only [Builtin.firstCells, Nat.mul_one] at hr
  have := run_bytesToString (P := P) w a n cc (s.map fun b => (b.toNat : Int)) (by rw [hr, hxe]; simp [List.map_map]; try rfl)
  rw [foldl_bytes] at this
  simp only [execOp, ho, Sem.run_bind, e, run_convert_bytes_string w src dst _ _ _ _ hs he hd, this, Result.andThen_ok, Sem.run_pure]
  congr 3
  apply ByteArray.ext; simp

theorem operands_slice {t : TypeId} {x : Operand} {lo hi mx : Option Operand} : (Op.slice t x lo hi mx).operands.toList = x :: (lo.toArray ++ hi.toArray ++ mx.toArray).toList := by
  simp [Op.operands]

theorem ite_addr {b off m l sz : Nat} : (if m = l then (⟨b, off, none⟩ : Addr) else (⟨b, off, none⟩ : Addr).add (l * sz)) = ⟨b, if m = l then off else off + l * sz, none⟩ := by
  split
  · rfl
  · rw [Addr.add_none]

theorem take_extract (s : List UInt8) (l u : Nat) : (ByteArray.mk s.toArray).extract l u = ⟨((s.drop l).take (u - l)).toArray⟩ := by
  apply ByteArray.ext
  simp only [ByteArray.data_extract]
  simp [List.extract_eq_take_drop, List.extract_toArray]

end Go.Proofs.YtebieapmoaaahaaGreatDoor.Sx

/- The symbolic executor, part K: every operation but a call of a function is sound: all together. -/
set_option linter.unusedSimpArgs false
set_option linter.unusedVariables false
namespace Go.Proofs.YtebieapmoaaahaaGreatDoor.Sx
open Go

variable {P : Program} {E : Env} {w : World}

theorem den2 {a b : AV} {x y : Value} (h : denL E [a, b] = some [x, y]) : den E a = some x ∧ den E b = some y := by
  obtain ⟨h1, h2⟩ := denL_split h; exact ⟨h1, den1 h2⟩



theorem good_sliceE {o : Oper} {ρ : Operand → Value} {t : TypeId} {p : Operand} {lo hi mx : Option Operand} {x : AV} {vs : List AV} {h : Hint} {cs : List AObj} {F : Foot} {r : Res} (ho : o.op = .slice t p lo hi mx)
    (hx : den E x = some (ρ p)) (hv : denL E vs = some ((lo.toArray ++ hi.toArray ++ mx.toArray).toList.map ρ)) (hf : foot h (.slice t p lo hi mx) (x :: vs) = some F) (hp : Pre E w F cs) (hm : mx.isSome → hi.isSome)
    (hr : sliceA P h t lo hi mx x vs cs = some r) (kk : AllP r.obl) : Good E w F r.upd r.new r.val ((execOp ρ o).run P w) := by
  have hrun : (execOp ρ o).run P w = ((Instr.sliceAt t (ρ p) (lo.map ρ) (hi.map ρ) (mx.map ρ)).run P w).andThen fun v w' => .ok (.value v) w' := by
    simp only [execOp, ho, Sem.run_bind]; rfl
  rw [hrun]
  unfold sliceA at hr
  split at hr
  · rename_i n e nm off hu
    simp only [foot, Option.some.injEq] at hf
    split at hr
    · cases hr
    rename_i hi'
    obtain ⟨ie, hi'⟩ := Option.ne_none_iff_exists'.1 (by simpa using hi')
    split at hr
    · rename_i ob l u m hb
      cases hr
      obtain ⟨b, c, hb', hpx⟩ := ptr_den hx
      refine good_fin (x := .slice (some ⟨b, if m = l then off else off + l * P.cellsOf e, none⟩) (u - l) (m - l)) (by rw [← hf]; rfl) (by rw [← hf]; rfl) kk fun hob => ⟨?_, by simp [den, hb']⟩
      obtain ⟨hs, _⟩ := boundsA_run (P := P) (w := w) (isSlice := false) hb hv hob hm
      simp only [Instr.sliceAt, Sem.run_bind, run_underlying' hu, Result.andThen_ok, hpx, Instr.sureAddr, Sem.run_pure, hs, run_sizeOf' hi', ite_addr]
    · cases hr
  · rename_i s hu
    simp only [foot, Option.some.injEq] at hf
    split at hr
    · rename_i ob l u m hb
      split at hr
      · rename_i hmx
        cases hr
        have hpx : ρ p = .string ⟨s.toArray⟩ := by simpa [den] using hx.symm
        refine good_fin (x := .string ⟨((s.drop l).take (u - l)).toArray⟩) (by rw [← hf]; rfl) (by rw [← hf]; rfl) kk fun hob => ⟨?_, rfl⟩
        obtain ⟨hs, _⟩ := boundsA_run (P := P) (w := w) (isSlice := false) hb hv hob hm
        have hmx' : mx = none := by simpa using hmx
        subst hmx'
        have hsz : (ByteArray.mk s.toArray).size = s.length := rfl
        simp only [Option.map_none] at hs
        simp only [Instr.sliceAt, Instr.slice, Sem.run_bind, run_underlying' hu, Result.andThen_ok, hpx, Option.map_none, Option.isSome_none, Bool.false_eq_true, if_false, hsz, hs, take_extract, Sem.run_pure]
      · cases hr
    · cases hr
  · rename_i e nm off len cap hu
    simp only [foot, Option.some.injEq] at hf
    split at hr
    · cases hr
    rename_i hi'
    obtain ⟨ie, hi'⟩ := Option.ne_none_iff_exists'.1 (by simpa using hi')
    split at hr
    · rename_i ob l u m hb
      cases hr
      obtain ⟨b, c, hb', hpx⟩ := slice_den hx
      refine good_fin (x := .slice (some ⟨b, if m = l then off else off + l * P.cellsOf e, none⟩) (u - l) (m - l)) (by rw [← hf]; rfl) (by rw [← hf]; rfl) kk fun hob => ⟨?_, by simp [den, hb']⟩
      obtain ⟨hs, _⟩ := boundsA_run (P := P) (w := w) (isSlice := true) hb hv hob hm
      simp only [Instr.sliceAt, Instr.slice, Sem.run_bind, run_underlying' hu, Result.andThen_ok, hpx, Sem.run_pure, hs, run_sizeOf' hi', Option.map_some]
      rw [← ite_addr]
      split <;> rfl
    · cases hr
  · rename_i e nm len ob hu
    simp only [foot, Option.some.injEq] at hf
    split at hr
    · cases hr
    rename_i hi'
    obtain ⟨ie, hi'⟩ := Option.ne_none_iff_exists'.1 (by simpa using hi')
    split at hr
    · rename_i c te sz
      split at hr
      · cases hr
      rename_i hsz
      have hsz : sz = P.cellsOf e := by simpa using hsz
      subst hsz
      split at hr
      · rename_i oo u hb
        obtain ⟨b, cc, hb', hpx⟩ := vec_den hx
        have key : AllP oo → 0 < P.cellsOf e → u * P.cellsOf e ≤ c.length → Good E w F r.upd [] (.vec nm u) (((Instr.sliceAt t (ρ p) ((none : Option Operand).map ρ) (hi.map ρ) ((none : Option Operand).map ρ)).run P w).andThen fun v w' => .ok (.value v) w') := by
          intro hoo hpos hle
          obtain ⟨b', c', hb2, hobj⟩ := hp.objs 0 nm _ (by rw [← hf]; rfl) rfl
          rw [hb'] at hb2; cases hb2
          have hu' : u ≤ cc.n := by
            obtain ⟨xs, ys, hx', _, hl, _⟩ := hobj
            have := denC_length hx'
            have h2 : u * P.cellsOf e ≤ cc.n * P.cellsOf e := by rw [← hl, List.length_append]; omega
            exact Nat.le_of_mul_le_mul_right h2 hpos
          have hb1 : boundsA len cc.n none hi none vs = some (oo ++ [0 ≤ u, u ≤ cc.n, cc.n ≤ cc.n], 0, u, cc.n) := by
            unfold boundsA
            simp only [show ∀ d v, boundA d none v = some ([], d, v) from fun _ _ => rfl, hb, List.nil_append, List.append_nil]
          obtain ⟨hs, _⟩ := boundsA_run (P := P) (w := w) (isSlice := true) (ρ := ρ) hb1 (by simpa using hv) (allP_append.2 ⟨hoo, Nat.zero_le _, hu', Nat.le_refl _, trivial⟩) (by simp)
          refine Good.pure (by rw [← hf]; rfl) (by rw [← hf]) (x := .slice (some ⟨b, 0, none⟩) u cc.n) ?_ (by have hcap := vec_cap hx hb'; simp only [den, hb', Option.bind_some]; rw [if_pos ⟨hcap.1, hcap.2.1, hu'⟩])
          simp only [Option.map_none] at hs
          simp only [Instr.sliceAt, Instr.slice, Sem.run_bind, run_underlying' hu, Result.andThen_ok, hpx, Sem.run_pure, Option.map_none, hs, run_sizeOf' hi', Option.map_some]
          congr 2
          simp [Addr.add_none]
        split at hr
        · rename_i v' hv'
          cases hr
          obtain ⟨k1, k2⟩ := allP_append.1 kk
          obtain ⟨k2, k3, k4, _⟩ := k2
          have k4 : AV.vec nm u = v' := k4
          simp only [← k4]
          exact key k1 k2 k3
        · cases hr
          obtain ⟨k1, k2⟩ := allP_append.1 kk
          obtain ⟨k2, k3, _⟩ := k2
          exact key k1 k2 k3
      · cases hr
    · rename_i p0
      split at hr
      · rename_i o1 l vs1 hb1
        split at hr
        · rename_i o2 u hb2
          cases hr
          obtain ⟨k1, k2⟩ := allP_append.1 kk
          obtain ⟨k2, k3⟩ := allP_append.1 k2
          obtain ⟨k3, k4, _⟩ := k3
          have k3 : l < u := k3
          have k4 : u ≤ len := k4
          obtain ⟨b, cc, hb', hpx⟩ := vec_den hx
          obtain ⟨hz, ho0, hcap⟩ := vec_cap hx hb'
          have hbb : boundsA len cc.n (some p0) hi none vs = some (o1 ++ o2 ++ [] ++ [l ≤ u, u ≤ cc.n, cc.n ≤ cc.n], l, u, cc.n) := by
            unfold boundsA
            simp only [hb1, hb2, show ∀ d v, boundA d none v = some ([], d, v) from fun _ _ => rfl]
          obtain ⟨hs, _⟩ := boundsA_run (P := P) (w := w) (isSlice := true) (ρ := ρ) hbb (by simpa using hv) (allP_append.2 ⟨allP_append.2 ⟨allP_append.2 ⟨k1, k2⟩, trivial⟩, by omega, by omega, Nat.le_refl _, trivial⟩) (by simp)
          refine Good.pure (by rw [← hf]; rfl) (by rw [← hf]) (x := .slice (some ⟨b, 0 + l * P.cellsOf e, none⟩) (u - l) (cc.n - l)) ?_ (by simp only [den, hb', Option.bind_some]; rw [if_pos ⟨hz, by omega⟩, ho0])
          simp only [Option.map_none, Option.map_some] at hs
          have hne : ¬ cc.n = l := by omega
          simp only [Instr.sliceAt, Instr.slice, Sem.run_bind, run_underlying' hu, Result.andThen_ok, hpx, Sem.run_pure, Option.map_none, hs, run_sizeOf' hi', Option.map_some]
          rw [if_neg (by omega)]
          simp [Addr.add_none]
        · cases hr
      · cases hr
    · cases hr
  · rename_i e nm len hu
    simp only [foot, Option.some.injEq] at hf
    split at hr
    · cases hr
    rename_i hi'
    obtain ⟨ie, hi'⟩ := Option.ne_none_iff_exists'.1 (by simpa using hi')
    split at hr
    · split at hr
      · rename_i oo u hb
        cases hr
        obtain ⟨b, cc, hb', hx'⟩ := dsl_den hx
        rcases hx' with ⟨hz, h0, hpx⟩ | ⟨hz, hle, hpx⟩
        · subst h0
          refine good_fin (x := .slice none 0 0) (by rw [← hf]; rfl) (by rw [← hf]; rfl) kk fun hob => ?_
          obtain ⟨hoo, hu0, _⟩ := allP_append.1 hob
          have hu0 : u = 0 := by have : u ≤ 0 := hu0; omega
          subst hu0
          refine ⟨?_, by simp [den, hb', hz]⟩
          have hb1 : boundsA 0 0 none hi none vs = some (oo ++ [0 ≤ 0, 0 ≤ 0, 0 ≤ 0], 0, 0, 0) := by
            unfold boundsA
            simp only [show ∀ d v, boundA d none v = some ([], d, v) from fun _ _ => rfl, hb, List.nil_append, List.append_nil]
          obtain ⟨hs, _⟩ := boundsA_run (P := P) (w := w) (isSlice := true) (ρ := ρ) hb1 (by simpa using hv) (allP_append.2 ⟨hoo, Nat.zero_le _, Nat.le_refl _, Nat.le_refl _, trivial⟩) (by simp)
          simp only [Option.map_none] at hs
          simp only [Instr.sliceAt, Instr.slice, Sem.run_bind, run_underlying' hu, Result.andThen_ok, hpx, Sem.run_pure, Option.map_none, hs, run_sizeOf' hi']
          simp
        · refine good_fin (x := .slice (some ⟨b, cc.o, none⟩) u cc.n) (by rw [← hf]; rfl) (by rw [← hf]; rfl) kk fun hob => ?_
          obtain ⟨hoo, hu0, _⟩ := allP_append.1 hob
          have hu0 : u ≤ len := hu0
          refine ⟨?_, by simp [den, hb', hz, show u ≤ cc.n by omega]⟩
          have hb1 : boundsA len cc.n none hi none vs = some (oo ++ [0 ≤ u, u ≤ cc.n, cc.n ≤ cc.n], 0, u, cc.n) := by
            unfold boundsA
            simp only [show ∀ d v, boundA d none v = some ([], d, v) from fun _ _ => rfl, hb, List.nil_append, List.append_nil]
          obtain ⟨hs, _⟩ := boundsA_run (P := P) (w := w) (isSlice := true) (ρ := ρ) hb1 (by simpa using hv) (allP_append.2 ⟨hoo, Nat.zero_le _, by omega, Nat.le_refl _, trivial⟩) (by simp)
          simp only [Option.map_none] at hs
          simp only [Instr.sliceAt, Instr.slice, Sem.run_bind, run_underlying' hu, Result.andThen_ok, hpx, Sem.run_pure, Option.map_none, hs, run_sizeOf' hi', Option.map_some]
          congr 2
          simp [Addr.add_none]
      · cases hr
    · cases hr
  · rename_i e hu
    simp only [foot, Option.some.injEq] at hf
    split at hr
    · cases hr
    rename_i hi'
    obtain ⟨ie, hi'⟩ := Option.ne_none_iff_exists'.1 (by simpa using hi')
    split at hr
    · rename_i ob l u m hb
      cases hr
      have hpx : ρ p = .slice none 0 0 := by simpa [den] using hx.symm
      refine good_fin (x := .slice none 0 0) (by rw [← hf]; rfl) (by rw [← hf]; rfl) kk fun hob => ⟨?_, rfl⟩
      obtain ⟨hs, h1, h2, h3⟩ := boundsA_run (P := P) (w := w) (isSlice := true) hb hv hob hm
      simp only [Instr.sliceAt, Instr.slice, Sem.run_bind, run_underlying' hu, Result.andThen_ok, hpx, Sem.run_pure, hs, run_sizeOf' hi', Option.map_none]
      congr 3
      · split <;> rfl
      · omega
      · omega
    · cases hr
  · cases hr

end Go.Proofs.YtebieapmoaaahaaGreatDoor.Sx

/- The symbolic executor, part L: 'act' is sound. -/
set_option linter.unusedSimpArgs false
set_option linter.unusedVariables false
namespace Go.Proofs.YtebieapmoaaahaaGreatDoor.Sx
open Go

variable {P : Program} {E : Env} {w : World}

theorem ok1_some {h : Hint} {q : Option (List Prop × AV)} {r : Res} (e : ok1 h q = some r) : ∃ ob v, q = some (ob, v) ∧ r = fin h ob v := by
  unfold ok1 at e
  simp only [Option.map_eq_some_iff] at e
  obtain ⟨⟨ob, v⟩, hq, rfl⟩ := e
  exact ⟨ob, v, hq, rfl⟩

/-- A value moved, as it is or told otherwise. -/
theorem good_moveA {x : Operand} {ρ : Operand → Value} {o : Oper} (ho : o.op = .move x ∨ o.op = .assign x) {v : AV} {h : Hint} {F : Foot} {cs : List AObj} {r : Res} (hF : footV h v = F) (hp : Pre E w F cs) (hv : den E v = some (ρ x)) (hr : moveA h v cs = some r) (k : AllP r.obl) :
    Good E w F r.upd r.new r.val ((execOp ρ o).run P w) := by
  have hrun : (execOp ρ o).run P w = .ok (.value (ρ x)) w := by rcases ho with ho | ho <;> simp [execOp, ho]
  unfold moveA at hr
  split at hr
  · rename_i h0
    cases hr
    exact good_move ho (by rw [← hF]; simp only [footV, h0]) hv k
  · rename_i h1
    split at hr
    · rename_i kk hnm
      cases hr
      have hF' : F = ⟨[], [], [kk]⟩ := by rw [← hF]; simp only [footV, h1, hnm]
      subst hF'
      have hk : E kk = none := hp.fresh kk (by simp)
      have hx : ρ x = .slice none 0 0 := by simpa [den] using hv.symm
      refine ⟨_, w, E.set kk (0, { n := 0, z := true }), .inl hrun, by rw [hx]; simp [den, Env.set_same], ?_⟩
      exact {
        le := .set hk
        only := fun n hn => Env.set_other E _ (by simpa using hn)
        wrote := fun e => by cases e
        made := fun i n o' h1 h2 => by
          cases i with
          | zero => simp at h1 h2; subst h1; subst h2; exact ⟨_, _, Env.set_same E _ _, ⟨[], ⟨rfl, rfl⟩, fun _ => rfl, fun e => by cases e⟩, fun ht => by cases ht.1⟩
          | succ i => simp at h1
        keep := fun _ _ _ => rfl
        newApart := fun i j n m o1 o2 b c b' c' h1 h2 _ _ _ _ _ _ hne => by
          cases i with
          | zero => cases j with
            | zero => exact absurd rfl hne
            | succ j => simp at h2
          | succ i => simp at h1
        grow := Nat.le_refl _, os := rfl, tape := rfl, output := rfl }
    · cases hr
  · rename_i h2
    split at hr
    · rename_i nm len c t sz
      cases hr
      have hF' : F = ⟨[nm], [nm], []⟩ := by rw [← hF]; simp only [footV, h2]
      subst hF'
      obtain ⟨b, cp, hb, hob⟩ := hp.objs 0 nm _ rfl rfl
      obtain ⟨b', c', hb', hx⟩ := vec_den hv
      rw [hb] at hb'; cases hb'
      obtain ⟨c1, c2, c3⟩ := vec_cap hv hb
      refine ⟨_, w, E, .inl hrun, ?_, ?_⟩
      · rw [hx]; simp only [den, hb, Option.bind_some, c1, c2, Bool.false_eq_true, if_false]; rw [if_pos c3]
      · have hobj : ObjR E w b cp (.flat true c) := by
          obtain ⟨xs, hxs, hw⟩ := hob.window rfl
          refine ⟨xs, hxs, fun e => ?_, fun _ => ?_⟩
          · rw [c1] at e; cases e
          exact ⟨hob.lt rfl rfl, fun i x hi => by rw [c2]; exact hw i x hi⟩
        exact {
          le := .refl _, only := fun _ _ => rfl
          wrote := fun _ i n o' h1 h2 => by
            cases i with
            | zero => simp at h1 h2; subst h1; subst h2; exact ⟨b, cp, hb, hobj⟩
            | succ i => simp at h1
          made := fun i n o' h1 h2 => by simp at h1
          keep := fun _ _ _ => rfl
          newApart := fun i j n m o1 o2 b c b' c' h1 => by simp at h1
          grow := Nat.le_refl _, os := rfl, tape := rfl, output := rfl }
    · cases hr
  · cases hr

theorem sealR_obl {h : Hint} {r : Res} : (sealR h r).obl = r.obl := by
  unfold sealR
  split
  · split <;> rfl
  · rfl
theorem good_seal {F : Foot} {h : Hint} {r : Res} {q : Result Next} (hg : Good E w F r.upd r.new r.val q) : Good E w F (sealR h r).upd (sealR h r).new (sealR h r).val q := by
  unfold sealR
  split
  · split
    · rename_i k n c t sz hv hn
      obtain ⟨x, w', E', hrun, hd, he⟩ := hg
      rw [hn] at he
      rw [hv] at hd
      refine ⟨x, w', E', hrun, ?_, ?_⟩
      · obtain ⟨b, c', hb, hx⟩ := vec_den hd
        obtain ⟨c1, c2, c3⟩ := vec_cap hd hb
        rw [hx]; simp only [den, hb, Option.bind_some, c1, c2, Bool.false_eq_true, if_false]; rw [if_pos c3]
      · exact { he with
          made := fun i n' o h1 h2 => by
            cases i with
            | zero =>
              simp at h2; subst h2
              obtain ⟨b, cp, hb, ho, hor⟩ := he.made 0 n' _ h1 rfl
              refine ⟨b, cp, hb, ?_, fun _ => hor rfl⟩
              have hlt := ho.lt rfl rfl
              obtain ⟨xs, hxs, hw⟩ := ho.window rfl
              obtain ⟨_, _, _, _, _, c2, c1⟩ := ho
              refine ⟨xs, hxs, fun e => ?_, fun _ => ⟨hlt, fun i x hi => ?_⟩⟩
              · rw [c1] at e; cases e
              · rw [c2]; exact hw i x hi
            | succ i => simp at h2
          newApart := fun i j n' m o o' b cc b' c' h1 h2 g1 g2 w1 => by
            cases i with
            | zero => simp at g1; subst g1; cases w1
            | succ i => simp at g1 }
    · exact hg
  · exact hg


theorem lenA_run {t : TypeId} {x v : AV} {X : Value} (h : lenA P t x = some v) (hx : den E x = some X) (at_ : Array TypeId) (ht : at_[0]? = some t) (ty : TypeId) : ∃ z, (Builtin.len_ at_ ty #[X]).run P w = .ok z w ∧ den E v = some z := by
  unfold lenA at h
  split at h
  · rename_i s hu; cases h
    have hX : X = .string ⟨s.toArray⟩ := by simpa [den] using hx.symm
    subst hX
    refine ⟨.int .i64 s.length, ?_, rfl⟩
    have hsz : (ByteArray.mk s.toArray).size = s.length := rfl
    simp only [Builtin.len_, ht, List.getElem?_toArray, List.getElem?_cons_zero, Sem.run_bind, run_underlying' hu, Result.andThen_ok, hsz, Sem.run_pure, goInt]
  · rename_i n e hu; cases h
    exact ⟨_, by simp [Builtin.len_, ht, run_underlying' hu, goInt], rfl⟩
  · rename_i e nm off n c hu; cases h
    obtain ⟨b, c', _, rfl⟩ := slice_den hx
    exact ⟨_, by simp [Builtin.len_, ht, run_underlying' hu, goInt], rfl⟩
  · rename_i e nm n hu; cases h
    obtain ⟨b, c', _, rfl⟩ := vec_den hx
    exact ⟨_, by simp [Builtin.len_, ht, run_underlying' hu, goInt], rfl⟩
  · rename_i e hu; cases h
    have hX : X = .slice none 0 0 := by simpa [den] using hx.symm
    subst hX
    exact ⟨_, by simp [Builtin.len_, ht, run_underlying' hu, goInt], rfl⟩
  · rename_i e nm n hu; cases h
    obtain ⟨b, c', _, ⟨_, rfl, rfl⟩ | ⟨_, _, rfl⟩⟩ := dsl_den hx
    · exact ⟨_, by simp [Builtin.len_, ht, run_underlying' hu, goInt], rfl⟩
    · exact ⟨_, by simp [Builtin.len_, ht, run_underlying' hu, goInt], rfl⟩
  · rename_i e nm w' off n hu; cases h
    obtain ⟨b, c', _, _, _, rfl⟩ := vsl_den hx
    exact ⟨_, by simp [Builtin.len_, ht, run_underlying' hu, goInt], rfl⟩
  · cases h

theorem capA_run {t : TypeId} {x v : AV} {X : Value} (h : capA P t x = some v) (hx : den E x = some X) (at_ : Array TypeId) (ht : at_[0]? = some t) (ty : TypeId) : ∃ z, (Builtin.cap_ at_ ty #[X]).run P w = .ok z w ∧ den E v = some z := by
  unfold capA at h
  split at h
  · rename_i e nm off n c hu; cases h
    obtain ⟨b, c', _, rfl⟩ := slice_den hx
    exact ⟨_, by simp [Builtin.cap_, ht, run_underlying' hu, goInt], rfl⟩
  · rename_i e hu; cases h
    have hX : X = .slice none 0 0 := by simpa [den] using hx.symm
    subst hX
    exact ⟨_, by simp [Builtin.cap_, ht, run_underlying' hu, goInt], rfl⟩
  · cases h

theorem execOp_builtin1 {o : Oper} {ρ : Operand → Value} {c : Call} {b : Builtin} {v : Value} (ho : o.op = .call c) (hc : c.callee = .builtin b)
    (h : ∀ cb, (builtin b c.argTypes o.type cb (c.args.map ρ)).run P w = .ok (.value v) w) : (execOp ρ o).run P w = .ok (.value v) w := by
  simp only [execOp, ho, resolve, hc, Sem.run_bind, Sem.run_pure, Result.andThen_ok, invoke, h]

theorem args1 {c : Call} {ρ : Operand → Value} {b : Builtin} (hc : c.callee = .builtin b) {vs : List AV} (h : denL E vs = some ((Op.call c).operands.toList.map ρ)) : denL E vs = some (c.args.map ρ).toList := by
  simpa [Op.operands, Call.operands, hc] using h

theorem good_next {o : Oper} {ρ : Operand → Value} {p : Operand} {nm : Nat} {h : Hint} {cs : List AObj} {r : Res} {F : Foot} (ho : o.op = .next p true) (hx : den E (.ptr nm 0) = some (ρ p)) (hf : F = ⟨[nm], [nm], []⟩) (hp : Pre E w F cs)
    (hr : act P h (.next p true) [.ptr nm 0] cs = some r) (kk : AllP r.obl) : Good E w F r.upd r.new r.val ((execOp ρ o).run P w) := by
  obtain ⟨b, c, hb, hpx⟩ := ptr_den hx
  subst hf
  simp only [act] at hr
  split at hr
  · rename_i s pos pp cc hv
    split at hr
    · rename_i s' pos' hobj
      cases hr
      obtain ⟨h1, h2, h3, h4, h5, _⟩ := kk
      have h1 : s = s' := h1
      subst h1
      obtain ⟨b', c', hb', hob⟩ := hp.objs 0 nm _ rfl rfl
      rw [hb] at hb'; cases hb'
      have hob : w.heap[b]? = some (.stringIter ⟨s.toArray⟩ pos) := hob
      have hsz : (ByteArray.mk s.toArray).size = s.length := rfl
      have hlt : b < w.heap.size := (Array.getElem?_eq_some_iff.1 hob).1
      let w' : World := { w with heap := w.heap.setIfInBounds b (.stringIter ⟨s.toArray⟩ pos') }
      have hu : Upd b w w' := ⟨fun k hk => by simp only [w', Array.getElem?_setIfInBounds]; rw [if_neg (by omega)], by simp [w'], rfl, rfl, rfl⟩
      have hnew : w'.heap[b]? = some (.stringIter ⟨s.toArray⟩ pos') := by simp [w', hlt]
      refine ⟨.tuple #[.bool true, .int .i64 pp, .int .i32 cc], w', E, .inl ?_, by simp [den, denL], .write hb hnew hu⟩
      have hget : (getObj b).run P w = .ok (.stringIter ⟨s.toArray⟩ pos) w := by
        simp only [getObj, Sem.run, hob]
      have hset : (setObj b (.stringIter ⟨s.toArray⟩ (pos + (Utf8.decode ⟨s.toArray⟩ pos).2))).run P w = .ok () w' := by
        simp only [setObj, Sem.run, hob, h5]; rfl
      simp only [execOp, ho, Instr.next, hpx, Sem.run_bind, hget, Result.andThen_ok, hsz]
      rw [if_pos h2]
      generalize hdec : Utf8.decode ⟨s.toArray⟩ pos = d at *
      obtain ⟨dc, dw⟩ := d
      simp only [Sem.run_bind, hset, Result.andThen_ok, Sem.run_pure, goInt, h3, ← h4]
    · cases hr
  · rename_i s pos hv
    cases hr
    obtain ⟨h1, _⟩ := kk
    obtain ⟨b', c', hb', hob⟩ := hp.objs 0 nm _ rfl rfl
    rw [hb] at hb'; cases hb'
    have hob : w.heap[b]? = some (.stringIter ⟨s.toArray⟩ pos) := hob
    have hsz : (ByteArray.mk s.toArray).size = s.length := rfl
    refine ⟨.tuple #[.bool false], w, E, .inl ?_, by simp [den, denL], .write hb hob (.refl _ _)⟩
    have hget : (getObj b).run P w = .ok (.stringIter ⟨s.toArray⟩ pos) w := by
      simp only [getObj, Sem.run, hob]
    simp only [execOp, ho, Instr.next, hpx, Sem.run_bind, hget, Result.andThen_ok, hsz]
    rw [if_neg (by omega)]
    rfl
  · cases hr

/-- Cells written into a block: the same block, with other cells. -/
theorem run_storeCells_obj {b off : Nat} {c : Cap} {vc : List AV} {vs : List Value} {o o1 : AObj} {off' : Nat} {cs : List AV} (hvs : denC E vc vs)
    (hb : ObjR E w b c o) (hk : o.known = some (off', cs)) (hs : o.setCells (cs.take off ++ vc ++ cs.drop (off + vc.length)) = some o1) (h2 : off + vc.length ≤ cs.length) :
    ∃ w', (storeCells ⟨b, off, none⟩ vs).run P w = .ok () w' ∧ ObjR E w' b c o1 ∧ Upd b w w' := by
  have hvl := denC_length hvs
  cases o with
  | cells cs' ty =>
    simp only [AObj.known, Option.some.injEq, Prod.mk.injEq] at hk; obtain ⟨_, rfl⟩ := hk
    simp only [AObj.setCells, Option.some.injEq] at hs; subst hs
    obtain ⟨xs, hx, hw⟩ := hb
    have hl := denC_length hx
    obtain ⟨w', hr, hw', hu⟩ := run_storeCells (P := P) vs xs off 0 w hw (.inl rfl) (by omega) hvs.2
    refine ⟨w', hr, ⟨_, ?_, hw'⟩, hu⟩
    rw [Nat.add_zero, over_eq _ _ _ (by omega), hvl]
    exact denC_append (denC_append (denC_take hx _) hvs) (denC_drop hx _)
  | vec cs' ty sz =>
    simp only [AObj.known, Option.some.injEq, Prod.mk.injEq] at hk; obtain ⟨_, rfl⟩ := hk
    simp only [AObj.setCells, Option.some.injEq] at hs; subst hs
    obtain ⟨xs, ys, hx, ⟨m, hw, hm⟩, hsp, hoz⟩ := hb
    have hl := denC_length hx
    obtain ⟨w', hr, hw', hu⟩ := run_storeCells (P := P) vs (xs ++ ys) off 0 w hw hm (by simp; omega) hvs.2
    rw [Nat.add_zero, over_append (by omega)] at hw'
    refine ⟨w', hr, ⟨_, ys, ?_, ⟨m, hw', by simpa [over_length] using hm⟩, ?_, hoz⟩, hu⟩
    · rw [over_eq _ _ _ (by omega), hvl]
      exact denC_append (denC_append (denC_take hx _) hvs) (denC_drop hx _)
    · rw [← hsp]; simp [over_length]
  | ro a b => simp [AObj.setCells] at hs
  | flat m a => simp [AObj.setCells] at hs
  | flatR m sh rows => simp [AObj.setCells] at hs
  | iter a b => simp [AObj.setCells] at hs
  | shut a b c => simp [AObj.setCells] at hs
  | loopR up n ix cs ps asg body => simp [AObj.setCells] at hs
  | dead => simp [AObj.setCells] at hs

theorem freeze_block {w : World} {b : Nat} {a : Array Value} {t : TypeId} {m : Nat × Nat} {n : Nat} (h : w.heap[b]? = some (.cells a t m)) : ∃ m', (w.freeze ⟨b, 0, none⟩ n).heap[b]? = some (.cells a t m') := by
  unfold World.freeze
  split
  · exact ⟨m, h⟩
  · simp only [Array.getElem?_modify, if_pos, h, Option.map_some]
    exact ⟨_, rfl⟩
theorem good_over {h : Hint} {ob : List Prop} {nm b off : Nat} {c : Cap} {vc : List AV} {vs : List Value} {v : AV} {x : Value} {o : AObj} {r : Res} {res : Result Next} (hp : Pre E w ⟨[nm], [nm], []⟩ [o]) (hb : E nm = some (b, c)) (hvs : denC E vc vs) (hd : den E v = some x)
    (hr : overA h ob off vc v o = some r) (kk : AllP r.obl) (hrun : ∀ w', (storeCells ⟨b, off, none⟩ vs).run P w = .ok () w' → res = .ok (.value x) w') :
    Good E w ⟨[nm], [nm], []⟩ r.upd r.new r.val res := by
  obtain ⟨b', c', hb', hob⟩ := hp.objs 0 nm o rfl rfl
  rw [hb] at hb'; cases hb'
  unfold overA at hr
  split at hr
  · rename_i o0 cs hk
    split at hr
    · rename_i o1 hs
      split at hr
      · cases hr
        obtain ⟨_, h2, h3, _⟩ := allP_append.1 kk
        subst h3
        obtain ⟨w', hr', ho', hu⟩ := run_storeCells_obj (P := P) hvs hob hk hs h2
        exact ⟨x, w', E, .inl (hrun w' hr'), hd, .write hb ho' hu⟩
      · cases hr
        obtain ⟨_, h2, _⟩ := allP_append.1 kk
        obtain ⟨w', hr', ho', hu⟩ := run_storeCells_obj (P := P) hvs hob hk hs h2
        exact ⟨x, w', E, .inl (hrun w' hr'), hd, .write hb ho' hu⟩
    · cases hr
  · cases hr

theorem zeroCells_eq (zs : List Value) (n : Nat) : (Builtin.zeroCells zs.toArray n).toList = (List.replicate n zs).flatten := by
  rw [← range_mod zs n, Builtin.zeroCells]
  simp

theorem execOp_builtinW {o : Oper} {ρ : Operand → Value} {c : Call} {b : Builtin} {v : Value} {w' : World} (ho : o.op = .call c) (hc : c.callee = .builtin b)
    (h : ∀ cb, (builtin b c.argTypes o.type cb (c.args.map ρ)).run P w = .ok (.value v) w') : (execOp ρ o).run P w = .ok (.value v) w' := by
  simp only [execOp, ho, resolve, hc, Sem.run_bind, Sem.run_pure, Result.andThen_ok, invoke, h]

theorem good_copy {o : Oper} {ρ : Operand → Value} {c : Call} {s x : AV} {X Y : Value} {h : Hint} {cs : List AObj} {r : Res} {e : TypeId} (ho : o.op = .call c) (hc : c.callee = .builtin .copy) (hX : c.args.map ρ = #[X, Y]) (hx : den E s = some X) (hy : den E x = some Y) (he : (c.argTypes[0]?).bind P.underlying = some (.slice e))
    (hp : Pre E w ⟨s.name ++ x.name, s.name, []⟩ cs) (hr : copyA P h e s x cs = some r) (kk : AllP r.obl) : Good E w ⟨s.name ++ x.name, s.name, []⟩ r.upd r.new r.val ((execOp ρ o).run P w) := by
  unfold copyA at hr
  split at hr
  · rename_i ie nm off len cap ob0 cx hi
    split at hr
    · rename_i o0 oc ob n cc hk hel
      split at hr
      · rename_i o1 hs
        have key : ∃ o2, r.upd = o2 :: cx ∧ r.new = [] ∧ r.val = .int .i64 n ∧ o1 = o2 ∧ AllP ob ∧ n ≤ len ∧ off + cc.length ≤ oc.length := by
          split at hr
          · cases hr
            obtain ⟨k1, k2, k3, k4, _⟩ := allP_append.1 kk
            exact ⟨_, rfl, rfl, rfl, k4, k1, k2, k3⟩
          · cases hr
            obtain ⟨k1, k2, k3, _⟩ := allP_append.1 kk
            exact ⟨_, rfl, rfl, rfl, rfl, k1, k2, k3⟩
        obtain ⟨o2, e1, e2, e3, rfl, k1, k2, k3⟩ := key
        rw [e1, e2, e3]
        obtain ⟨b, cp, hb, rfl⟩ := slice_den hx
        have hp' : Pre E w ⟨nm :: x.name, [nm], []⟩ (ob0 :: cx) := hp
        obtain ⟨b', cp', hb', hob⟩ := hp'.objs 0 nm ob0 rfl rfl
        rw [hb] at hb'; cases hb'
        obtain ⟨xs, hxs, hlen, hrn⟩ := elemsA_run (P := P) hel k1 hy (fun i m o1 h1 h2 => hp'.objs (i + 1) m o1 (by simpa using h1) (by simpa using h2))
        obtain ⟨r1, r2⟩ := hrn w rfl
        obtain ⟨w', hr', ho', hu⟩ := run_storeCells_obj (P := P) hxs hob hk hs k3
        obtain ⟨t0, h0, hu0⟩ := Option.bind_eq_some_iff.1 he
        have hsz : P.cellsOf e = ie.size := by simp [Program.cellsOf, hi]
        refine ⟨.int .i64 n, w', E, .inl (execOp_builtinW ho hc fun cb => ?_), rfl, {
          le := .refl _, only := fun _ _ => rfl
          wrote := fun _ i n' o' h1 h2 => by
            cases i with
            | zero => simp [AV.name] at h1 h2; subst h1; subst h2; exact ⟨b, cp, hb, ho'⟩
            | succ i =>
              have h1 : x.name[i]? = some n' := by simpa [AV.name] using h1
              have h2 : cx[i]? = some o' := by simpa using h2
              obtain ⟨b2, c2, hb2, hob2⟩ := hp'.objs (i + 1) n' o' (by simpa using h1) (by simpa using h2)
              refine ⟨b2, c2, hb2, ?_⟩
              cases hl : o'.live with
              | false => cases o' <;> simp [AObj.live] at hl; trivial
              | true =>
                have hown : ob0.owned = true := by cases ob0 <;> first | rfl | simp [AObj.setCells] at hs
                have hne : nm ≠ n' := by
                  have := hp'.rdNodup rfl
                  rintro rfl
                  exact (List.nodup_cons.1 this).1 (List.mem_of_getElem? h1)
                refine hob2.block fun _ ht => hu.keep b2 ?_
                rintro rfl
                exact hp'.apart 0 (i + 1) nm n' ob0 o' b2 cp b2 c2 rfl (by simpa using h1) rfl (by simpa using h2) hown hl hb hb2 hne ht
          made := fun i n o h1 => by simp at h1
          keep := fun k hk hne => hu.keep k (by rintro rfl; exact hne nm (by simp [AV.name]) cp hb)
          newApart := fun i j n m o1 o2 b c b' c' h1 => by simp at h1
          grow := by rw [hu.size]; exact Nat.le_refl _
          os := hu.os, tape := hu.tape, output := hu.output }⟩
        have hmin : Nat.min n len = n := Nat.min_eq_left k2
        simp only [hX, builtin, Sem.run_bind, Builtin.copy_, h0, List.getElem?_toArray, List.getElem?_cons_zero, List.getElem?_cons_succ, run_underlying' hu0, Result.andThen_ok, Sem.run_pure, r1, run_sizeOf' hi, hsz, hmin, r2, hr', goInt]
      · cases hr
    · cases hr
  · cases hr

theorem clear_run {at_ : Array TypeId} {t e ty : TypeId} {Z : Value} {zs : List Value} {b off len cap : Nat} {w' : World} (ht : at_[0]? = some t) (hu : P.underlying t = some (.slice e)) (hZ : (zeroValue e).run P w = .ok Z w) (hze : Z.cells = zs.toArray)
    (hw' : (storeCells ⟨b, off, none⟩ (List.replicate len zs).flatten).run P w = .ok () w') : (Builtin.clear_ at_ ty #[.slice (some ⟨b, off, none⟩) len cap]).run P w = .ok (.tuple #[]) w' := by
  cases len with
  | zero =>
    have e : w' = w := by
      have h2 : (storeCells ⟨b, off, none⟩ ([] : List Value)).run P w = .ok () w := by simp [storeCells]
      simp only [List.replicate_zero, List.flatten_nil] at hw'
      rw [h2] at hw'; cases hw'; rfl
    subst e
    simp only [Builtin.clear_, ht, List.getElem?_toArray, List.getElem?_cons_zero, Sem.run_bind, run_underlying' hu, Result.andThen_ok, Sem.run_pure]
  | succ n =>
    rw [← zeroCells_eq] at hw'
    simp only [Builtin.clear_, ht, List.getElem?_toArray, List.getElem?_cons_zero, Sem.run_bind, run_underlying' hu, Result.andThen_ok, Sem.run_pure, hZ, hze, hw']

theorem good_clear {o : Oper} {ρ : Operand → Value} {c : Call} {x : AV} {X : Value} {h : Hint} {cs : List AObj} {r : Res} (ho : o.op = .call c) (hc : c.callee = .builtin .clear) (hX : c.args.map ρ = #[X]) (hx : den E x = some X)
    (hp : Pre E w ⟨x.name, x.name, []⟩ cs) (hr : clearA P h c x cs = some r) (kk : AllP r.obl) : Good E w ⟨x.name, x.name, []⟩ r.upd r.new r.val ((execOp ρ o).run P w) := by
  unfold clearA at hr
  split at hr
  · rename_i e hu0
    obtain ⟨t, ht, hu⟩ := Option.bind_eq_some_iff.1 hu0
    split at hr
    · rename_i z hz
      split at hr
      · cases hr
      · rename_i hn
        have hn : z.notTuple = true := by simpa using hn
        obtain ⟨Z, hZ, hd⟩ := run_zeroValue (w := w) (E := E) hz
        obtain ⟨zs, hzs, hze⟩ := notTuple_cells hn hd
        split at hr
        · cases hr
          have e : X = .slice none 0 0 := by simpa [den] using hx.symm
          subst e
          refine Good.pure rfl rfl (x := .tuple #[]) (execOp_builtinW ho hc fun cb => ?_) rfl
          simp only [hX, builtin, Builtin.clear_, ht, List.getElem?_toArray, List.getElem?_cons_zero, Sem.run_bind, run_underlying' hu, Result.andThen_ok, Sem.run_pure]
        · rename_i nm off len cap o'
          obtain ⟨b, c', hb, rfl⟩ := slice_den hx
          refine good_over (P := P) hp hb (denC_flat hzs len) (x := .tuple #[]) rfl hr kk fun w' hw' => execOp_builtinW ho hc fun cb => ?_
          simp only [hX, builtin, Sem.run_bind, clear_run ht hu hZ hze hw', Result.andThen_ok, Sem.run_pure]
        · rename_i nm len o'
          obtain ⟨b, c', hb, rfl⟩ := vec_den hx
          refine good_over (P := P) hp hb (denC_flat hzs len) (x := .tuple #[]) rfl hr kk fun w' hw' => execOp_builtinW ho hc fun cb => ?_
          simp only [hX, builtin, Sem.run_bind, clear_run ht hu hZ hze hw', Result.andThen_ok, Sem.run_pure]
        · cases hr
    · cases hr
  · cases hr

/-- Is it a call of a function? -/
def Op.calls : Op → Bool
  | .call c => match c.callee with | .builtin _ => false | _ => true
  | _ => false

theorem act_sound {o : Oper} {ρ : Operand → Value} {h : Hint} {vals : List AV} {F : Foot} {cs : List AObj} {r : Res} (hv : denL E vals = some (o.op.operands.toList.map ρ)) (hf : foot h o.op vals = some F) (hp : Pre E w F cs)
    (hr : act P h o.op vals cs = some r) (kk : AllP r.obl) : Good E w F r.upd r.new r.val ((execOp ρ o).run P w) := by
  generalize ho : o.op = op at hv hf hr
  unfold act at hr
  split at hr
  · -- move
    simp only [foot, Option.some.injEq] at hf
    exact good_moveA (.inl ho) hf hp (den1 (by simpa [Op.operands] using hv)) hr kk
  · simp only [foot, Option.some.injEq] at hf
    exact good_moveA (.inr ho) hf hp (den1 (by simpa [Op.operands] using hv)) hr kk
  · -- pick
    rename_i pc pa pb c a b
    cases hr; simp only [foot, Option.some.injEq] at hf
    simp only [Op.operands, List.map_cons, List.map_nil] at hv
    obtain ⟨h1, hv⟩ := denL_split hv
    obtain ⟨h2, h3⟩ := den2 hv
    have hc : ρ pc = .bool c := by simpa [den] using h1.symm
    refine good_fin (x := if c then ρ pa else ρ pb) (by rw [← hf]; rfl) (by rw [← hf]; rfl) kk fun _ => ⟨?_, by split <;> assumption⟩
    simp [execOp, ho, hc, asBool]
  · -- alloc
    rename_i t
    split at hr
    · rename_i z k hz hnm
      split at hr
      · rename_i hn
        cases hr; simp only [foot, Option.some.injEq] at hf
        rw [hnm] at hf; subst hf
        exact good_new kk fun _ => good_alloc ho hz hn (hp.fresh k (by simp))
      · cases hr
    · cases hr
  · -- box
    rename_i t p v
    split at hr
    · rename_i k hnm
      split at hr
      · rename_i hn
        cases hr; simp only [foot, Option.some.injEq] at hf
        rw [hnm] at hf; subst hf
        exact good_new kk fun _ => good_box ho (den1 (by simpa [Op.operands] using hv)) hn (hp.fresh k (by simp))
      · cases hr
    · cases hr
  · -- build
    rename_i t ps
    split at hr
    · rename_i ob c hb
      split at hr
      · rename_i hps
        cases hr
        have hF : F = .no := by
          cases vals with
          | nil => simp only [foot, Option.some.injEq] at hf; exact hf.symm
          | cons a vs => simp only [foot, Option.some.injEq] at hf; exact hf.symm
        have hps : ps.size = vals.length := by simpa using hps
        have hv' : denL E vals = some (ps.toList.map fun p => ρ p.2) := by
          rw [hv]; simp [Op.operands]
        obtain ⟨p1, p2⟩ := partsA_spec (E := E) (ρ := ρ) ps.toList vals (by simpa using hps) hv'
        obtain ⟨h1, e1, e2, e3⟩ := fin_spec kk
        obtain ⟨x, hx, hd⟩ := buildA_run (w := w) (qs := ps.toList.map fun p => (p.1, ρ p.2)) hb h1 (by rw [p1]; simp) (by rw [p2]; simp)
        rw [e1, e3]
        refine Good.pure (by rw [hF]; rfl) (by rw [hF]; rfl) ?_ hd
        have ee : (ps.map fun (i, x) => (i, ρ x)) = (ps.toList.map fun p => (p.1, ρ p.2)).toArray := by apply Array.ext'; simp
        simp [execOp, ho, ee, hx]
      · cases hr
    · cases hr
  · -- buildSlice
    rename_i t len ps
    split at hr
    · rename_i e k hu hnm
      split at hr
      · rename_i ie z hi hz
        split at hr
        · rename_i hc
          simp only [Bool.and_eq_true, decide_eq_true_eq, beq_iff_eq] at hc
          obtain ⟨⟨⟨⟨⟨⟨c1, c2⟩, c3⟩, c4⟩, c5⟩, c6⟩, c7⟩ := hc
          split at hr
          · rename_i ob c hfl
            have hF : F = ⟨[], [], [k]⟩ := by
              cases vals with
              | nil => simp only [foot, Option.some.injEq] at hf; rw [← hf, hnm]
              | cons a vs => simp only [foot, Option.some.injEq] at hf; rw [← hf, hnm]
            subst hF
            split at hr
            · cases hr
              exact good_seal (good_buildVec ho (by rw [hv]; simp [Op.operands]) hu hi hz c1 c2 c3 c4 c5 c6 c7 (hp.fresh k (by simp)) hfl rfl (by rw [← sealR_obl (h := h)]; exact kk))
            · cases hr
              exact good_buildSlice ho (by rw [hv]; simp [Op.operands]) hu hi hz c1 c2 c3 c4 c5 c6 c7 (hp.fresh k (by simp)) hfl rfl kk
          · cases hr
        · cases hr
      · cases hr
    · cases hr
  · -- makeSlice
    rename_i t p q k1 len k2 cap
    split at hr
    · rename_i e k hu hnm
      split at hr
      · rename_i ie z hi hz
        split at hr
        · rename_i hc
          simp only [Bool.and_eq_true, decide_eq_true_eq, beq_iff_eq] at hc
          obtain ⟨⟨c1, c2⟩, c3⟩ := hc
          cases hr; simp only [foot, Option.some.injEq] at hf
          rw [hnm] at hf; subst hf
          obtain ⟨h1, h2⟩ := den2 (by simpa [Op.operands] using hv)
          exact good_makeSlice ho h1 h2 hu hi hz c1 c2 c3 (hp.fresh k (by simp)) rfl kk
        · cases hr
      · cases hr
    · cases hr
  · -- load
    rename_i t p nm off
    simp only [foot, Option.some.injEq] at hf; subst hf
    split at hr
    · exact good_load ho (den1 (by simpa [Op.operands] using hv)) hp hr kk
    · cases hr
  · -- load out of a slice that is never written
    rename_i t p nm off
    simp only [foot, Option.some.injEq] at hf; subst hf
    split at hr
    · split at hr
      · rename_i hkn
        exact good_loadD ho (den1 (by simpa [Op.operands] using hv)) hp hkn hr kk
      · cases hr
    · cases hr
  · -- load out of rows
    rename_i t p nm w' i j
    simp only [foot, Option.some.injEq] at hf; subst hf
    split at hr
    · exact good_loadR ho (den1 (by simpa [Op.operands] using hv)) hp hr kk
    · exact good_load ho (rptr_vec (den1 (by simpa [Op.operands] using hv)) hp) hp hr kk
    · cases hr
  · -- load out of a table
    rename_i t p g off
    simp only [foot, Option.some.injEq] at hf; subst hf
    split at hr
    · rename_i l hg
      split at hr
      · rename_i q hq
        cases hr
        obtain ⟨g1, _, g3⟩ := hp.glob.all hg
        have hx : ρ p = .pointer (some ⟨g, off, none⟩) := by simpa [den] using (den1 (by simpa [Op.operands] using hv) : den E (.gptr g off) = some (ρ p)).symm
        exact good_loadG (r := q) ho (denC_gAll E hg) hx (g3 := g3) hq kk
      · cases hr
    · cases hr
  · -- store
    rename_i t p q nm off v
    simp only [foot, Option.some.injEq] at hf; subst hf
    obtain ⟨h1, h2⟩ := den2 (by simpa [Op.operands] using hv)
    split at hr
    · exact good_store ho h1 h2 hp hr kk
    · cases hr
  · -- nilCheck
    rename_i p nm off
    cases hr; simp only [foot, Option.some.injEq] at hf
    have h1 := den1 (by simpa [Op.operands] using hv)
    obtain ⟨b, c, hb, hpx⟩ := ptr_den h1
    refine good_fin (x := ρ p) (by rw [← hf]; rfl) (by rw [← hf]; rfl) kk fun _ => ⟨?_, h1⟩
    simp [execOp, ho, hpx]
  · rename_i p nm off
    cases hr; simp only [foot, Option.some.injEq] at hf
    have h1 := den1 (by simpa [Op.operands] using hv)
    have hpx : ρ p = .pointer (some ⟨nm, off, none⟩) := by simpa [den] using h1.symm
    refine good_fin (x := ρ p) (by rw [← hf]; rfl) (by rw [← hf]; rfl) kk fun _ => ⟨?_, h1⟩
    simp [execOp, ho, hpx]
  · rename_i p f a c
    cases hr; simp only [foot, Option.some.injEq] at hf
    have h1 := den1 (by simpa [Op.operands] using hv)
    refine good_fin (x := ρ p) (by rw [← hf]; rfl) (by rw [← hf]; rfl) kk fun _ => ⟨?_, h1⟩
    simp only [den] at h1
    split at h1
    · obtain ⟨nm, p', _, _, _, hpx⟩ := yfOf_some h1
      simp [execOp, ho, hpx]
    · split at h1
      · have hpx := (Option.some.inj h1).symm
        simp [execOp, ho, hpx]
      · cases h1
  · -- binOp
    rename_i op t p q yt x y
    split at hr
    · simp only [foot, Option.some.injEq] at hf
      obtain ⟨h1, h2⟩ := den2 (by simpa [Op.operands] using hv)
      unfold eqA at hr
      split at hr
      · cases hr
      · rename_i hg
        split at hr
        · rename_i a b r hval
          cases hr
          obtain ⟨k1, _⟩ := kk
          have k1 := k1 E w _ _ h1 h2
          obtain ⟨as, ha, e1⟩ := denC_agg.1 h1
          obtain ⟨bs, hb, e2⟩ := denC_agg.1 h2
          rw [e1, e2] at k1
          refine Good.pure (by rw [← hf]; rfl) (by rw [← hf]; rfl) (x := .bool r) ?_ rfl
          simp only [execOp, ho, e1, e2, Sem.run_bind, eqGuard_agg (by simpa using hg), Result.andThen_ok, binOp, Op.equal, Op.maxDepth, k1, Sem.run_pure]
        · rename_i a b r hval
          cases hr
          obtain ⟨k1, _⟩ := kk
          have k1 := k1 E w _ _ h1 h2
          obtain ⟨as, ha, e1⟩ := denC_agg.1 h1
          obtain ⟨bs, hb, e2⟩ := denC_agg.1 h2
          rw [e1, e2] at k1
          refine Good.pure (by rw [← hf]; rfl) (by rw [← hf]; rfl) (x := .bool (!r)) ?_ rfl
          simp only [execOp, ho, e1, e2, Sem.run_bind, eqGuard_agg (by simpa using hg), Result.andThen_ok, binOp, Op.equal, Op.maxDepth, k1, Sem.run_pure]
        · cases hr
    simp only [foot, Option.some.injEq] at hf
    obtain ⟨h1, h2⟩ := den2 (by simpa [Op.operands] using hv)
    split at hr
    · rename_i r hnil
      cases hr
      refine good_fin (x := .bool r) (by rw [← hf]; rfl) (by rw [← hf]; rfl) kk fun _ => ⟨?_, rfl⟩
      have := nilEq_run (P := P) (w := w) (op := .eql) (.inl rfl) h1 h2 hnil
      simp only [execOp, ho, Sem.run_bind, if_true] at this ⊢
      rw [this]; rfl
    · rename_i r hnil
      cases hr
      refine good_fin (x := .bool (!r)) (by rw [← hf]; rfl) (by rw [← hf]; rfl) kk fun _ => ⟨?_, rfl⟩
      have := nilEq_run (P := P) (w := w) (op := .neq) (.inr rfl) h1 h2 hnil
      simp only [execOp, ho, Sem.run_bind] at this ⊢
      rw [this]; rfl
    obtain ⟨ob, v, hq, rfl⟩ := ok1_some hr
    obtain ⟨g1, e1, e2, e3⟩ := fin_spec kk
    obtain ⟨z, hz, hd⟩ := binA_run (w := w) (p := p) (q := q) h1 h2 hq g1
    rw [e1, e3]
    refine Good.pure (by rw [← hf]; rfl) (by rw [← hf]; rfl) ?_ hd
    simp only [execOp, ho, Sem.run_bind] at hz ⊢
    rw [hz]; rfl
  · -- unOp
    rename_i op t p x
    obtain ⟨ob, v, hq, rfl⟩ := ok1_some hr
    simp only [foot, Option.some.injEq] at hf
    have h1 := den1 (by simpa [Op.operands] using hv)
    obtain ⟨g1, e1, e2, e3⟩ := fin_spec kk
    obtain ⟨z, hz, hd⟩ := unA_run (P := P) (w := w) h1 hq
    rw [e1, e3]
    refine Good.pure (by rw [← hf]; rfl) (by rw [← hf]; rfl) ?_ hd
    simp only [execOp, ho, Sem.run_bind, hz]; rfl
  · -- convert
    rename_i src dst p x
    have h1 := den1 (by simpa [Op.operands] using hv)
    split at hr
    · rename_i d e s k hs hd hnm
      split at hr
      · rename_i he
        cases hr; simp only [foot, Option.some.injEq] at hf
        rw [hnm] at hf; subst hf
        exact good_new kk fun _ => good_bytes ho h1 hs hd he (hp.fresh k (by simp))
      · cases hr
    · rename_i e hs hd hnm
      split at hr
      · rename_i he
        cases hr; simp only [foot, Option.some.injEq] at hf
        have hpx : ρ p = .slice none 0 0 := by simpa [den] using h1.symm
        refine good_fin (x := .string ByteArray.empty) (by rw [← hf]; rfl) (by rw [← hf]) kk fun _ => ⟨?_, rfl⟩
        simp [execOp, ho, hpx, convert, run_underlying' hs, run_underlying' hd, run_underlying' he, Conv.bytesToString]
      · cases hr
    · rename_i x' _ _ _ _ _ e o' hs hd hnm
      split at hr
      · cases hr
      rename_i hnd0
      have hnd : x'.isDsl = false := by simpa using hnd0
      split at hr
      · rename_i _ _ _ ob n c s he hel hval
        cases hr
        obtain ⟨k1, k2, _⟩ := allP_append.1 kk |>.imp id id
        have hF : F = ⟨x'.name, [], []⟩ := by
          unfold elemsA at hel
          split at hel
          · rename_i h0; exact absurd h0 (by simp)
          · rename_i h0; exact absurd h0 (by simp)
          · simp only [foot, Option.some.injEq] at hf; exact hf.symm
          · simp only [foot, Option.some.injEq] at hf; exact hf.symm
          · simp [AV.isDsl] at hnd
          · cases hel
        exact good_string ho h1 hs hd he hF hp hel k1 k2 hnd
      · cases hr
    · rename_i t nm off c ty hs hd hnm
      split at hr
      · rename_i j hj
        split at hr
        · rename_i hsz
          cases hr
          simp only [foot, Option.some.injEq] at hf
          subst hf
          obtain ⟨k1, _⟩ := kk
          obtain ⟨b, c', hb, hpx⟩ := ptr_den h1
          obtain ⟨b', c'', hb', xs, hxs, hw⟩ := hp.objs 0 nm _ rfl rfl
          rw [hb] at hb'; cases hb'
          have hl := denC_length hxs
          refine Good.pure rfl rfl (x := ρ p) ?_ h1
          have := Lib.run_to_unsafe (P := P) w (src := src) (dst := dst) (e := ty) (cells := xs.toArray.size) ⟨b, off, none⟩ hs hd hj hsz (by simp [World.shape?, hw]) (by have k1 : off < c.length := k1; simp; omega)
          simp only [execOp, ho, Sem.run_bind, hpx, this, Result.andThen_ok, Sem.run_pure]
        · cases hr
      · cases hr
    · rename_i u nm off c ty hs hd hnm
      split at hr
      · rename_i j hj
        cases hr
        simp only [foot, Option.some.injEq] at hf
        subst hf
        obtain ⟨k1, _⟩ := kk
        obtain ⟨b, c', hb, hpx⟩ := ptr_den h1
        obtain ⟨b', c'', hb', xs, hxs, hw⟩ := hp.objs 0 nm _ rfl rfl
        rw [hb] at hb'; cases hb'
        have hl := denC_length hxs
        refine Good.pure rfl rfl (x := ρ p) ?_ h1
        have := Lib.run_from_unsafe (P := P) w (src := src) (dst := dst) (e := ty) (cells := xs.toArray.size) ⟨b, off, none⟩ hs hd hj (by simp [World.shape?, hw]) (by
          have k1 : liesAt P P.depth ty (c.length / P.cellsOf ty) off u 1 = true := k1
          simpa [hl] using k1)
        simp only [execOp, ho, Sem.run_bind, hpx, this, Result.andThen_ok, Sem.run_pure]
      · cases hr
    · rename_i x' _ _ _ _ _ hnm _
      obtain ⟨ob, v, hq, rfl⟩ := ok1_some hr
      have hF : F.wr = false ∧ F.al = [] := by
        cases x' <;> simp only [foot, Option.some.injEq] at hf <;> subst hf <;> exact ⟨rfl, by first | rfl | exact hnm⟩
      obtain ⟨g1, e1, e2, e3⟩ := fin_spec kk
      obtain ⟨z, hz, hd⟩ := convA_run (w := w) h1 hq
      rw [e1, e3]
      refine Good.pure hF.1 hF.2 ?_ hd
      simp only [execOp, ho, Sem.run_bind, hz]; rfl
    · cases hr
  · -- makeInterface
    rename_i t p v
    simp only [foot, Option.some.injEq] at hf
    have h1 := den1 (by simpa [Op.operands] using hv)
    split at hr
    · cases hr
    · rename_i d hni hu
      split at hr
      · cases hr
        refine good_fin (x := .iface t (ρ p)) (by rw [← hf]; rfl) (by rw [← hf]; rfl) kk fun _ => ⟨?_, by simp [den, h1]⟩
        simp only [execOp, ho, Instr.makeInterface, Sem.run_bind, run_underlying' hu, Result.andThen_ok]
        cases d <;> first | rfl | exact absurd rfl (hni _)
      · cases hr
    · cases hr
  · -- makeFunc
    rename_i f a c
    split at hr
    · rename_i hl
      simp only [Bool.and_eq_true, Bool.not_eq_true'] at hl
      obtain ⟨hl, hfy⟩ := hl
      have hfy : f ≠ yF := fun e => by rw [e, Nat.beq_refl] at hfy; cases hfy
      cases hr
      have hF : F = .no := by
        cases vals with
        | nil => simp only [foot, Option.some.injEq] at hf; exact hf.symm
        | cons a vs => simp only [foot, Option.some.injEq] at hf; exact hf.symm
      have hv' : denL E vals = some ((a.map ρ).toList ++ (c.map ρ).toList) := by rw [hv]; simp [Op.operands]
      have h1 : denL E (vals.take a.size) = some (a.map ρ).toList := by
        have := denL_take hv' a.size; rw [this]; simp
      have h2 : denL E (vals.drop a.size) = some (c.map ρ).toList := by
        have := denL_drop hv' a.size; rw [this]; simp
      refine good_fin (x := .func (.func f) (a.map ρ) (c.map ρ)) (by rw [hF]; rfl) (by rw [hF]; rfl) kk fun _ => ⟨?_, by simp [den, h1, h2, hfy]; constructor <;> (apply Array.ext'; simp)⟩
      simp only [execOp, ho, Instr.makeFunc, Sem.run_bind]; rfl
    · cases hr
  · -- slice
    rename_i t p lo hi mx x vs
    split at hr
    · cases hr
    · rename_i hm
      rw [operands_slice] at hv
      simp only [List.map_cons] at hv
      obtain ⟨h1, h2⟩ := denL_split hv
      exact good_sliceE ho h1 h2 hf hp (by intro hh; cases hi <;> simp_all) hr kk
  · -- fieldAddr
    rename_i t p f nm off
    simp only [foot, Option.some.injEq] at hf
    split at hr
    · rename_i fs hu
      split at hr
      · rename_i fd hfd
        split at hr
        · rename_i hc
          simp only [Bool.and_eq_true, decide_eq_true_eq] at hc
          obtain ⟨i, hi⟩ := Option.isSome_iff_exists.1 hc.1
          cases hr
          obtain ⟨b, c, hb, hpx⟩ := ptr_den (den1 (by simpa [Op.operands] using hv))
          refine good_fin (x := .pointer (some ⟨b, off + fd.offset, none⟩)) (by rw [← hf]; rfl) (by rw [← hf]; rfl) kk fun _ => ⟨?_, by simp [den, hb]⟩
          simp only [execOp, ho, Instr.fieldAt, Sem.run_bind, run_underlying' hu, Result.andThen_ok, hfd, hpx, Instr.sureAddr, Sem.run_pure, fieldPlace, run_sizeOf' hi]
          rw [if_neg hc.2]
          simp only [Sem.run_pure, Result.andThen_ok, Addr.add_none]
        · cases hr
      · cases hr
    · cases hr
  · -- fieldAddr, in a slice that is never written
    rename_i t p f nm off
    simp only [foot, Option.some.injEq] at hf
    split at hr
    · rename_i fs hu
      split at hr
      · rename_i fd hfd
        split at hr
        · rename_i hc
          simp only [Bool.and_eq_true, decide_eq_true_eq] at hc
          obtain ⟨i, hi⟩ := Option.isSome_iff_exists.1 hc.1
          cases hr
          obtain ⟨b, c, hb, hz, hpx⟩ := dptr_den (den1 (by simpa [Op.operands] using hv))
          refine good_fin (x := .pointer (some ⟨b, c.o + (off + fd.offset), none⟩)) (by rw [← hf]; rfl) (by rw [← hf]; rfl) kk fun _ => ⟨?_, by simp [den, hb, hz]⟩
          simp only [execOp, ho, Instr.fieldAt, Sem.run_bind, run_underlying' hu, Result.andThen_ok, hfd, hpx, Instr.sureAddr, Sem.run_pure, fieldPlace, run_sizeOf' hi]
          rw [if_neg hc.2]
          simp only [Sem.run_pure, Result.andThen_ok, Addr.add_none, Nat.add_assoc]
        · cases hr
      · cases hr
    · cases hr
  · -- fieldAddr, in a row
    rename_i t p f nm w' i0 j
    simp only [foot, Option.some.injEq] at hf
    split at hr
    · rename_i fs hu
      split at hr
      · rename_i fd hfd
        split at hr
        · rename_i hc
          simp only [Bool.and_eq_true, decide_eq_true_eq] at hc
          obtain ⟨i, hi⟩ := Option.isSome_iff_exists.1 hc.1
          cases hr
          obtain ⟨b, c, hb, hz, hpx⟩ := rptr_den (den1 (by simpa [Op.operands] using hv))
          refine good_fin (x := .pointer (some ⟨b, c.o + (i0 * w' + (j + fd.offset)), none⟩)) (by rw [← hf]; rfl) (by rw [← hf]; rfl) kk fun _ => ⟨?_, by simp [den, hb, hz]⟩
          simp only [execOp, ho, Instr.fieldAt, Sem.run_bind, run_underlying' hu, Result.andThen_ok, hfd, hpx, Instr.sureAddr, Sem.run_pure, fieldPlace, run_sizeOf' hi]
          rw [if_neg hc.2]
          simp only [Sem.run_pure, Result.andThen_ok, Addr.add_none, Nat.add_assoc]
        · cases hr
      · cases hr
    · cases hr
  · -- fieldAddr, in a table
    rename_i t p f nm off
    simp only [foot, Option.some.injEq] at hf
    split at hr
    · rename_i fs hu
      split at hr
      · rename_i fd hfd
        split at hr
        · rename_i hc
          simp only [Bool.and_eq_true, decide_eq_true_eq] at hc
          obtain ⟨i, hi⟩ := Option.isSome_iff_exists.1 hc.1
          cases hr
          have hpx : ρ p = .pointer (some ⟨nm, off, none⟩) := by simpa [den] using (den1 (by simpa [Op.operands] using hv) : den E (.gptr nm off) = some (ρ p)).symm
          refine good_fin (x := .pointer (some ⟨nm, off + fd.offset, none⟩)) (by rw [← hf]; rfl) (by rw [← hf]; rfl) kk fun _ => ⟨?_, by simp [den]⟩
          simp only [execOp, ho, Instr.fieldAt, Sem.run_bind, run_underlying' hu, Result.andThen_ok, hfd, hpx, Instr.sureAddr, Sem.run_pure, fieldPlace, run_sizeOf' hi]
          rw [if_neg hc.2]
          simp only [Sem.run_pure, Result.andThen_ok, Addr.add_none]
        · cases hr
      · cases hr
    · cases hr
  · -- field
    rename_i t p f c
    simp only [foot, Option.some.injEq] at hf
    split at hr
    · rename_i fs hu
      split at hr
      · rename_i fd hfd
        obtain ⟨xs, hxs, hpx⟩ := denC_agg.1 (den1 (by simpa [Op.operands] using hv))
        have hrun : ∀ x : Value, (part fd.type xs.toArray fd.offset).run P w = .ok x w → (execOp ρ o).run P w = .ok (.value x) w := by
          intro x hx
          simp only [execOp, ho, Instr.field, Sem.run_bind, run_underlying' hu, Result.andThen_ok, hfd, hpx, asAgg, Sem.run_pure, hx]
        split at hr
        · rename_i d hd
          split at hr
          · rename_i ha
            cases hr
            obtain ⟨x, hx, hdx⟩ := partA_run (P := P) (w := w) (t := fd.type) (off := fd.offset) (v := .agg ((c.drop fd.offset).take (P.cellsOf fd.type))) hxs (by simp [partA, hd, ha])
            exact good_fin (by rw [← hf]; rfl) (by rw [← hf]; rfl) kk fun _ => ⟨hrun x hx, hdx⟩
          · rename_i ha
            split at hr
            · rename_i v hv'
              cases hr
              obtain ⟨k1, _⟩ := kk
              obtain ⟨x, hx, hdx⟩ := partA_run (P := P) (w := w) (t := fd.type) (off := fd.offset) (v := v) hxs (by simp only [partA, hd]; rw [if_neg ha]; exact k1)
              exact Good.pure (by rw [← hf]; rfl) (by rw [← hf]; rfl) (hrun x hx) hdx
            · simp only [Option.map_eq_some_iff] at hr
              obtain ⟨v, k1, rfl⟩ := hr
              obtain ⟨x, hx, hdx⟩ := partA_run (P := P) (w := w) (t := fd.type) (off := fd.offset) (v := v) hxs (by simp only [partA, hd]; rw [if_neg ha]; exact k1)
              exact Good.pure (by rw [← hf]; rfl) (by rw [← hf]; rfl) (hrun x hx) hdx
        · cases hr
      · cases hr
    · cases hr
  · -- indexAddr
    rename_i t p q x k i
    simp only [foot, Option.some.injEq] at hf
    obtain ⟨h1, h2⟩ := den2 (by simpa [Op.operands] using hv)
    have hq : ρ q = .int k i := by simpa [den] using h2.symm
    split at hr
    · rename_i n e nm off hu
      split at hr
      · rename_i hi
        obtain ⟨ie, hi⟩ := Option.isSome_iff_exists.1 hi
        cases hr
        obtain ⟨b, c, hb, hpx⟩ := ptr_den h1
        refine good_fin (x := .pointer (some ⟨b, off + i.toNat * P.cellsOf e, none⟩)) (by rw [← hf]; rfl) (by rw [← hf]; rfl) kk fun hob => ⟨?_, by simp [den, hb]⟩
        obtain ⟨o1, o2, _⟩ := hob
        simp only [execOp, ho, Instr.indexAt, Sem.run_bind, hq, asIntOf, Sem.run_pure, Result.andThen_ok, run_underlying' hu, hpx, Instr.sureAddr, run_sizeOf' hi]
        rw [if_pos ⟨o1, o2⟩]
        simp only [Sem.run_bind, run_sizeOf' hi, Result.andThen_ok, Sem.run_pure, Addr.add_none]
      · cases hr
    · rename_i n e nm off hu
      split at hr
      · rename_i hi
        obtain ⟨ie, hi⟩ := Option.isSome_iff_exists.1 hi
        cases hr
        have hpx : ρ p = .pointer (some ⟨nm, off, none⟩) := by simpa [den] using h1.symm
        refine good_fin (x := .pointer (some ⟨nm, off + i.toNat * P.cellsOf e, none⟩)) (by rw [← hf]; rfl) (by rw [← hf]; rfl) kk fun hob => ⟨?_, by simp [den]⟩
        obtain ⟨o1, o2, _⟩ := hob
        simp only [execOp, ho, Instr.indexAt, Sem.run_bind, hq, asIntOf, Sem.run_pure, Result.andThen_ok, run_underlying' hu, hpx, Instr.sureAddr, run_sizeOf' hi]
        rw [if_pos ⟨o1, o2⟩]
        simp only [Sem.run_bind, run_sizeOf' hi, Result.andThen_ok, Sem.run_pure, Addr.add_none]
      · cases hr
    · rename_i e nm off len cap hu
      split at hr
      · rename_i hi
        obtain ⟨ie, hi⟩ := Option.isSome_iff_exists.1 hi
        cases hr
        obtain ⟨b, c, hb, hpx⟩ := slice_den h1
        refine good_fin (x := .pointer (some ⟨b, off + i.toNat * P.cellsOf e, none⟩)) (by rw [← hf]; rfl) (by rw [← hf]; rfl) kk fun hob => ⟨?_, by simp [den, hb]⟩
        obtain ⟨o1, o2, _⟩ := hob
        simp only [execOp, ho, Instr.indexAt, Sem.run_bind, hq, asIntOf, Sem.run_pure, Result.andThen_ok, run_underlying' hu, hpx, Instr.sureAddr, run_sizeOf' hi]
        rw [if_pos ⟨o1, o2⟩]
        simp only [Sem.run_bind, run_sizeOf' hi, Result.andThen_ok, Sem.run_pure, Addr.add_none]
      · cases hr
    · rename_i e nm len hu
      split at hr
      · rename_i hi
        obtain ⟨ie, hi⟩ := Option.isSome_iff_exists.1 hi
        cases hr
        obtain ⟨b, c, hb, hpx⟩ := vec_den h1
        obtain ⟨hz, h0, _⟩ := vec_cap h1 hb
        refine good_fin (x := .pointer (some ⟨b, i.toNat * P.cellsOf e, none⟩)) (by rw [← hf]; rfl) (by rw [← hf]; rfl) kk fun hob => ⟨?_, by split <;> simp [den, hb, hz, h0]⟩
        obtain ⟨o1, o2, _⟩ := hob
        simp only [execOp, ho, Instr.indexAt, Sem.run_bind, hq, asIntOf, Sem.run_pure, Result.andThen_ok, run_underlying' hu, hpx, Instr.sureAddr, run_sizeOf' hi]
        rw [if_pos ⟨o1, o2⟩]
        simp only [Sem.run_bind, run_sizeOf' hi, Result.andThen_ok, Sem.run_pure, Addr.add_none, Nat.zero_add]
      · cases hr
    · rename_i e nm len hu
      split at hr
      · rename_i hi
        obtain ⟨ie, hi⟩ := Option.isSome_iff_exists.1 hi
        cases hr
        obtain ⟨b, c, hb, hpx⟩ := dsl_den h1
        refine good_fin (x := .pointer (some ⟨b, c.o + i.toNat * P.cellsOf e, none⟩)) (by rw [← hf]; rfl) (by rw [← hf]; rfl) kk fun hob => ?_
        obtain ⟨o1, o2, _⟩ := hob
        rcases hpx with ⟨_, h0, _⟩ | ⟨hz, _, hpx⟩
        · subst h0; exact absurd o2 (by have : ¬ i < ((0 : Nat) : Int) := by omega
                                        exact this)
        · refine ⟨?_, by split <;> simp [den, hb, hz]⟩
          simp only [execOp, ho, Instr.indexAt, Sem.run_bind, hq, asIntOf, Sem.run_pure, Result.andThen_ok, run_underlying' hu, hpx, Instr.sureAddr, run_sizeOf' hi]
          rw [if_pos ⟨o1, o2⟩]
          simp only [Sem.run_bind, run_sizeOf' hi, Result.andThen_ok, Sem.run_pure, Addr.add_none]
      · cases hr
    · rename_i e nm w' off len hu
      split at hr
      · rename_i hi
        obtain ⟨ie, hi⟩ := Option.isSome_iff_exists.1 hi
        cases hr
        obtain ⟨b, c, hb, hz, _, hpx⟩ := vsl_den h1
        refine good_fin (x := .pointer (some ⟨b, c.o + off * w' + i.toNat * P.cellsOf e, none⟩)) (by rw [← hf]; rfl) (by rw [← hf]; rfl) kk fun hob => ?_
        obtain ⟨o1, o2, o3, _⟩ := hob
        have o3 : w' = P.cellsOf e := o3
        refine ⟨?_, by simp only [den, hb, hz, Option.bind_some, Bool.false_eq_true, if_false, o3, Nat.add_mul, Nat.add_zero, Nat.add_assoc]⟩
        simp only [execOp, ho, Instr.indexAt, Sem.run_bind, hq, asIntOf, Sem.run_pure, Result.andThen_ok, run_underlying' hu, hpx, Instr.sureAddr, run_sizeOf' hi]
        rw [if_pos ⟨o1, o2⟩]
        simp only [Sem.run_bind, run_sizeOf' hi, Result.andThen_ok, Sem.run_pure, Addr.add_none]
      · cases hr
    · cases hr
  · -- index
    rename_i t p q x k i
    simp only [foot, Option.some.injEq] at hf
    obtain ⟨h1, h2⟩ := den2 (by simpa [Op.operands] using hv)
    have hq : ρ q = .int k i := by simpa [den] using h2.symm
    split at hr
    · rename_i s hu
      have hpx : ρ p = .string ⟨s.toArray⟩ := by simpa [den] using h1.symm
      have key : ∀ c : UInt8, 0 ≤ i → s[i.toNat]? = some c → (execOp ρ o).run P w = .ok (.value (.int .u8 c.toNat)) w := by
        intro c h0 hc
        have hget : (ByteArray.mk s.toArray)[i.toNat]? = some c := by
          obtain ⟨hlt, he⟩ := List.getElem?_eq_some_iff.1 hc
          have hlt' : i.toNat < (ByteArray.mk s.toArray).size := hlt
          rw [getElem?_pos (ByteArray.mk s.toArray) i.toNat hlt', ← he]
          rfl
        simp only [execOp, ho, Instr.index, Sem.run_bind, hq, asIntOf, Sem.run_pure, Result.andThen_ok, run_underlying' hu, hpx]
        rw [if_pos h0, hget]
        rfl
      split at hr
      · rename_i b hv'
        cases hr
        obtain ⟨o1, o2, _⟩ := kk
        obtain ⟨c, hc, hcb⟩ := Option.map_eq_some_iff.1 o2
        refine Good.pure (by rw [← hf]; rfl) (by rw [← hf]; rfl) (x := .int .u8 b) ?_ rfl
        rw [← hcb]; exact key c o1 hc
      · cases hr
      · obtain ⟨c, hc, rfl⟩ := Option.map_eq_some_iff.1 hr
        obtain ⟨o1, _⟩ := kk
        exact Good.pure (by rw [← hf]; rfl) (by rw [← hf]; rfl) (x := .int .u8 c.toNat) (key c o1 hc) rfl
    · rename_i n e c hu
      obtain ⟨xs, hxs, hpx⟩ := denC_agg.1 h1
      split at hr
      · rename_i d hd
        obtain ⟨ie, hie⟩ := underlying_info hd
        have key : ∀ x, 0 ≤ i → i < n → (part e xs.toArray (i.toNat * P.cellsOf e)).run P w = .ok x w → (execOp ρ o).run P w = .ok (.value x) w := by
          intro x o1 o2 hx
          simp only [execOp, ho, Instr.index, Sem.run_bind, hq, asIntOf, Sem.run_pure, Result.andThen_ok, run_underlying' hu, hpx]
          rw [if_pos ⟨o1, o2⟩]
          simp only [Sem.run_bind, run_sizeOf' hie, Result.andThen_ok, hx]
        split at hr
        · rename_i ha
          cases hr
          obtain ⟨x, hx, hdx⟩ := partA_run (P := P) (w := w) (t := e) (off := i.toNat * P.cellsOf e) (v := .agg ((c.drop (i.toNat * P.cellsOf e)).take (P.cellsOf e))) hxs (by simp [partA, hd, ha])
          exact good_fin (by rw [← hf]; rfl) (by rw [← hf]; rfl) kk fun hob => ⟨key x hob.1 hob.2.1 hx, hdx⟩
        · rename_i ha
          split at hr
          · rename_i v hv'
            cases hr
            obtain ⟨k1, k2, k3, _⟩ := kk
            obtain ⟨x, hx, hdx⟩ := partA_run (P := P) (w := w) (t := e) (off := i.toNat * P.cellsOf e) (v := v) hxs (by simp only [partA, hd]; rw [if_neg ha]; exact k3)
            exact Good.pure (by rw [← hf]; rfl) (by rw [← hf]; rfl) (key x k1 k2 hx) hdx
          · obtain ⟨v, k3, rfl⟩ := Option.map_eq_some_iff.1 hr
            obtain ⟨k1, k2, _⟩ := kk
            obtain ⟨x, hx, hdx⟩ := partA_run (P := P) (w := w) (t := e) (off := i.toNat * P.cellsOf e) (v := v) hxs (by simp only [partA, hd]; rw [if_neg ha]; exact k3)
            exact Good.pure (by rw [← hf]; rfl) (by rw [← hf]; rfl) (key x k1 k2 hx) hdx
      · cases hr
    · cases hr
  · -- extract
    rename_i p i vs
    simp only [foot, Option.some.injEq] at hf
    have h1 := den1 (by simpa [Op.operands] using hv)
    obtain ⟨v, hv', rfl⟩ := Option.map_eq_some_iff.1 hr
    simp only [den, Option.map_eq_some_iff] at h1
    obtain ⟨xs, hxs, hpx⟩ := h1
    obtain ⟨x, hx, hdx⟩ := denL_get hxs hv'
    refine good_fin (by rw [← hf]; rfl) (by rw [← hf]; rfl) kk fun _ => ⟨?_, hdx⟩
    simp only [execOp, ho, Instr.extract, Sem.run_bind, ← hpx, List.getElem?_toArray, hx, Sem.run_pure, Result.andThen_ok]
  · -- range
    rename_i t p s
    split at hr
    · rename_i k hu hnm
      cases hr; simp only [foot, Option.some.injEq] at hf
      rw [hnm] at hf; subst hf
      have hpx : ρ p = .string ⟨s.toArray⟩ := by
        have := den1 (by simpa [Op.operands] using hv); simpa [den] using this.symm
      refine good_new kk fun _ => ⟨.pointer (some ⟨w.heap.size, 0, none⟩), { w with heap := w.heap.push (.stringIter ⟨s.toArray⟩ 0) }, E.set k (w.heap.size, 0), .inl ?_, by simp [den, Env.set_same], .push rfl rfl rfl rfl (hp.fresh k (by simp)) (push_new rfl) (fun e => absurd rfl e)⟩
      simp only [execOp, ho, Instr.range, Sem.run_bind, run_underlying' hu, Result.andThen_ok, hpx, Sem.run_pure, run_newObj]
    · cases hr
  · -- next
    rename_i p nm
    simp only [foot, Option.some.injEq] at hf
    exact good_next (h := h) ho (den1 (by simpa [Op.operands] using hv)) hf.symm hp (by simpa only [act] using hr) kk
  · -- the builtin functions
    rename_i c
    split at hr
    · rename_i hc
      have hv' := args1 hc hv
      split at hr
      · rename_i t x ht
        have hF : F = .no := by simp only [foot, hc, Option.some.injEq] at hf; exact hf.symm
        obtain ⟨v, hl, rfl⟩ := Option.map_eq_some_iff.1 hr
        obtain ⟨X, hX⟩ : ∃ X, c.args.map ρ = #[X] := by
          have hl1 := denL_length hv'
          generalize c.args.map ρ = A at hl1
          obtain ⟨l⟩ := A
          match l, hl1 with
          | [X], _ => exact ⟨X, rfl⟩
        rw [hX] at hv'
        obtain ⟨z, hz, hdz⟩ := lenA_run (P := P) (w := w) hl (den1 hv') c.argTypes ht o.type
        refine good_fin (by rw [hF]; rfl) (by rw [hF]; rfl) kk fun _ => ⟨execOp_builtin1 ho hc fun cb => ?_, hdz⟩
        simp only [hX, builtin, Sem.run_bind, hz, Result.andThen_ok, Sem.run_pure]
      · cases hr
    · rename_i hc
      have hv' := args1 hc hv
      split at hr
      · rename_i x y
        have hF : F = .no := by simp only [foot, hc, Option.some.injEq] at hf; exact hf.symm
        obtain ⟨v, hl, rfl⟩ := Option.map_eq_some_iff.1 hr
        unfold minA at hl
        split at hl
        · rename_i k1 a k2 b
          cases hl
          have hX : c.args.map ρ = #[.int k1 a, .int k2 b] := by
            have : denL E [AV.int k1 a, AV.int k2 b] = some [.int k1 a, .int k2 b] := by simp [denL, den]
            rw [this] at hv'
            apply Array.ext'; simpa using (Option.some.inj hv').symm
          refine good_fin (by rw [hF]; rfl) (by rw [hF]; rfl) kk fun _ => ⟨execOp_builtin1 ho hc fun cb => ?_, rfl⟩
          simp only [hX, builtin, Builtin.min_]
          simp [Builtin.min2]
        · cases hl
      · cases hr
    · rename_i hc
      have hv' := args1 hc hv
      split at hr
      · rename_i x y
        have hF : F = .no := by simp only [foot, hc, Option.some.injEq] at hf; exact hf.symm
        obtain ⟨v, hl, rfl⟩ := Option.map_eq_some_iff.1 hr
        unfold maxA at hl
        split at hl
        · rename_i k1 a k2 b
          cases hl
          have hX : c.args.map ρ = #[.int k1 a, .int k2 b] := by
            have : denL E [AV.int k1 a, AV.int k2 b] = some [.int k1 a, .int k2 b] := by simp [denL, den]
            rw [this] at hv'
            apply Array.ext'; simpa using (Option.some.inj hv').symm
          refine good_fin (by rw [hF]; rfl) (by rw [hF]; rfl) kk fun _ => ⟨execOp_builtin1 ho hc fun cb => ?_, rfl⟩
          simp only [hX, builtin, Builtin.max_]
          simp [Builtin.max2]
        · cases hl
      · cases hr
    · rename_i hc
      have hv' := args1 hc hv
      split at hr
      · rename_i s x
        simp only [foot, hc, Option.some.injEq] at hf
        have hl : c.args.size = 2 := by have := denL_length hv'; simpa using this
        obtain ⟨p, q, ha⟩ : ∃ p q, c.args.toList = [p, q] := by
          cases hh : c.args with
          | mk l =>
            rw [hh] at hl
            match l, hl with
            | [p, q], _ => exact ⟨p, q, rfl⟩
        have hv2 : denL E [s, x] = some [ρ p, ρ q] := by rw [hv']; simp [ha]
        obtain ⟨h1, h2⟩ := den2 hv2
        obtain ⟨r0, hr0, rfl⟩ := Option.map_eq_some_iff.1 hr
        exact good_seal (good_append ho hc ha h1 h2 hf.symm hp hr0 (by rw [← sealR_obl (h := h)]; exact kk))
      · cases hr
    · rename_i hc
      have hv' := args1 hc hv
      split at hr
      · rename_i x
        simp only [foot, hc, Option.some.injEq] at hf
        subst hf
        obtain ⟨X, hX⟩ : ∃ X, c.args.map ρ = #[X] := by
          have hl1 := denL_length hv'
          generalize c.args.map ρ = A at hl1
          obtain ⟨l⟩ := A
          match l, hl1 with
          | [X], _ => exact ⟨X, rfl⟩
        rw [hX] at hv'
        exact good_clear ho hc hX (den1 hv') hp hr kk
      · cases hr
    · rename_i hc
      have hv' := args1 hc hv
      unfold sliceDataA at hr
      split at hr
      · cases hr
        have hX : c.args.map ρ = #[.slice none 0 0] := by
          have : denL E [AV.nilslice] = some [.slice none 0 0] := by simp [denL, den]
          rw [this] at hv'
          apply Array.ext'; simpa using (Option.some.inj hv').symm
        have hF : F = ⟨[], [], []⟩ := by simp only [foot, hc, Option.some.injEq] at hf; exact hf.symm
        refine Good.pure (by rw [hF]; rfl) (by rw [hF]) (x := .pointer none) (execOp_builtinW ho hc fun cb => ?_) rfl
        simp only [hX, builtin, Sem.run_bind, Lib.run_unsafeSliceData_nil w, Result.andThen_ok, Sem.run_pure]
      · rename_i nm len cs' t sz
        cases hr
        have hF : F = ⟨[nm], [], []⟩ := by simp only [foot, hc, Option.some.injEq] at hf; exact hf.symm
        subst hF
        obtain ⟨k1, _⟩ := kk
        have k1 : 0 < cs'.length := k1
        obtain ⟨X, hX⟩ : ∃ X, c.args.map ρ = #[X] := by
          have hl1 := denL_length hv'
          generalize c.args.map ρ = A at hl1
          obtain ⟨l⟩ := A
          match l, hl1 with
          | [X], _ => exact ⟨X, rfl⟩
        rw [hX] at hv'
        obtain ⟨b, cap, hb, rfl⟩ := vec_den (den1 hv')
        obtain ⟨b', c'', hb', xs, ys, hxs, hw, hl, hoz⟩ := hp.objs 0 nm _ rfl rfl
        rw [hb] at hb'; cases hb'
        have hcap : cap.n ≠ 0 := by
          intro h0
          rw [h0] at hl
          have := denC_length hxs
          simp at hl; rw [hl.1] at this; simp at this; omega
        refine Good.pure rfl rfl (x := .pointer (some ⟨b, 0, none⟩)) (execOp_builtinW ho hc fun cb => ?_) (by simp [den, hb])
        simp only [hX, builtin, Sem.run_bind, Lib.run_unsafeSliceData_row w _ _ _ _ _ hcap, Result.andThen_ok, Sem.run_pure]
      · rename_i nm len cs' t sz
        cases hr
        have hF : F = ⟨[nm], [], []⟩ := by simp only [foot, hc, Option.some.injEq] at hf; exact hf.symm
        subst hF
        obtain ⟨k1, _⟩ := kk
        have k1 : 0 < cs'.length := k1
        obtain ⟨X, hX⟩ : ∃ X, c.args.map ρ = #[X] := by
          have hl1 := denL_length hv'
          generalize c.args.map ρ = A at hl1
          obtain ⟨l⟩ := A
          match l, hl1 with
          | [X], _ => exact ⟨X, rfl⟩
        rw [hX] at hv'
        obtain ⟨b, cap, hb, rfl⟩ := vec_den (den1 hv')
        obtain ⟨b', c'', hb', xs, ys, hxs, hw, hl, hoz⟩ := hp.objs 0 nm _ rfl rfl
        rw [hb] at hb'; cases hb'
        have hcap : cap.n ≠ 0 := by
          intro h0
          rw [h0] at hl
          have := denC_length hxs
          simp at hl; rw [hl.1] at this; simp at this; omega
        refine Good.pure rfl rfl (x := .pointer (some ⟨b, 0, none⟩)) (execOp_builtinW ho hc fun cb => ?_) (by simp [den, hb])
        simp only [hX, builtin, Sem.run_bind, Lib.run_unsafeSliceData_row w _ _ _ _ _ hcap, Result.andThen_ok, Sem.run_pure]
      · cases hr
    · rename_i hc
      have hv' := args1 hc hv
      split at hr
      · rename_i t x ht
        have hF : F = .no := by simp only [foot, hc, Option.some.injEq] at hf; exact hf.symm
        obtain ⟨v, hl, rfl⟩ := Option.map_eq_some_iff.1 hr
        obtain ⟨X, hX⟩ : ∃ X, c.args.map ρ = #[X] := by
          have hl1 := denL_length hv'
          generalize c.args.map ρ = A at hl1
          obtain ⟨l⟩ := A
          match l, hl1 with
          | [X], _ => exact ⟨X, rfl⟩
        rw [hX] at hv'
        obtain ⟨z, hz, hdz⟩ := capA_run (P := P) (w := w) hl (den1 hv') c.argTypes ht o.type
        refine good_fin (by rw [hF]; rfl) (by rw [hF]; rfl) kk fun _ => ⟨execOp_builtin1 ho hc fun cb => ?_, hdz⟩
        simp only [hX, builtin, Sem.run_bind, hz, Result.andThen_ok, Sem.run_pure]
      · cases hr
    · rename_i hc
      have hv' := args1 hc hv
      split at hr
      · rename_i e s he
        split at hr
        · rename_i hcond
          simp only [Bool.and_eq_true] at hcond
          obtain ⟨hie, hsl⟩ := hcond
          obtain ⟨ie, hi⟩ := Option.isSome_iff_exists.1 hie
          simp only [Option.bind_eq_some_iff] at he
          obtain ⟨t0, h0, hu0⟩ := he
          cases hr
          have hF : F = ⟨s.name ++ [], s.name, []⟩ := by simp only [foot, hc, Option.some.injEq, AV.name] at hf; exact hf.symm
          subst hF
          obtain ⟨X, Y, hX⟩ : ∃ X Y, c.args.map ρ = #[X, Y] := by
            have hl1 := denL_length hv'
            generalize c.args.map ρ = A at hl1
            obtain ⟨l⟩ := A
            match l, hl1 with
            | [X, Y], _ => exact ⟨X, Y, rfl⟩
          rw [hX] at hv'
          obtain ⟨d1, d2⟩ := den2 hv'
          have hY : Y = .slice none 0 0 := by simpa [den] using d2.symm
          subst hY
          obtain ⟨base, dl, dc, rfl⟩ : ∃ base dl dc, X = .slice base dl dc := by
            cases s <;> simp [AV.isSlice] at hsl
            · obtain ⟨b, c', _, rfl⟩ := slice_den d1; exact ⟨_, _, _, rfl⟩
            · obtain ⟨b, c', _, rfl⟩ := vec_den d1; exact ⟨_, _, _, rfl⟩
            · exact ⟨none, 0, 0, by simpa [den] using d1.symm⟩
          refine ⟨.int .i64 0, w, E, .inl (execOp_builtin1 ho hc fun cb => ?_), rfl, {
            le := .refl _, only := fun _ _ => rfl
            wrote := fun _ i n o h1 h2 => hp.objs i n o h1 h2
            made := fun i n o h1 => by simp at h1
            keep := fun k hk hne => rfl
            newApart := fun i j n m o1 o2 b c b' c' h1 => by simp at h1
            grow := Nat.le_refl _
            os := rfl, tape := rfl, output := rfl }⟩
          have hrun : (Builtin.copy_ c.argTypes o.type #[.slice base dl dc, .slice none 0 0]).run P w = .ok (.int .i64 0) w := by
            simp only [Builtin.copy_, h0, List.getElem?_toArray, List.getElem?_cons_zero, List.getElem?_cons_succ, Sem.run_bind, run_underlying' hu0, Result.andThen_ok, Builtin.lenOf, Sem.run_pure, run_sizeOf' hi, Builtin.firstCells]
            have : Nat.min 0 dl = 0 := Nat.zero_min dl
            cases base <;> simp [storeCells, goInt, this]
          simp only [hX, builtin, Sem.run_bind, hrun, Result.andThen_ok, Sem.run_pure]
        · cases hr
      · rename_i e s x he _
        have hF : F = ⟨s.name ++ x.name, s.name, []⟩ := by simp only [foot, hc, Option.some.injEq] at hf; exact hf.symm
        subst hF
        obtain ⟨X, Y, hX⟩ : ∃ X Y, c.args.map ρ = #[X, Y] := by
          have hl1 := denL_length hv'
          generalize c.args.map ρ = A at hl1
          obtain ⟨l⟩ := A
          match l, hl1 with
          | [X, Y], _ => exact ⟨X, Y, rfl⟩
        rw [hX] at hv'
        obtain ⟨d1, d2⟩ := den2 hv'
        exact good_copy ho hc hX d1 d2 (by assumption) hp hr kk
      · cases hr
    · rename_i hc
      have hv' := args1 hc hv
      unfold unsafeStrA at hr
      split at hr
      · rename_i n pt it hat
        cases hr
        obtain ⟨k1, _⟩ := kk
        have k1 : n = 0 := k1
        subst k1
        have hX : c.args.map ρ = #[.pointer none, .int .i64 0] := by
          have : denL E [AV.nilptr, AV.int .i64 0] = some [.pointer none, .int .i64 0] := by simp [denL, den]
          rw [this] at hv'
          apply Array.ext'; simpa using (Option.some.inj hv').symm
        have hF : F = ⟨[], [], []⟩ := by simp only [foot, hc, Option.some.injEq] at hf; exact hf.symm
        have hA : c.argTypes = #[pt, it] := by apply Array.ext'; simpa using hat
        refine Good.pure (by rw [hF]; rfl) (by rw [hF]) (x := .string .empty) (execOp_builtinW ho hc fun cb => ?_) rfl
        simp only [hX, hA, builtin, Sem.run_bind, Lib.run_unsafeString_none w, Result.andThen_ok, Sem.run_pure]
      · rename_i nm n cs' t sz pt it hat
        split at hr
        · rename_i e0 hpt
          split at hr
          · rename_i hcond
            obtain ⟨rfl, hcond⟩ := hcond
            split at hr
            · rename_i s hval
              cases hr
              obtain ⟨k1, k2, k3, k4, _⟩ := kk
              have k1 : cs' = u8s s := k1
              have k2 : n = s.length := k2
              have k3 : s ≠ [] := k3
              have k4 : s.length < 9223372036854775808 := k4
              subst k1; subst k2
              have hF : F = ⟨[nm], [nm], []⟩ := by simp only [foot, hc, Option.some.injEq] at hf; exact hf.symm
              subst hF
              obtain ⟨X, Y, hX⟩ : ∃ X Y, c.args.map ρ = #[X, Y] := by
                have hl1 := denL_length hv'
                generalize c.args.map ρ = A at hl1
                obtain ⟨l⟩ := A
                match l, hl1 with
                | [X, Y], _ => exact ⟨X, Y, rfl⟩
              rw [hX] at hv'
              obtain ⟨d1, d2⟩ := den2 hv'
              obtain ⟨b, cap, hb, rfl⟩ := ptr_den d1
              have hY : Y = .int .i64 s.length := by simpa [den] using d2.symm
              subst hY
              obtain ⟨b', c'', hb', xs, ys, hxs, ⟨mk, hw, hmk⟩, hl, hoz⟩ := hp.objs 0 nm _ rfl rfl
              rw [hb] at hb'; cases hb'
              have hxe : xs = s.map fun b => Value.int .u8 b.toNat := by
                have := hxs.1; rw [denL_u8s] at this; exact (Option.some.inj this).symm
              have hA : c.argTypes = #[pt, it] := by apply Array.ext'; simpa using hat
              have run := Lib.run_unsafeString_row (P := P) w pt it o.type _ hpt hcond b (xs ++ ys).toArray.size (by simp [World.shape?, hw]) s k3 (by simp [hxe]) (by omega) (fun j x hx => by
                rw [Addr.add_none, cell_of_block hw, Nat.zero_add]
                have hlt := (List.getElem?_eq_some_iff.1 hx).1
                simp [hxe, List.getElem?_append_left, hlt] at hx ⊢
                rw [hx])
              have hu : Upd b w (w.freeze ⟨b, 0, none⟩ s.length) := by
                unfold World.freeze
                split
                · exact .refl b w
                · exact ⟨fun k hk => by simp only [Array.getElem?_modify]; rw [if_neg (by omega)], by simp, rfl, rfl, rfl⟩
              refine ⟨.string ⟨s.toArray⟩, _, E, .inl (execOp_builtinW ho hc fun cb => ?_), rfl, .write hb ⟨xs, ys, hxs, freeze_block hw, hl, hoz⟩ hu⟩
              simp only [hX, hA, builtin, Sem.run_bind, run, Result.andThen_ok, Sem.run_pure]
            · cases hr
          · cases hr
        · cases hr
      · rename_i nm n cs' t sz pt it hat
        split at hr
        · rename_i e0 hpt
          split at hr
          · rename_i hcond
            obtain ⟨rfl, hcond⟩ := hcond
            split at hr
            · rename_i s hval
              cases hr
              obtain ⟨k1, k2, k3, k4, _⟩ := kk
              have k1 : cs' = u8s s := k1
              have k2 : n = s.length := k2
              have k3 : s ≠ [] := k3
              have k4 : s.length < 9223372036854775808 := k4
              subst k1; subst k2
              have hF : F = ⟨[nm], [nm], []⟩ := by simp only [foot, hc, Option.some.injEq] at hf; exact hf.symm
              subst hF
              obtain ⟨X, Y, hX⟩ : ∃ X Y, c.args.map ρ = #[X, Y] := by
                have hl1 := denL_length hv'
                generalize c.args.map ρ = A at hl1
                obtain ⟨l⟩ := A
                match l, hl1 with
                | [X, Y], _ => exact ⟨X, Y, rfl⟩
              rw [hX] at hv'
              obtain ⟨d1, d2⟩ := den2 hv'
              obtain ⟨b, cap, hb, rfl⟩ := ptr_den d1
              have hY : Y = .int .i64 s.length := by simpa [den] using d2.symm
              subst hY
              obtain ⟨b', c'', hb', xs, ys, hxs, ⟨mk, hw⟩, hl, hoz⟩ := hp.objs 0 nm _ rfl rfl
              rw [hb] at hb'; cases hb'
              have hxe : xs = s.map fun b => Value.int .u8 b.toNat := by
                have := hxs.1; rw [denL_u8s] at this; exact (Option.some.inj this).symm
              have hA : c.argTypes = #[pt, it] := by apply Array.ext'; simpa using hat
              have run := Lib.run_unsafeString_row (P := P) w pt it o.type _ hpt hcond b (xs ++ ys).toArray.size (by simp [World.shape?, hw]) s k3 (by simp [hxe]) (by omega) (fun j x hx => by
                rw [Addr.add_none, cell_of_block hw, Nat.zero_add]
                have hlt := (List.getElem?_eq_some_iff.1 hx).1
                simp [hxe, List.getElem?_append_left, hlt] at hx ⊢
                rw [hx])
              have hu : Upd b w (w.freeze ⟨b, 0, none⟩ s.length) := by
                unfold World.freeze
                split
                · exact .refl b w
                · exact ⟨fun k hk => by simp only [Array.getElem?_modify]; rw [if_neg (by omega)], by simp, rfl, rfl, rfl⟩
              refine ⟨.string ⟨s.toArray⟩, _, E, .inl (execOp_builtinW ho hc fun cb => ?_), rfl, .write hb ⟨xs, ys, hxs, freeze_block hw, hl, hoz⟩ hu⟩
              simp only [hX, hA, builtin, Sem.run_bind, run, Result.andThen_ok, Sem.run_pure]
            · cases hr
          · cases hr
        · cases hr
      · cases hr
    · cases hr
  · cases hr

end Go.Proofs.YtebieapmoaaahaaGreatDoor.Sx

/- The symbolic executor, part M: contracts of functions, and one step of a region on a state. -/
set_option linter.unusedSimpArgs false
set_option linter.unusedVariables false
namespace Go.Proofs.YtebieapmoaaahaaGreatDoor.Sx
open Go

variable {P : Program} {E : Env} {w : World}

mutual
def AV.ren (r : List Nat) : AV → AV
  | .ptr nm off => match r[nm]? with | some m => .ptr m off | none => .bad
  | .slice nm off l c => match r[nm]? with | some m => .slice m off l c | none => .bad
  | .vec nm l => match r[nm]? with | some m => .vec m l | none => .bad
  | .dsl nm l => match r[nm]? with | some m => .dsl m l | none => .bad
  | .dptr nm l => match r[nm]? with | some m => .dptr m l | none => .bad
  | .rptr nm w i j => match r[nm]? with | some m => .rptr m w i j | none => .bad
  | .vsl nm w i j => match r[nm]? with | some m => .vsl m w i j | none => .bad
  | .agg cs => .agg (renL r cs)
  | .tuple cs => .tuple (renL r cs)
  | .func f as cs => .func f (renL r as) (renL r cs)
  | .iface t v => .iface t (v.ren r)
  | .bool b => .bool b
  | .int k n => .int k n
  | .str s => .str s
  | .nilptr => .nilptr
  | .nilslice => .nilslice
  | .gptr g off => .gptr g off
  | .nilfunc => .nilfunc
  | .niliface => .niliface
  | .bad => .bad
def renL (r : List Nat) : List AV → List AV
  | [] => []
  | v :: vs => v.ren r :: renL r vs
end

def AObj.ren (r : List Nat) : AObj → AObj
  | .cells cs t => .cells (renL r cs) t
  | .vec cs t sz => .vec (renL r cs) t sz
  | .ro off cs => .ro off (renL r cs)
  | .flat m cs => .flat m (renL r cs)
  | .flatR m sh rows => .flatR m sh rows
  | .iter s p => .iter s p
  | .shut cs t sz => .shut (renL r cs) t sz
  | .loopR up n ix cs ps asg body => .loopR up n ix (renL r cs) ps asg body
  | .dead => .dead

theorem yfOf_ren {r : List Nat} {A B : Env} (h : ∀ i m p, r[i]? = some m → A m = some p → B i = some p) {as cs : List AV} {x : Value} (e : yfOf A (renL r as) (renL r cs) = some x) : yfOf B as cs = some x := by
  obtain ⟨nm, p, h1, h2, hp, rfl⟩ := yfOf_some e
  have hc : cs = [] := by cases cs with | nil => rfl | cons a l => simp [renL] at h2
  subst hc
  match as, h1 with
  | [v], h1 =>
    simp only [renL, List.cons.injEq, and_true] at h1
    cases v <;> simp only [AV.ren] at h1 <;> first | (cases h1; done) | (split at h1 <;> first | (cases h1; done) | skip)
    rename_i n off m hm
    cases h1
    simp [yfOf, h _ _ _ hm hp]
  | _ :: _ :: _, h1 => simp [renL] at h1
theorem yfOf_ren' {r : List Nat} {A B : Env} (h : ∀ i p, B i = some p → ∃ m, r[i]? = some m ∧ A m = some p) {as cs : List AV} {x : Value} (e : yfOf B as cs = some x) : yfOf A (renL r as) (renL r cs) = some x := by
  obtain ⟨nm, p, rfl, rfl, hp, rfl⟩ := yfOf_some e
  obtain ⟨m, hm, ha⟩ := h _ _ hp
  simp [renL, AV.ren, hm, yfOf, ha]
mutual
theorem ren_den {r : List Nat} {A B : Env} (h : ∀ i m p, r[i]? = some m → A m = some p → B i = some p) : ∀ (v : AV) (x : Value), den A (v.ren r) = some x → den B v = some x
  | .ptr nm off, x, e => by
    simp only [AV.ren] at e
    split at e
    · rename_i m hm; obtain ⟨b, c, hb, rfl⟩ := ptr_den e; simp [den, h _ _ _ hm hb]
    · simp [den] at e
  | .slice nm off l c, x, e => by
    simp only [AV.ren] at e
    split at e
    · rename_i m hm; obtain ⟨b, c, hb, rfl⟩ := slice_den e; simp [den, h _ _ _ hm hb]
    · simp [den] at e
  | .vec nm l, x, e => by
    simp only [AV.ren] at e
    split at e
    · rename_i m hm
      have e' := e
      obtain ⟨b, c, hb, _⟩ := vec_den e
      simp only [den, h _ _ _ hm hb, hb] at e' ⊢; exact e'
    · simp [den] at e
  | .dsl nm l, x, e => by
    simp only [AV.ren] at e
    split at e
    · rename_i m hm
      have e' := e
      obtain ⟨b, c, hb, _⟩ := dsl_den e
      simp only [den, h _ _ _ hm hb, hb] at e' ⊢; exact e'
    · simp [den] at e
  | .dptr nm l, x, e => by
    simp only [AV.ren] at e
    split at e
    · rename_i m hm
      have e' := e
      obtain ⟨b, c, hb, _⟩ := dptr_den e
      simp only [den, h _ _ _ hm hb, hb] at e' ⊢; exact e'
    · simp [den] at e
  | .rptr nm w i j, x, e => by
    simp only [AV.ren] at e
    split at e
    · rename_i m hm
      have e' := e
      obtain ⟨b, c, hb, _⟩ := rptr_den e
      simp only [den, h _ _ _ hm hb, hb] at e' ⊢; exact e'
    · simp [den] at e
  | .vsl nm w i j, x, e => by
    simp only [AV.ren] at e
    split at e
    · rename_i m hm
      have e' := e
      obtain ⟨b, c, hb, _⟩ := vsl_den e
      simp only [den, h _ _ _ hm hb, hb] at e' ⊢; exact e'
    · simp [den] at e
  | .agg cs, x, e => by
    simp only [AV.ren] at e
    obtain ⟨xs, hx, rfl⟩ := denC_agg.1 e
    exact denC_agg.2 ⟨xs, ⟨renL_den h cs xs hx.1, hx.2⟩, rfl⟩
  | .tuple cs, x, e => by
    simp only [AV.ren, den, Option.map_eq_some_iff] at e ⊢
    obtain ⟨xs, hx, rfl⟩ := e; exact ⟨xs, renL_den h cs xs hx, rfl⟩
  | .func f as cs, x, e => by
    simp only [AV.ren, den] at e ⊢
    split at e
    · rename_i hf; rw [if_pos hf]; exact yfOf_ren h e
    · rename_i hf
      rw [if_neg hf]
      split at e
      · rename_i ys zs hy hz; rw [renL_den h as ys hy, renL_den h cs zs hz]; exact e
      · cases e
  | .iface t v, x, e => by
    simp only [AV.ren, den, Option.map_eq_some_iff] at e ⊢
    obtain ⟨y, hy, rfl⟩ := e; exact ⟨y, ren_den h v y hy, rfl⟩
  | .bool b, x, e => e
  | .int k n, x, e => e
  | .str s, x, e => e
  | .nilptr, x, e => e
  | .nilslice, x, e => e
  | .gptr g off, x, e => e
  | .nilfunc, x, e => e
  | .niliface, x, e => e
  | .bad, x, e => e
theorem renL_den {r : List Nat} {A B : Env} (h : ∀ i m p, r[i]? = some m → A m = some p → B i = some p) : ∀ (vs : List AV) (xs : List Value), denL A (renL r vs) = some xs → denL B vs = some xs
  | [], xs, e => e
  | v :: vs, xs, e => by
    simp only [renL] at e
    obtain ⟨x, ys, hx, hy, rfl⟩ := denL_cons.1 e
    exact denL_cons.2 ⟨x, ys, ren_den h v x hx, renL_den h vs ys hy, rfl⟩
end

mutual
theorem den_ren {r : List Nat} {A B : Env} (h : ∀ i p, B i = some p → ∃ m, r[i]? = some m ∧ A m = some p) : ∀ (v : AV) (x : Value), den B v = some x → den A (v.ren r) = some x
  | .ptr nm off, x, e => by
    obtain ⟨b, c, hb, rfl⟩ := ptr_den e
    obtain ⟨m, hm, ha⟩ := h _ _ hb
    simp [AV.ren, hm, den, ha]
  | .slice nm off l c, x, e => by
    obtain ⟨b, c, hb, rfl⟩ := slice_den e
    obtain ⟨m, hm, ha⟩ := h _ _ hb
    simp [AV.ren, hm, den, ha]
  | .vec nm l, x, e => by
    have e' := e
    obtain ⟨b, c, hb, _⟩ := vec_den e
    obtain ⟨m, hm, ha⟩ := h _ _ hb
    simp only [AV.ren, hm, den, ha, hb] at e' ⊢; exact e'
  | .dsl nm l, x, e => by
    have e' := e
    obtain ⟨b, c, hb, _⟩ := dsl_den e
    obtain ⟨m, hm, ha⟩ := h _ _ hb
    simp only [AV.ren, hm, den, ha, hb] at e' ⊢; exact e'
  | .dptr nm l, x, e => by
    have e' := e
    obtain ⟨b, c, hb, _⟩ := dptr_den e
    obtain ⟨m, hm, ha⟩ := h _ _ hb
    simp only [AV.ren, hm, den, ha, hb] at e' ⊢; exact e'
  | .rptr nm w i j, x, e => by
    have e' := e
    obtain ⟨b, c, hb, _⟩ := rptr_den e
    obtain ⟨m, hm, ha⟩ := h _ _ hb
    simp only [AV.ren, hm, den, ha, hb] at e' ⊢; exact e'
  | .vsl nm w i j, x, e => by
    have e' := e
    obtain ⟨b, c, hb, _⟩ := vsl_den e
    obtain ⟨m, hm, ha⟩ := h _ _ hb
    simp only [AV.ren, hm, den, ha, hb] at e' ⊢; exact e'
  | .agg cs, x, e => by
    obtain ⟨xs, hx, rfl⟩ := denC_agg.1 e
    simp only [AV.ren]
    exact denC_agg.2 ⟨xs, ⟨denL_ren h cs xs hx.1, hx.2⟩, rfl⟩
  | .tuple cs, x, e => by
    simp only [AV.ren, den, Option.map_eq_some_iff] at e ⊢
    obtain ⟨xs, hx, rfl⟩ := e; exact ⟨xs, denL_ren h cs xs hx, rfl⟩
  | .func f as cs, x, e => by
    simp only [AV.ren, den] at e ⊢
    split at e
    · rename_i hf; rw [if_pos hf]; exact yfOf_ren' h e
    · rename_i hf
      rw [if_neg hf]
      split at e
      · rename_i ys zs hy hz; rw [denL_ren h as ys hy, denL_ren h cs zs hz]; exact e
      · cases e
  | .iface t v, x, e => by
    simp only [AV.ren, den, Option.map_eq_some_iff] at e ⊢
    obtain ⟨y, hy, rfl⟩ := e; exact ⟨y, den_ren h v y hy, rfl⟩
  | .bool b, x, e => e
  | .int k n, x, e => e
  | .str s, x, e => e
  | .nilptr, x, e => e
  | .nilslice, x, e => e
  | .gptr g off, x, e => e
  | .nilfunc, x, e => e
  | .niliface, x, e => e
  | .bad, x, e => e
theorem denL_ren {r : List Nat} {A B : Env} (h : ∀ i p, B i = some p → ∃ m, r[i]? = some m ∧ A m = some p) : ∀ (vs : List AV) (xs : List Value), denL B vs = some xs → denL A (renL r vs) = some xs
  | [], xs, e => e
  | v :: vs, xs, e => by
    obtain ⟨x, ys, hx, hy, rfl⟩ := denL_cons.1 e
    simp only [renL]
    exact denL_cons.2 ⟨x, ys, den_ren h v x hx, denL_ren h vs ys hy, rfl⟩
end

theorem ObjR.unren {r : List Nat} {A B : Env} (h : ∀ i m p, r[i]? = some m → A m = some p → B i = some p) {b : Nat} {c : Cap} {o : AObj} (k : ObjR A w b c (o.ren r)) : ObjR B w b c o := by
  cases o with
  | cells cs t => obtain ⟨xs, hx, hw⟩ := k; exact ⟨xs, ⟨renL_den h _ _ hx.1, hx.2⟩, hw⟩
  | vec cs t sz => obtain ⟨xs, ys, hx, hw⟩ := k; exact ⟨xs, ys, ⟨renL_den h _ _ hx.1, hx.2⟩, hw⟩
  | ro off cs => obtain ⟨xs, hx, hw⟩ := k; exact ⟨xs, ⟨renL_den h _ _ hx.1, hx.2⟩, hw⟩
  | flat m cs =>
    obtain ⟨xs, hx, hz, hw⟩ := k
    exact ⟨xs, ⟨renL_den h _ _ hx.1, hx.2⟩, fun e => by have := hz e; cases cs with | nil => rfl | cons a l => simp [renL] at this, hw⟩
  | flatR m sh rows => exact k
  | iter s p => exact k
  | shut cs t sz => obtain ⟨xs, ys, hx, hw⟩ := k; exact ⟨xs, ys, ⟨renL_den h _ _ hx.1, hx.2⟩, hw⟩
  | loopR up n ix cs ps asg body => obtain ⟨xs, r, hx, hw⟩ := k; exact ⟨xs, r, renL_den h _ _ hx, hw⟩
  | dead => trivial

theorem ObjR.ren {r : List Nat} {A B : Env} (h : ∀ i p, B i = some p → ∃ m, r[i]? = some m ∧ A m = some p) {b : Nat} {c : Cap} {o : AObj} (k : ObjR B w b c o) : ObjR A w b c (o.ren r) := by
  cases o with
  | cells cs t => obtain ⟨xs, hx, hw⟩ := k; exact ⟨xs, ⟨denL_ren h _ _ hx.1, hx.2⟩, hw⟩
  | vec cs t sz => obtain ⟨xs, ys, hx, hw⟩ := k; exact ⟨xs, ys, ⟨denL_ren h _ _ hx.1, hx.2⟩, hw⟩
  | ro off cs => obtain ⟨xs, hx, hw⟩ := k; exact ⟨xs, ⟨denL_ren h _ _ hx.1, hx.2⟩, hw⟩
  | flat m cs => obtain ⟨xs, hx, hz, hw⟩ := k; exact ⟨xs, ⟨denL_ren h _ _ hx.1, hx.2⟩, fun e => by rw [hz e]; rfl, hw⟩
  | flatR m sh rows => exact k
  | iter s p => exact k
  | shut cs t sz => obtain ⟨xs, ys, hx, hw⟩ := k; exact ⟨xs, ys, ⟨denL_ren h _ _ hx.1, hx.2⟩, hw⟩
  | loopR up n ix cs ps asg body => obtain ⟨xs, r, hx, hw⟩ := k; exact ⟨xs, r, denL_ren h _ _ hx, hw⟩
  | dead => trivial

theorem AObj.ren_owned (r : List Nat) (o : AObj) : (o.ren r).owned = o.owned := by cases o <;> rfl
theorem touches_ren {b k : Nat} {c : Cap} {r : List Nat} {o : AObj} (h : touches b c (o.ren r) k) : touches b c o k := by cases o <;> exact h
theorem touches_ren' {b k : Nat} {c : Cap} {r : List Nat} {o : AObj} (h : touches b c o k) : touches b c (o.ren r) k := by cases o <;> exact h
theorem AObj.ren_mine (r : List Nat) (o : AObj) : (o.ren r).mine = o.mine := by cases o <;> rfl
theorem AObj.ren_live (r : List Nat) (o : AObj) : (o.ren r).live = o.live := by cases o <;> rfl

/-- What is known of a block as 'a' may be told as 'b'. -/
def Fits (a b : AObj) : Prop := ∀ (E : Env) (w : World) (k : Nat) (c : Cap), ObjR E w k c a → ObjR E w k c b
theorem Fits.refl (a : AObj) : Fits a a := fun _ _ _ _ h => h
theorem Fits.of_eq {a b : AObj} (h : a = b) : Fits a b := h ▸ Fits.refl a

/-- Cells of a block, read alone. -/
theorem Fits.ro {a : AObj} {o0 off : Nat} {cs us : List AV} (hk : a.known = some (o0, cs)) (hl : a.live = true) (h0 : o0 ≤ off) (hu : (cs.drop (off - o0)).take us.length = us) : Fits a (.ro off us) := by
  intro E w k c h
  obtain ⟨xs, hx, hw⟩ := h.window hk
  refine ⟨(xs.drop (off - o0)).take us.length, ?_, window_slice hw h0, h.lt hl (by cases a <;> first | rfl | (simp [AObj.known] at hk))⟩
  have := denC_take (denC_drop hx (off - o0)) us.length
  rwa [hu] at this

structure PreR (E : Env) (w : World) (pre : List AObj) : Prop where
  objs : ∀ (n : Nat) (o : AObj), pre[n]? = some o → ∃ b c, E n = some (b, c) ∧ ObjR E w b c o
  fresh : ∀ n, pre.length ≤ n → E n = none
  apart : ∀ (n m : Nat) (o o' : AObj) (b : Nat) (c : Cap) (b' : Nat) (c' : Cap), pre[n]? = some o → pre[m]? = some o' → o.owned = true → o'.live = true → E n = some (b, c) → E m = some (b', c') → n ≠ m → ¬ touches b' c' o' b
  glob : GlobOK w (fun k => ∃ (n : Nat) (o : AObj) (c : Cap), pre[n]? = some o ∧ o.owned = true ∧ E n = some (k, c))

structure PostR (E E' : Env) (w w' : World) (pre post : List AObj) : Prop where
  le : Env.le E E'
  cut : ∀ n, post.length ≤ n → E' n = none
  objs : ∀ (n : Nat) (o : AObj), post[n]? = some o → ∃ b c, E' n = some (b, c) ∧ ObjR E' w' b c o
  made : ∀ (n b : Nat) (c : Cap) (o : AObj), pre.length ≤ n → post[n]? = some o → E' n = some (b, c) → touches b c o b → w.heap.size ≤ b ∨ ∃ (j : Nat) (c' : Cap) (o : AObj), pre[j]? = some o ∧ o.owned = true ∧ post[j]? = some AObj.dead ∧ E j = some (b, c')
  keep : ∀ k : Nat, k < w.heap.size → (∀ (n : Nat) (o : AObj) (c : Cap), pre[n]? = some o → o.owned = true → E n ≠ some (k, c)) → w'.heap[k]? = w.heap[k]?
  newApart : ∀ (n m : Nat) (o o' : AObj) (b : Nat) (c : Cap) (b' : Nat) (c' : Cap), pre.length ≤ n → pre.length ≤ m → post[n]? = some o → post[m]? = some o' → o.owned = true → o'.live = true → E' n = some (b, c) → E' m = some (b', c') → n ≠ m → ¬ touches b' c' o' b
  grow : w.heap.size ≤ w'.heap.size
  os : w'.os = w.os
  tape : w'.tape = w.tape
  output : w'.output = w.output

/-- The fence that keeps nothing out, within a round or not. -/
def WR (ro : Option Nat) : Fence := { Fence.wide with round := ro }
/-- The slots with which a round begins. -/
def roundTmps (r : Loop) (ys : List Value) : Array Value := (r.params.zip ys.toArray).foldl (fun t (p, v) => t.setIfInBounds p v) r.tmps
theorem calls_WR {ro : Option Nat} {n : Nat} {P : Program} {f : FuncId} {args : Array Value} {w : World} {R : Ending → World → Prop} : CallsIn (WR ro) n P f args w R ↔ Calls P f args w R := callsIn_wide (n := n)
/-- A call of function f, entered, or answered at once (a function without a body of Go). -/
def Does (P : Program) (f : FuncId) (args : Array Value) (w : World) (R : Ending → World → Prop) : Prop :=
  if f = yF then ∃ (l : Nat) (r : Loop) (ys : List Value), args.toList = .pointer (some ⟨l, 0, none⟩) :: ys ∧ w.heap[l]? = some (.loop r) ∧ ys.length = r.params.size ∧ ∀ ro, RoundIn (WR ro) 0 P l r.fn (roundTmps r ys) r.assign r.body w R
  else (∃ g as, (callFunc f args).run P w = .ok (.enter g as) w ∧ Calls P g as w R) ∨ (∃ v w', (callFunc f args).run P w = .ok (.value v) w' ∧ R (.returned v) w')
theorem Does.of {P : Program} {f : FuncId} {args : Array Value} {w : World} {R : Ending → World → Prop} (hf : f ≠ yF) (h : (∃ g as, (callFunc f args).run P w = .ok (.enter g as) w ∧ Calls P g as w R) ∨ (∃ v w', (callFunc f args).run P w = .ok (.value v) w' ∧ R (.returned v) w')) : Does P f args w R := by
  unfold Does; rw [if_neg hf]; exact h
theorem Does.to {P : Program} {f : FuncId} {args : Array Value} {w : World} {R : Ending → World → Prop} (hf : f ≠ yF) (h : Does P f args w R) : (∃ g as, (callFunc f args).run P w = .ok (.enter g as) w ∧ Calls P g as w R) ∨ (∃ v w', (callFunc f args).run P w = .ok (.value v) w' ∧ R (.returned v) w') := by
  unfold Does at h; rw [if_neg hf] at h; exact h

theorem Does.mono {f : FuncId} {args : Array Value} {R R' : Ending → World → Prop} (h : Does P f args w R) (hr : ∀ e w', R e w' → R' e w') : Does P f args w R' := by
  unfold Does at h ⊢
  split
  · rename_i hf
    rw [if_pos hf] at h
    obtain ⟨l, r, ys, h1, h2, h3, h4⟩ := h
    exact ⟨l, r, ys, h1, h2, h3, fun ro => (h4 ro).mono hr⟩
  · rename_i hf
    rw [if_neg hf] at h
    rcases h with ⟨g, as, h1, h2⟩ | ⟨v, w', h1, h2⟩
    · exact .inl ⟨g, as, h1, h2.mono hr⟩
    · exact .inr ⟨v, w', h1, hr _ _ h2⟩

/-- THE CONTRACT of function f: called with these values, in a world whose blocks are as 'pre' says, it returns 'res', and the blocks are as 'post' says (which has new ones behind those of 'pre'). -/
def Meets (P : Program) (f : FuncId) (args : List AV) (pre : List AObj) (res : AV) (post : List AObj) : Prop :=
  ∀ (w : World) (E : Env) (xs : List Value), denL E args = some xs → PreR E w pre →
    Does P f xs.toArray w fun e w' => ∃ E' x, e = .returned x ∧ den E' res = some x ∧ PostR E E' w w' pre post

/-- What a call leaves of the blocks that it was handed. -/
def updOf (r : List Nat) : List AObj → List AObj → List AObj → List AObj
  | c :: cs, p :: pre, q :: post => (if p.owned then q.ren r else c) :: updOf r cs pre post
  | _, _, _ => []

def fitsOf (r : List Nat) : List AObj → List AObj → List Prop
  | c :: cs, p :: pre => Fits c (p.ren r) :: fitsOf r cs pre
  | _, _ => []

def callA (h : Hint) (P : Program) (o : Op) (vals : List AV) (cs : List AObj) : Option Res :=
  match o, vals, h.call with
  | .call c, .func f first caps :: args, some k =>
    match c.callee with
    | .value _ =>
      if k.ren.length == k.post.length && k.pre.length ≤ k.post.length && cs.length == k.pre.length && (k.pre.zip cs).all (fun p => (!p.1.owned || p.2.owned) && (!p.2.isFlat || p.1.isFlat)) && cs.all (·.live) then
        let obl := (first ++ args ++ caps = renL k.ren k.args) :: Meets P f k.args k.pre k.res k.post :: fitsOf k.ren cs k.pre
        let upd := updOf k.ren cs k.pre k.post
        let new := (k.post.drop k.pre.length).map (·.ren k.ren)
        match h.val, h.obj with
        | some v, some os => some ⟨obl ++ [k.res.ren k.ren = v, upd ++ new = os], v, os.take upd.length, os.drop upd.length⟩
        | some v, none => some ⟨obl ++ [k.res.ren k.ren = v], v, upd, new⟩
        | none, some os => some ⟨obl ++ [upd ++ new = os], k.res.ren k.ren, os.take upd.length, os.drop upd.length⟩
        | none, none => some ⟨obl, k.res.ren k.ren, upd, new⟩
      else none
    | _ => none
  | _, _, _ => none

theorem callA_cases {h : Hint} {o : Op} {vals : List AV} {cs : List AObj} {r : Res} (e : callA h P o vals cs = some r) (k : AllP r.obl) :
    ∃ c f first caps args k, o = .call c ∧ vals = .func f first caps :: args ∧ h.call = some k ∧ (∃ x, c.callee = .value x) ∧ k.ren.length = k.post.length ∧ k.pre.length ≤ k.post.length ∧ cs.length = k.pre.length ∧
      ((k.pre.zip cs).all (fun p => (!p.1.owned || p.2.owned) && (!p.2.isFlat || p.1.isFlat))) = true ∧ (cs.all (·.live)) = true ∧ first ++ args ++ caps = renL k.ren k.args ∧ Meets P f k.args k.pre k.res k.post ∧ AllP (fitsOf k.ren cs k.pre) ∧ r.val = k.res.ren k.ren ∧ r.upd = updOf k.ren cs k.pre k.post ∧ r.new = (k.post.drop k.pre.length).map (·.ren k.ren) := by
  unfold callA at e
  split at e
  · rename_i c f first caps args kk hk
    split at e
    · rename_i x hx
      split at e
      · rename_i hc
        simp only [Bool.and_eq_true, beq_iff_eq, decide_eq_true_eq] at hc
        obtain ⟨⟨⟨⟨c1, c2⟩, c3⟩, c4⟩, c5⟩ := hc
        simp only at e
        have fin : ∀ {a b : List AObj}, (a ++ b).take a.length = a ∧ (a ++ b).drop a.length = b := fun {a b} => ⟨List.take_left, List.drop_left⟩
        split at e
        · rename_i v os hv hos
          cases e
          obtain ⟨k1, k2⟩ := allP_append.1 k
          obtain ⟨k1, k3, k4⟩ := k1
          obtain ⟨k5, k6, _⟩ := k2
          have k5 : kk.res.ren kk.ren = v := k5
          have k6 : updOf kk.ren cs kk.pre kk.post ++ List.map (fun x => x.ren kk.ren) (kk.post.drop kk.pre.length) = os := k6
          exact ⟨c, f, first, caps, args, kk, rfl, rfl, hk, ⟨x, hx⟩, c1, c2, c3, c4, c5, k1, k3, k4, k5.symm, by rw [← k6]; exact fin.1, by rw [← k6]; exact fin.2⟩
        · rename_i v hv hos
          cases e
          obtain ⟨k1, k2⟩ := allP_append.1 k
          obtain ⟨k1, k3, k4⟩ := k1
          obtain ⟨k5, _⟩ := k2
          have k5 : kk.res.ren kk.ren = v := k5
          exact ⟨c, f, first, caps, args, kk, rfl, rfl, hk, ⟨x, hx⟩, c1, c2, c3, c4, c5, k1, k3, k4, k5.symm, rfl, rfl⟩
        · rename_i os hv hos
          cases e
          obtain ⟨k1, k2⟩ := allP_append.1 k
          obtain ⟨k1, k3, k4⟩ := k1
          obtain ⟨k6, _⟩ := k2
          have k6 : updOf kk.ren cs kk.pre kk.post ++ List.map (fun x => x.ren kk.ren) (kk.post.drop kk.pre.length) = os := k6
          exact ⟨c, f, first, caps, args, kk, rfl, rfl, hk, ⟨x, hx⟩, c1, c2, c3, c4, c5, k1, k3, k4, rfl, by rw [← k6]; exact fin.1, by rw [← k6]; exact fin.2⟩
        · cases e
          obtain ⟨k1, k3, k4⟩ := k
          exact ⟨c, f, first, caps, args, kk, rfl, rfl, hk, ⟨x, hx⟩, c1, c2, c3, c4, c5, k1, k3, k4, rfl, rfl, rfl⟩
      · cases e
    · cases e
  · cases e

end Go.Proofs.YtebieapmoaaahaaGreatDoor.Sx
