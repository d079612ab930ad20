/- The symbolic executor, part I: what grows, and slices made of parts: they are sound. -/
import Derived.Test.YtpdhfopfjoinnaaDoorSxH
set_option linter.unusedSimpArgs false
namespace Go.Proofs.YtpdhfopfjoinnaaDoor.Sx
open Go

variable {P : Program} {E : Env} {w : World}

theorem good_buildSlice {o : Oper} {ρ : Operand → Value} {t e : TypeId} {len : Nat} {ps : Array (Nat × Operand)} {vs : List AV} {h : Hint} {k : Nat} {ie : TypeInfo} {z : AV} {ob : List Prop} {c : List AV} {r : Res} (ho : o.op = .buildSlice t len ps)
    (hv : denL E vs = some (ps.toList.map fun p => ρ p.2)) (hu : P.underlying t = some (.slice e)) (hi : P.info? e = some ie) (hz : zeroA P e = some z) (hps : ps.size = vs.length) (h1 : 0 < len) (h0 : 0 < ie.size) (h2 : len * ie.size ≤ 16777216)
    (hn' : ((partsA ps.toList vs).all fun p => p.2.notTuple) = true) (hl : z.cells.length = ie.size) (hn : z.notTuple = true) (hk : E k = none)
    (hf : fillA (fun i => some (i * ie.size, ie.size)) (List.replicate len z.cells).flatten (partsA ps.toList vs) = some (ob, c)) (hr : r = newA h ob (.slice k 0 len len) (.cells c e)) (kk : AllP r.obl) :
    Good E w ⟨[], [], [k]⟩ r.upd r.new r.val ((execOp ρ o).run P w) := by
  subst hr
  refine good_new kk fun hob => ?_
  obtain ⟨x, hx, hd⟩ := run_zeroValue (w := w) (E := E) hz
  obtain ⟨zs, hzs, hze⟩ := notTuple_cells hn hd
  have hzl : zs.length = ie.size := (denC_length hzs).trans hl
  have hsz : P.cellsOf e = ie.size := by simp [Program.cellsOf, hi]
  obtain ⟨p1, p2⟩ := partsA_spec (E := E) (ρ := ρ) ps.toList vs (by simpa using hps) hv
  obtain ⟨ys, hy, hdy⟩ := fillA_run (partsA ps.toList vs) (ps.toList.map fun p => (p.1, ρ p.2)) _ _ _ _ (denC_flat hzs len) hf hob hn' (by rw [p1]; simp) (by rw [p2]; simp)
  refine good_slice hk hdy ?_
  have hrange : (Array.range (len * ie.size)).map (fun x => zs.toArray[x % zs.toArray.size]!) = ((List.replicate len zs).flatten).toArray := by
    have := range_mod zs len
    rw [hzl] at this
    rw [← this]
    apply Array.ext'
    rw [Array.toList_map, Array.toList_range]
  have hne : ¬ len * ie.size = 0 := by
    intro hh; rcases Nat.mul_eq_zero.1 hh with h | h <;> omega
  have hy' : Instr.fill (fun i => some (i * ie.size, ie.size)) ((List.replicate len zs).flatten).toArray (ps.map fun (i, x) => (i, ρ x)).toList = some ys.toArray := by
    rw [← hy]; congr 1; simp
  simp only [execOp, ho, Instr.buildSlice, Sem.run_bind, run_underlying' hu, Result.andThen_ok, run_sizeOf' hi, hsz]
  rw [if_neg (by omega)]
  simp only [Sem.run_bind, Sem.run_pure, Result.andThen_ok]
  rw [if_neg hne]
  simp only [Sem.run_bind, hx, Result.andThen_ok, Sem.run_pure, hze, hrange, hy', newRow, run_newObj]

theorem good_buildVec {o : Oper} {ρ : Operand → Value} {t e : TypeId} {len : Nat} {ps : Array (Nat × Operand)} {vs : List AV} {h : Hint} {k : Nat} {ie : TypeInfo} {z : AV} {ob : List Prop} {c : List AV} {r : Res} (ho : o.op = .buildSlice t len ps)
    (hv : denL E vs = some (ps.toList.map fun p => ρ p.2)) (hu : P.underlying t = some (.slice e)) (hi : P.info? e = some ie) (hz : zeroA P e = some z) (hps : ps.size = vs.length) (h1 : 0 < len) (h0 : 0 < ie.size) (h2 : len * ie.size ≤ 16777216)
    (hn' : ((partsA ps.toList vs).all fun p => p.2.notTuple) = true) (hl : z.cells.length = ie.size) (hn : z.notTuple = true) (hk : E k = none)
    (hf : fillA (fun i => some (i * ie.size, ie.size)) (List.replicate len z.cells).flatten (partsA ps.toList vs) = some (ob, c)) (hr : r = newA h (ob ++ [c.length = len * ie.size]) (.vec k len) (.vec c e ie.size)) (kk : AllP r.obl) :
    Good E w ⟨[], [], [k]⟩ r.upd r.new r.val ((execOp ρ o).run P w) := by
  subst hr
  refine good_new kk fun hob => ?_
  obtain ⟨hob, hcl, _⟩ := allP_append.1 hob
  obtain ⟨x, hx, hd⟩ := run_zeroValue (w := w) (E := E) hz
  obtain ⟨zs, hzs, hze⟩ := notTuple_cells hn hd
  have hzl : zs.length = ie.size := (denC_length hzs).trans hl
  have hsz : P.cellsOf e = ie.size := by simp [Program.cellsOf, hi]
  obtain ⟨p1, p2⟩ := partsA_spec (E := E) (ρ := ρ) ps.toList vs (by simpa using hps) hv
  obtain ⟨ys, hy, hdy⟩ := fillA_run (partsA ps.toList vs) (ps.toList.map fun p => (p.1, ρ p.2)) _ _ _ _ (denC_flat hzs len) hf hob hn' (by rw [p1]; simp) (by rw [p2]; simp)
  refine good_vec hk hdy hcl ?_
  have hrange : (Array.range (len * ie.size)).map (fun x => zs.toArray[x % zs.toArray.size]!) = ((List.replicate len zs).flatten).toArray := by
    have := range_mod zs len
    rw [hzl] at this
    rw [← this]
    apply Array.ext'
    rw [Array.toList_map, Array.toList_range]
  have hne : ¬ len * ie.size = 0 := by
    intro hh; rcases Nat.mul_eq_zero.1 hh with h | h <;> omega
  have hy' : Instr.fill (fun i => some (i * ie.size, ie.size)) ((List.replicate len zs).flatten).toArray (ps.map fun (i, x) => (i, ρ x)).toList = some ys.toArray := by
    rw [← hy]; congr 1; simp
  simp only [execOp, ho, Instr.buildSlice, Sem.run_bind, run_underlying' hu, Result.andThen_ok, run_sizeOf' hi, hsz]
  rw [if_neg (by omega)]
  simp only [Sem.run_bind, Sem.run_pure, Result.andThen_ok]
  rw [if_neg hne]
  simp only [Sem.run_bind, hx, Result.andThen_ok, Sem.run_pure, hze, hrange, hy', newRow, run_newObj]

theorem elemsA_run {sz : Nat} {x : AV} {X : Value} {cs : List AObj} {ob : List Prop} {n : Nat} {new : List AV} (h : elemsA sz x cs = some (ob, n, new)) (hob : AllP ob) (hx : den E x = some X)
    (hc : ∀ (i nm : Nat) (o : AObj), x.name[i]? = some nm → cs[i]? = some o → ∃ b c, E nm = some (b, c) ∧ ObjR E w b c o) :
    ∃ xs, denC E new xs ∧ new.length = n * sz ∧ ∀ w' : World, w'.heap = w.heap → (Builtin.lenOf X).run P w' = .ok n w' ∧ (Builtin.firstCells sz n X).run P w' = .ok xs.toArray w' := by
  unfold elemsA at h
  split at h
  · cases h; cases hx
    exact ⟨[], ⟨rfl, rfl⟩, by simp, fun w' _ => ⟨rfl, rfl⟩⟩
  · rename_i s
    cases h; cases hx
    have h1 := hob.1
    subst h1
    refine ⟨s.map fun b => .int .u8 b.toNat, ⟨?_, ?_⟩, by simp [u8s], fun w' _ => ⟨?_, ?_⟩⟩
    · clear hob
      induction s with
      | nil => rfl
      | cons b s ih => simp only [u8s, List.map_cons]; exact denL_cons.2 ⟨_, _, rfl, ih (fun i nm o hi => by simp [AV.name] at hi), rfl⟩
    · simp [allOne, Value.oneCell']
    · rfl
    · simp only [Builtin.firstCells, Sem.run_pure]
      congr 1
      have e1 : ((ByteArray.mk s.toArray).extract 0 s.length).data = s.toArray := by
        simp only [ByteArray.data_extract]
        simp
      rw [e1]; simp
  · rename_i nm off len cap o
    obtain ⟨b, c, hb, rfl⟩ := slice_den hx
    split at h
    · rename_i o0 c' hk
      cases h
      obtain ⟨h1, h2, _⟩ := hob
      obtain ⟨b', c'', hb', hob'⟩ := hc 0 nm o rfl rfl
      rw [hb] at hb'; cases hb'
      obtain ⟨xs, hxs, hw⟩ := hob'.window hk
      have hl := denC_length hxs
      refine ⟨(xs.drop (off - o0)).take (n * sz), denC_take (denC_drop hxs _) _, by simp; omega, fun w' hw' => ⟨rfl, ?_⟩⟩
      have hwin : ∀ (i : Nat) x, xs[i]? = some x → w'.cell? ⟨b, o0 + i, none⟩ = some x := fun i x hi => by
        rw [← hw i x hi]; simp only [World.cell?, hw']
      have := run_window_cells (P := P) (n := n * sz) hwin h1 (by omega)
      simp only [Builtin.firstCells, this]
    · cases h
  · rename_i nm len o
    obtain ⟨b, c, hb, rfl⟩ := vec_den hx
    split at h
    · rename_i o0 c' hk
      cases h
      obtain ⟨h1, h2, _⟩ := hob
      subst h1
      obtain ⟨b', c'', hb', hob'⟩ := hc 0 nm o rfl rfl
      rw [hb] at hb'; cases hb'
      obtain ⟨xs, hxs, hw⟩ := hob'.window hk
      have hl := denC_length hxs
      refine ⟨xs.take (n * sz), denC_take hxs _, by simp; omega, fun w' hw' => ⟨rfl, ?_⟩⟩
      have hwin : ∀ (i : Nat) x, xs[i]? = some x → w'.cell? ⟨b, 0 + i, none⟩ = some x := fun i x hi => by
        rw [← hw i x hi]; simp only [World.cell?, hw']
      have := run_window_cells (P := P) (n := n * sz) hwin (Nat.le_refl 0) (by omega)
      simpa [Builtin.firstCells] using this
    · cases h
  · rename_i nm n' o
    split at h
    · rename_i c hkn
      cases h
      obtain ⟨h1, _⟩ := hob
      obtain ⟨b, k, hb, ho⟩ := hc 0 nm o rfl rfl
      obtain ⟨b', k', hb', hx⟩ := dsl_den hx
      rw [hb] at hb'; cases hb'
      rcases hx with ⟨hk, h0, rfl⟩ | ⟨hk, hle, rfl⟩
      · subst h0
        exact ⟨[], by rw [Nat.zero_mul]; exact ⟨rfl, rfl⟩, by simp, fun w' hw' => ⟨rfl, by simp [Builtin.firstCells]⟩⟩
      obtain ⟨xs, hxs, hwin⟩ := ho.windowD hkn hk
      have hl := denC_length hxs
      refine ⟨xs.take (n * sz), denC_take hxs _, by simp; omega, fun w' hw' => ?_⟩
      refine ⟨rfl, ?_⟩
      have hwin' : ∀ (i : Nat) x, xs[i]? = some x → w'.cell? ⟨b, k.o + i, none⟩ = some x := fun i x hi => by
        rw [← hwin i x hi]; simp only [World.cell?, hw']
      have := run_window_cells (P := P) (n := n * sz) (off := k.o) hwin' (Nat.le_refl _) (by omega)
      simpa [Builtin.firstCells] using this
    · cases h
  · cases h

theorem cap_le {a sp : List Value} {n nc sz : Nat} (h0 : 0 < sz) (ha : a.length = n * sz) (h : (a ++ sp).length = nc * sz) : n ≤ nc := by
  have : n * sz ≤ nc * sz := by rw [← h, List.length_append]; omega
  exact Nat.le_of_mul_le_mul_right this h0
theorem vec_made {E : Env} {k b l : Nat} {c : Cap} (hz : c.z = false) (ho : c.o = 0) (h : l ≤ c.n) : den (E.set k (b, c)) (.vec k l) = some (.slice (some ⟨b, 0, none⟩) l c.n) := by
  simp only [den, Env.set_same, Option.bind_some]
  rw [if_pos ⟨hz, ho, h⟩]
theorem growBy_le (newLen : Nat) : ∀ (r c : Nat), c ≤ newLen + (newLen + 768) / 4 → Builtin.growBy newLen r c ≤ newLen + (newLen + 768) / 4
  | 0, c, h => h
  | r + 1, c, h => by
    unfold Builtin.growBy
    split
    · exact h
    · exact growBy_le newLen r _ (by omega)

theorem nextcap_le {need cap : Nat} (h : cap < need) : Builtin.nextslicecap need cap ≤ 2 * need := by
  unfold Builtin.nextslicecap
  split
  · omega
  · split
    · omega
    · have := growBy_le need 4 cap (by omega); omega

/-- An append that finds no room. -/
theorem run_append_grow {elem t0 t1 : TypeId} {tx : TypeDesc} {c : Call} {ie : TypeInfo} {X Z : Value} {base : Option Addr} {len cap n : Nat} {olds news zs : List Value} {ty : TypeId} (h0 : c.argTypes[0]? = some t0) (h1 : c.argTypes[1]? = some t1)
    (hu0 : P.underlying t0 = some (.slice elem)) (hu1 : P.underlying t1 = some tx) (htx : ∀ k, tx ≠ .int k) (hi : P.info? elem = some ie) (hz : ∀ w', (zeroValue elem).run P w' = .ok Z w') (hze : Z.cells = zs.toArray) (hzl : zs.length = ie.size)
    (hold : ∀ w' : World, w'.heap = w.heap → (Builtin.firstCells ie.size len (.slice base len cap)).run P w' = .ok olds.toArray w') (hol : olds.length = len * ie.size)
    (hnew : ∀ w' : World, w'.heap = w.heap → (Builtin.lenOf X).run P w' = .ok n w' ∧ (Builtin.firstCells ie.size n X).run P w' = .ok news.toArray w') (hnl : news.length = n * ie.size)
    (hroom : cap < len + n) (hb : 2 * (len + n) * ie.bytes ≤ 281474976710656) (hm : 2 * (len + n) < 9223372036854775808) :
    ∃ nc spare w', (Builtin.append_ c.argTypes ty #[.slice base len cap, X]).run P w = .ok (.slice (some ⟨w.heap.size, 0, none⟩) (len + n) nc) w' ∧ w'.heap = w.heap.push (.cells (olds ++ news ++ spare).toArray elem) ∧
      (olds ++ news ++ spare).length = nc * ie.size ∧ w'.os = w.os ∧ w'.tape = w.tape ∧ w'.output = w.output := by
  have hsz : P.cellsOf elem = ie.size := by simp [Program.cellsOf, hi]
  have hcap : ¬ Builtin.nextslicecap (len + n) cap * ie.bytes > 2 ^ 48 := by
    have h1 := nextcap_le hroom
    have h2 := Nat.mul_le_mul_right ie.bytes h1
    show ¬ _ > 281474976710656
    omega
  have hbig : ¬ ((((len + n : Nat) : Int) > IntKind.i64.max) ∧ (false = true ∨ ie.bytes = 0)) := by
    rintro ⟨hh, _⟩
    have : IntKind.i64.max = 9223372036854775807 := by decide
    omega
  let q := Question.appendCap (len + n) cap elem
  let nc := q.cut (w.tape w.drawn q)
  have hnc : len + n ≤ nc := by
    show len + n ≤ (len + n) + _ % _
    omega
  let w1 : World := { w with drawn := w.drawn + 1 }
  obtain ⟨hn1, _⟩ := hnew w rfl
  obtain ⟨_, hn2⟩ := hnew w1 rfl
  have ho2 := hold w1 rfl
  let spare := (Builtin.zeroCells zs.toArray (nc - (len + n))).toList
  have hspl : spare.length = (nc - (len + n)) * ie.size := by simp [spare, Builtin.zeroCells, hzl]
  refine ⟨nc, spare, { w1 with heap := w1.heap.push (.cells (olds ++ news ++ spare).toArray elem) }, ?_, rfl, ?_, rfl, rfl, rfl⟩
  · have hmi : (match tx with | .int _ => true | _ => false) = false := by
      cases tx <;> first | rfl | exact absurd rfl (htx _)
    have hforced : q.forced = false := rfl
    have earr : olds.toArray ++ news.toArray ++ Builtin.zeroCells zs.toArray (nc - (len + n)) = (olds ++ news ++ spare).toArray := by
      apply Array.ext'; simp [spare]
    simp only [Builtin.append_, h0, h1, List.getElem?_toArray, List.getElem?_cons_zero, List.getElem?_cons_succ, Sem.run_bind, run_underlying' hu0, Result.andThen_ok, run_sizeOf' hi, run_underlying' hu1, Sem.run_pure]
    rw [if_neg (by decide)]
    simp only [Sem.run_bind, hn1, Result.andThen_ok]
    rw [if_neg (by omega)]
    simp only [Sem.run_bind, typeInfo, run_program, Result.andThen_ok, hi, Sem.run_pure]
    rw [if_neg hbig]
    simp only [Sem.run_bind, Sem.run_pure, run_program, Result.andThen_ok, hi]
    rw [if_neg hcap]
    have hch : (choose (Question.appendCap (len + n) cap elem)).run P w = .ok nc w1 := by
      rw [run_choose]; rfl
    simp only [Sem.run_bind, Sem.run_pure, run_program, Result.andThen_ok, hi, hch, run_askRoom, hsz, ho2, Bool.not_false, if_true, hn2, hz, hze, earr, newRow, run_newObj]
    rfl
  · simp only [List.length_append, hspl, hol, hnl]
    rw [← Nat.add_mul, ← Nat.add_mul]; congr 1; omega

/-- An append that finds room. -/
theorem run_append_room {elem t0 t1 : TypeId} {tx : TypeDesc} {c : Call} {ie : TypeInfo} {X : Value} {b len cap n : Nat} {cells news : List Value} {ty te : TypeId} (h0 : c.argTypes[0]? = some t0) (h1 : c.argTypes[1]? = some t1)
    (hu0 : P.underlying t0 = some (.slice elem)) (hu1 : P.underlying t1 = some tx) (htx : ∀ k, tx ≠ .int k) (hi : P.info? elem = some ie)
    {mk : Nat × Nat} (hw : w.heap[b]? = some (.cells cells.toArray te mk)) (hmk : okM mk cells.length)
    (hnew : (Builtin.lenOf X).run P w = .ok n w ∧ (Builtin.firstCells ie.size n X).run P w = .ok news.toArray w) (hnl : news.length = n * ie.size) (hone : allOne news = true)
    (hroom : len + n ≤ cap) (hcl : cells.length = cap * ie.size) :
    ∃ w', (Builtin.append_ c.argTypes ty #[.slice (some ⟨b, 0, none⟩) len cap, X]).run P w = .ok (.slice (some ⟨b, 0, none⟩) (len + n) cap) w' ∧ w'.heap[b]? = some (.cells (over cells (len * ie.size) news).toArray te mk) ∧ Upd b w w' := by
  have hsz : P.cellsOf elem = ie.size := by simp [Program.cellsOf, hi]
  have hle : len * ie.size + n * ie.size ≤ cap * ie.size := by
    rw [← Nat.add_mul]; exact Nat.mul_le_mul_right _ hroom
  obtain ⟨w', hr, hw', hu⟩ := run_storeCells (P := P) news cells (len * ie.size) 0 w hw hmk (by omega) hone
  refine ⟨w', ?_, by simpa using hw', hu⟩
  simp only [Builtin.append_, h0, h1, List.getElem?_toArray, List.getElem?_cons_zero, List.getElem?_cons_succ, Sem.run_bind, run_underlying' hu0, Result.andThen_ok, run_sizeOf' hi, run_underlying' hu1, Sem.run_pure]
  have hmi : (match tx with | .int _ => true | _ => false) = false := by
    cases tx <;> first | rfl | exact absurd rfl (htx _)
  rw [if_neg (by decide)]
  simp only [Sem.run_bind, hnew.1, Result.andThen_ok]
  rw [if_pos hroom]
  simp only [Sem.run_bind, Bool.not_false, if_true, hsz, hnew.2, Result.andThen_ok, Addr.add_none, Nat.zero_add, hr, Sem.run_pure]

theorem execOp_append {o : Oper} {ρ : Operand → Value} {c : Call} {p q : Operand} {v : Value} {w' : World} (ho : o.op = .call c) (hc : c.callee = .builtin .append) (ha : c.args.toList = [p, q])
    (h : (Builtin.append_ c.argTypes o.type #[ρ p, ρ q]).run P w = .ok v w') : (execOp ρ o).run P w = .ok (.value v) w' := by
  have ha' : c.args = #[p, q] := by
    cases hh : c.args with | mk l => rw [hh] at ha; simp at ha; rw [ha]
  simp only [execOp, ho, resolve, hc, ha', Sem.run_bind, Sem.run_pure, Result.andThen_ok, invoke, builtin]
  simp [h]

theorem good_append {o : Oper} {ρ : Operand → Value} {c : Call} {p q : Operand} {h : Hint} {s x : AV} {cs : List AObj} {r : Res} {F : Foot} (ho : o.op = .call c) (hcal : c.callee = .builtin .append) (ha : c.args.toList = [p, q])
    (hs : den E s = some (ρ p)) (hx : den E x = some (ρ q)) (hF : F = ⟨s.name ++ x.name, if s.isVec then s.name else [], h.nm⟩) (hp : Pre E w F cs) (hr : appendA P h c s x cs = some r) (kk : AllP r.obl) :
    Good E w F r.upd r.new r.val ((execOp ρ o).run P w) := by
  unfold appendA at hr
  split at hr
  · rename_i e tx k he htx hnm
    simp only [Option.bind_eq_some_iff] at he htx
    obtain ⟨t0, h0, hu0⟩ := he
    obtain ⟨t1, h1, hu1⟩ := htx
    split at hr
    · cases hr
    · rename_i hnint
      have htx : ∀ k, tx ≠ .int k := fun k e => hnint (by rw [e]; rfl)
      split at hr
      rotate_left
      · cases hr
      rename_i ie z hi hz
      split at hr
      · cases hr
      · rename_i hcond
        simp only [Bool.not_eq_true', Bool.not_eq_false, Bool.and_eq_true, beq_iff_eq, decide_eq_true_eq] at hcond
        obtain ⟨⟨hn, hl⟩, hsz⟩ := hcond
        obtain ⟨Z, _, hd⟩ := run_zeroValue (w := w) (E := E) hz
        have hZ : ∀ w', (zeroValue e).run P w' = .ok Z w' := fun w' => by
          obtain ⟨Z', hZ', hd'⟩ := run_zeroValue (w := w') (E := E) hz
          rw [hd] at hd'; cases hd'; exact hZ'
        obtain ⟨zs, hzs, hze⟩ := notTuple_cells hn hd
        have hzl : zs.length = ie.size := (denC_length hzs).trans hl
        have hEk : E k = none := hp.fresh k (by rw [hF, hnm]; simp)
        split at hr
        · -- nothing yet
          split at hr
          · rename_i ob n new hel
            cases hr
            obtain ⟨g1, g2, g3, g4⟩ := grow_cases kk
            obtain ⟨hob, h4, h5, h6, _⟩ := allP_append.1 g1 |>.imp id id
            obtain ⟨xs, hxs, hxl, hrun⟩ := elemsA_run (w := w) hel hob hx (fun i nm o hi' ho' => hp.objs i nm o (by rw [hF]; simpa [AV.name] using hi') ho')
            have hxsl : xs.length = n * ie.size := (denC_length hxs).trans hxl
            obtain ⟨nc, spare, w', hr', hheap, hlen, hos, ht, hout⟩ := run_append_grow (w := w) (base := none) (len := 0) (cap := 0) (olds := []) (ty := o.type) h0 h1 hu0 hu1 htx hi hZ hze hzl (fun w' _ => rfl) (by simp) hrun hxsl (by omega) (by simpa using h5) (by simpa using h6)
            have hp0 : ρ p = .slice none 0 0 := by simpa [den] using hs.symm
            rw [g2, g3, g4]
            refine ⟨_, w', E.set k (w.heap.size, { n := nc }), .inl (execOp_append ho hcal ha (by rw [hp0]; exact hr')), by rw [Nat.zero_add]; exact vec_made rfl rfl (cap_le hsz (a := [] ++ xs) (by simpa using hxsl) hlen), ?_⟩
            rw [hF, hnm]
            refine .push hheap hos ht hout hEk ⟨xs, spare, denC_mono (.set hEk) hxs, ⟨(0, 0), by simpa using push_new hheap, .inl rfl⟩, by simpa using hlen, rfl, rfl⟩ (fun e => absurd rfl e)
          · cases hr
        · -- what grows already
          rename_i nm len old te sz cx
          split at hr
          · cases hr
          rename_i hte
          have hte : te = e := by simpa using hte
          subst hte
          split at hr
          · rename_i hsze
            have hsze : sz = ie.size := by simpa using hsze
            subst hsze
            split at hr
            · rename_i ob n new hel
              cases hr
              obtain ⟨g1, g2, g3, g4⟩ := grow_cases kk
              obtain ⟨hob, h4, h5, h6, _⟩ := allP_append.1 g1 |>.imp id id
              obtain ⟨b, c', hb, hpx⟩ := vec_den hs
              have hrd : F.rd = nm :: x.name := by rw [hF]; rfl
              have hwr : F.wr = true := by rw [hF]; rfl
              obtain ⟨b', c'', hb', hobj⟩ := hp.objs 0 nm (.vec old te ie.size) (by rw [hrd]; rfl) rfl
              rw [hb] at hb'; cases hb'
              obtain ⟨os, ys, hos, ⟨mk, hwo, hmk⟩, hlo, hoz⟩ := hobj
              have hosl : os.length = len * ie.size := (denC_length hos).trans h4
              obtain ⟨xs, hxs, hxl, hrun⟩ := elemsA_run (w := w) hel hob hx (fun i m o hi' ho' => hp.objs (i + 1) m o (by rw [hrd]; simpa using hi') (by simpa using ho'))
              have hxsl : xs.length = n * ie.size := (denC_length hxs).trans hxl
              have hdead : ∀ (i n : Nat) (o : AObj), F.rd[i]? = some n → (AObj.dead :: cx)[i]? = some o → ∃ b c, E n = some (b, c) ∧ ObjR E w b c o := fun i m o h1 h2 => by
                cases i with
                | zero => rw [hrd] at h1; simp at h1 h2; subst h1; subst h2; exact ⟨_, _, hb, trivial⟩
                | succ i => exact hp.objs (i + 1) m o h1 (by simpa using h2)
              rw [g2, g3, g4]
              by_cases hroom : len + n ≤ c'.n
              · obtain ⟨w', hr', hw', hu⟩ := run_append_room (w := w) (ty := o.type) h0 h1 hu0 hu1 htx hi hwo hmk (hrun w rfl) hxsl hxs.2 hroom hlo
                refine ⟨_, w', E.set k (b, c'), .inl (execOp_append ho hcal ha (by rw [hpx]; exact hr')), vec_made hoz.2 hoz.1 hroom, ?_⟩
                have hle : len * ie.size + n * ie.size ≤ c'.n * ie.size := by rw [← Nat.add_mul]; exact Nat.mul_le_mul_right _ hroom
                have hyl : n * ie.size ≤ ys.length := by simp at hlo; omega
                have hov : over (os ++ ys) (len * ie.size) xs = os ++ xs ++ ys.drop (n * ie.size) := by
                  rw [over_eq _ _ _ (by simp; omega), hxsl, ← hosl, List.take_left, List.drop_append]
                  simp
                exact {
                  le := .set hEk
                  only := fun m hm => Env.set_other E _ (by rw [hF, hnm] at hm; simpa using hm)
                  wrote := fun _ i m o h1 h2 => by
                    cases i with
                    | zero => rw [hrd] at h1; simp at h1 h2; subst h1; subst h2; exact ⟨_, _, hb, trivial⟩
                    | succ i =>
                      have h2' : cx[i]? = some o := by simpa using h2
                      obtain ⟨b2, c2, hb2, ho2⟩ := hp.objs (i + 1) m o h1 (by simpa using h2)
                      refine ⟨b2, c2, hb2, ?_⟩
                      cases hl2 : o.live with
                      | false => cases o <;> simp [AObj.live] at hl2; trivial
                      | true =>
                        have hne : nm ≠ m := by
                          have := hp.rdNodup hwr
                          rw [hrd] at this h1
                          rintro rfl
                          exact (List.nodup_cons.1 this).1 (List.mem_of_getElem? (by simpa using h1))
                        have := hp.apart 0 (i + 1) nm m (.vec old te ie.size) o b c' b2 c2 (by rw [hrd]; rfl) h1 rfl (by simpa using h2) rfl hl2 hb hb2 hne
                        exact (ho2.block fun _ ht => hu.keep b2 (fun e => this (e ▸ ht))).mono (.set hEk)
                  made := fun i m o h1 h2 => by
                    rw [hF, hnm] at h1
                    cases i with
                    | succ i => simp at h1
                    | zero =>
                      simp at h1 h2; subst h1; subst h2
                      refine ⟨_, _, Env.set_same E _ _, ⟨os ++ xs, ys.drop (n * ie.size), denC_append (denC_mono (.set hEk) hos) (denC_mono (.set hEk) hxs), ⟨mk, by rw [hw', hov], by rw [← hov, over_length]; exact hmk⟩, ?_, hoz⟩, fun _ => .inr ⟨hwr, 0, nm, c', by rw [hrd]; rfl, rfl, hb⟩⟩
                      rw [← hlo]; simp [hxsl]; omega
                  keep := fun j hj hne => hu.keep j (by rintro rfl; exact hne nm (by rw [hF]; simp [AV.isVec, AV.name]) c' hb)
                  newApart := fun i j n m o1 o2 b c b' c' h1 h2 _ _ _ _ _ _ hne => by
                    rw [hF, hnm] at h1 h2
                    cases i with
                    | zero => cases j with
                      | zero => exact absurd rfl hne
                      | succ j => simp at h2
                    | succ i => simp at h1
                  grow := by rw [hu.size]; exact Nat.le_refl _
                  os := hu.os, tape := hu.tape, output := hu.output }
              · have hold : ∀ w' : World, w'.heap = w.heap → (Builtin.firstCells ie.size len (.slice (some ⟨b, 0, none⟩) len c'.n)).run P w' = .ok os.toArray w' := fun w' hw' => by
                  have := run_loadCells_window (P := P) (w := w') (b := b) (off := 0) os (fun i x hi => by
                    have hlt := (List.getElem?_eq_some_iff.1 hi).1
                    rw [Nat.zero_add, cell_of_block (by rw [hw']; exact hwo), List.getElem?_toArray, List.getElem?_append_left hlt, hi])
                  rw [hosl] at this
                  simpa [Builtin.firstCells] using this
                obtain ⟨nc, spare, w', hr', hheap, hlen, hos', ht, hout⟩ := run_append_grow (w := w) (base := some ⟨b, 0, none⟩) (len := len) (cap := c'.n) (olds := os) (ty := o.type) h0 h1 hu0 hu1 htx hi hZ hze hzl hold hosl hrun hxsl (by omega) h5 h6
                refine ⟨_, w', E.set k (w.heap.size, { n := nc }), .inl (execOp_append ho hcal ha (by rw [hpx]; exact hr')), vec_made rfl rfl (cap_le hsz (a := os ++ xs) (by rw [List.length_append, hosl, hxsl, Nat.add_mul]) hlen), ?_⟩
                have hpush := Eff.push (rd := F.rd) (ws := [nm]) (upd := AObj.dead :: cx) (o := .vec (old ++ new) te ie.size) (c := { n := nc }) hheap hos' ht hout hEk ⟨os ++ xs, spare, denC_append (denC_mono (.set hEk) hos) (denC_mono (.set hEk) hxs), ⟨(0, 0), push_new hheap, .inl rfl⟩, hlen, rfl, rfl⟩ (fun _ => hdead)
                rw [hrd] at hpush
                rw [hF, hnm]
                exact hpush
            · cases hr
          · cases hr
        · -- a slice that has no room
          rename_i nm off len cap ob' cx
          split at hr
          · rename_i o0 oc ob n new hk hel
            cases hr
            obtain ⟨g1, g2, g3, g4⟩ := grow_cases kk
            obtain ⟨hob, h4, h5, h6, h7, h8, h9, _⟩ := allP_append.1 g1 |>.imp id id
            subst h6
            obtain ⟨b, c', hb, hpx⟩ := slice_den hs
            have hrd : F.rd = nm :: x.name := by rw [hF]; rfl
            obtain ⟨b', c'', hb', hobj⟩ := hp.objs 0 nm ob' (by rw [hrd]; rfl) rfl
            rw [hb] at hb'; cases hb'
            obtain ⟨os, hos, hwin⟩ := hobj.window hk
            have hosl := denC_length hos
            obtain ⟨xs, hxs, hxl, hrun⟩ := elemsA_run (w := w) hel hob hx (fun i m o hi' ho' => hp.objs (i + 1) m o (by rw [hrd]; simpa using hi') (by simpa using ho'))
            have hxsl : xs.length = n * ie.size := (denC_length hxs).trans hxl
            have hold : ∀ w' : World, w'.heap = w.heap → (Builtin.firstCells ie.size len (.slice (some ⟨b, off, none⟩) len len)).run P w' = .ok ((os.drop (off - o0)).take (len * ie.size)).toArray w' := fun w' hw' => by
              have hwin' : ∀ (i : Nat) x, os[i]? = some x → w'.cell? ⟨b, o0 + i, none⟩ = some x := fun i x hi => by
                rw [← hwin i x hi]; simp only [World.cell?, hw']
              have := run_window_cells (P := P) (n := len * ie.size) hwin' h4 (by omega)
              simp only [Builtin.firstCells, this]
            obtain ⟨nc, spare, w', hr', hheap, hlen, hos', ht, hout⟩ := run_append_grow (w := w) (base := some ⟨b, off, none⟩) (len := len) (cap := len) (ty := o.type) h0 h1 hu0 hu1 htx hi hZ hze hzl hold (by simp; omega) hrun hxsl (by omega) h8 h9
            rw [g2, g3, g4]
            refine ⟨_, w', E.set k (w.heap.size, { n := nc }), .inl (execOp_append ho hcal ha (by rw [hpx]; exact hr')), vec_made rfl rfl (cap_le hsz (a := (os.drop (off - o0)).take (len * ie.size) ++ xs) (by rw [List.length_append, hxsl, Nat.add_mul]; congr 1; simp; omega) hlen), ?_⟩
            rw [hF, hnm]
            exact .push hheap hos' ht hout hEk ⟨_, spare, denC_append (denC_mono (.set hEk) (denC_take (denC_drop hos _) _)) (denC_mono (.set hEk) hxs), ⟨(0, 0), push_new hheap, .inl rfl⟩, hlen, rfl, rfl⟩ (fun e => absurd rfl e)
          · cases hr
        · cases hr
  · -- nothing put to nothing
    rename_i e tx he htx hnm
    simp only [Option.bind_eq_some_iff] at he htx
    obtain ⟨t0, h0, hu0⟩ := he
    obtain ⟨t1, h1, hu1⟩ := htx
    split at hr
    · cases hr
    · rename_i hnint
      have htx : ∀ k, tx ≠ .int k := fun k e => hnint (by rw [e]; rfl)
      split at hr
      · rename_i ie hi
        split at hr
        · rename_i ob n new hel
          cases hr
          obtain ⟨hob, hn, _⟩ := allP_append.1 kk |>.imp id id
          have hn : n = 0 := hn
          subst hn
          obtain ⟨xs, hxs, hxl, hrun⟩ := elemsA_run (P := P) (w := w) hel hob hx (fun i nm o hi' ho' => hp.objs i nm o (by rw [hF]; simpa [AV.name] using hi') ho')
          have hp0 : ρ p = .slice none 0 0 := by simpa [den] using hs.symm
          refine Good.pure (by rw [hF]; rfl) (by rw [hF]; exact hnm) (execOp_append ho hcal ha (v := .slice none 0 0) ?_) rfl
          rw [hp0]
          obtain ⟨r1, r2⟩ := hrun w rfl
          have hsz : P.cellsOf e = ie.size := by simp [Program.cellsOf, hi]
          simp only [Builtin.append_, h0, h1, List.getElem?_toArray, List.getElem?_cons_zero, List.getElem?_cons_succ, Sem.run_bind, run_underlying' hu0, Result.andThen_ok, run_sizeOf' hi, run_underlying' hu1, Sem.run_pure]
          have hmi : (match tx with | .int _ => true | _ => false) = false := by
            cases tx <;> first | rfl | exact absurd rfl (htx _)
          rw [if_neg (by decide)]
          simp only [Sem.run_bind, r1, Result.andThen_ok, Bool.not_false, if_true, hsz, r2, Nat.zero_add, Nat.le_refl, Sem.run_pure]
        · cases hr
      · cases hr
  · cases hr

end Go.Proofs.YtpdhfopfjoinnaaDoor.Sx
