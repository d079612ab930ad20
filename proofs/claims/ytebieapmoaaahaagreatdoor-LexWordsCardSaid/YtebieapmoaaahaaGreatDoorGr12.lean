/- Structs of plain fields (numbers, bools, strings), by value: opened and shut. -/
import Derived.Test.YtebieapmoaaahaaGreatDoorSxY
import Derived.Handed
import Derived.HandedShaped
set_option linter.unusedVariables false
set_option linter.unusedSimpArgs false
namespace Go.Proofs.YtebieapmoaaahaaGreatDoor.Sx
open Go Go.ChangeShapes Go.WideShapes Go.ChangeAt Go.RowKit Go.Joins Go.Deep

/-- A plain field's kind; its value. -/
inductive FK where
  | int (k : IntKind)
  | bool
  | str
inductive FV where
  | int (k : IntKind) (n : Int)
  | bool (b : Bool)
  | str (s : ByteArray)
def FV.kind : FV → FK
  | .int k _ => .int k
  | .bool _ => .bool
  | .str _ => .str
def FV.val : FV → Value
  | .int k n => .int k n
  | .bool b => .bool b
  | .str s => .string s
def FV.dat {H : Type} : FV → DataW H
  | .int k n => .lit (.int k n)
  | .bool b => .lit (.bool b)
  | .str s => .lit (.string s.data.toList)
def FV.ok : FV → Prop
  | .int k n => (Lit.int k n).wf = true
  | .bool _ => True
  | .str s => s.size ≤ maxLen
def fkOf (P : Program) (t : TypeId) : Option FK :=
  match P.underlying t with
  | some (.int k) => some (.int k)
  | some .bool => some .bool
  | some .string => some .str
  | _ => none

section
variable {H : Type} {enc : TypeId × Value → H} {P : Program} {w : World} {base : Nat} {spare : Nat → Bool} {held : Bool}

theorem trod_plain {t : TypeId} {k : FK} {n : Nat} {cs : List Value} {x : DataW H × List MemPlace} (hk : fkOf P t = some k) (h : DataW.trod enc P w base spare held n t cs = some x) :
    ∃ f : FV, f.kind = k ∧ cs = [f.val] ∧ x = (f.dat, []) ∧ f.ok := by
  unfold fkOf at hk
  split at hk
  · rename_i k' hu
    cases hk
    obtain ⟨a, rfl, rfl, wa⟩ := DataW.trod_int hu h
    exact ⟨.int k' a, rfl, rfl, rfl, wa⟩
  · rename_i hu
    cases hk
    obtain ⟨b, rfl, rfl⟩ := DataW.trod_bool hu h
    exact ⟨.bool b, rfl, rfl, rfl, trivial⟩
  · rename_i hu
    cases hk
    obtain ⟨s, rfl, rfl, hs⟩ := DataW.trod_string hu h
    exact ⟨.str s, rfl, rfl, rfl, hs⟩
  · cases hk
theorem trod_plain_mk {t : TypeId} {f : FV} {n : Nat} (hk : fkOf P t = some f.kind) (hf : f.ok) : DataW.trod enc P w base spare held (n + 1) t [f.val] = some (f.dat, []) := by
  unfold fkOf at hk
  split at hk
  · rename_i k' hu
    cases f with
    | int k a => cases hk; simp only [FV.ok] at hf; simp [DataW.trod, hu, FV.val, FV.dat, hf]
    | bool b => cases hk
    | str s => cases hk
  · rename_i hu
    cases f with
    | bool b => simp [DataW.trod, hu, FV.val, FV.dat]
    | int k a => cases hk
    | str s => cases hk
  · rename_i hu
    cases f with
    | str s => simp only [FV.ok] at hf; simp [DataW.trod, hu, FV.val, FV.dat, hf]
    | int k a => cases hk
    | bool b => cases hk
  · cases hk

theorem flat_aux : ∀ (ks : List FK) (cs : List Value) (ys : List (DataW H × List MemPlace)), cs.length = ks.length → ys.length = ks.length →
    (∀ (i : Nat) k c y, ks[i]? = some k → cs[i]? = some c → ys[i]? = some y → ∃ f : FV, f.kind = k ∧ c = f.val ∧ y = (f.dat, []) ∧ f.ok) →
    ∃ xs : List FV, xs.map FV.kind = ks ∧ cs = xs.map FV.val ∧ ys = xs.map (fun f => (f.dat, [])) ∧ ∀ x ∈ xs, x.ok
  | [], [], [], _, _, _ => ⟨[], rfl, rfl, rfl, by simp⟩
  | [], _ :: _, _, h, _, _ => by simp at h
  | [], [], _ :: _, _, h, _ => by simp at h
  | _ :: _, [], _, h, _, _ => by simp at h
  | _ :: _, _ :: _, [], _, h, _ => by simp at h
  | k :: ks, c :: cs, y :: ys, h1, h2, h => by
    obtain ⟨f, e1, e2, e3, e4⟩ := h 0 k c y rfl rfl rfl
    obtain ⟨xs, g1, g2, g3, g4⟩ := flat_aux ks cs ys (by simpa using h1) (by simpa using h2) (fun i k c y a b d => h (i + 1) k c y (by simpa using a) (by simpa using b) (by simpa using d))
    refine ⟨f :: xs, by simp [e1, g1], by simp [e2, g2], by simp [e3, g3], ?_⟩
    intro x hx
    rcases List.mem_cons.1 hx with rfl | hx
    · exact e4
    · exact g4 x hx

theorem open_flat {b0 : Nat} {r : Reach} {t : TypeId} {fs : Array Field} {ks : List FK} {v : Value} {d : DataW H} {p : List MemPlace} (hs : P.underlying t = some (.struct fs)) (hone : oneCellFields P fs = true) (hC : P.cellsOf t = fs.size)
    (hk : fs.toList.map (fun f => fkOf P f.type) = ks.map some) (hv : Value.okWide P w r b0 t v) (h : DataW.Trod enc P w base spare held t v d p) :
    ∃ xs : List FV, v = .agg (xs.map FV.val).toArray ∧ d = .agg (xs.map FV.dat) ∧ p = [] ∧ (∀ x ∈ xs, x.ok) ∧ xs.map FV.kind = ks := by
  obtain ⟨cs, rfl, hsz⟩ := okWide_struct hs hv
  obtain ⟨fuel, hf⟩ := h
  obtain ⟨ys, n, _, hx, _, hlen, hg⟩ := DataW.trod_struct hs hf
  have hkl : ks.length = fs.size := by have := congrArg List.length hk; simpa using this.symm
  have hcs : cs.toList.length = fs.size := by simpa [hC] using hsz
  obtain ⟨xs, g1, g2, g3, g4⟩ := flat_aux ks cs.toList ys (by omega) (by omega) (fun i k c y a b e => by
    have hi : i < fs.size := by rw [← hkl]; exact (List.getElem?_eq_some_iff.1 a).1
    have hfi : fs[i]? = some fs[i] := Array.getElem?_eq_getElem hi
    obtain ⟨o, c1⟩ := hone_of hone i _ hfi
    have h1 := hg i _ hfi
    rw [o, c1, e] at h1
    have hci : i < cs.toList.length := by omega
    have hd : ((Value.agg cs).cells.toList.drop i).take 1 = [c] := by
      show (cs.toList.drop i).take 1 = [c]
      rw [List.drop_eq_getElem_cons hci]
      have : cs.toList[i] = c := by rw [List.getElem?_eq_getElem hci] at b; exact Option.some.inj b
      simp [this]
    rw [hd] at h1
    have hki : fkOf P fs[i].type = some k := by
      have := congrArg (·[i]?) hk
      simp only [List.getElem?_map, Array.getElem?_toList, hfi, a, Option.map_some] at this
      exact Option.some.inj this
    obtain ⟨f, f1, f2, f3, f4⟩ := trod_plain hki h1
    exact ⟨f, f1, (List.cons.inj f2).1, f3, f4⟩)
  simp only [Prod.mk.injEq] at hx
  refine ⟨xs, ?_, ?_, ?_, g4, g1⟩
  · congr 1; rw [← g2]
  · rw [hx.1, g3]; simp [List.map_map, Function.comp_def]
  · rw [hx.2, g3]; simp [List.flatMap_map]

theorem mapM_some' {α β : Type} (g : α → Option β) : ∀ (l : List α) (ys : List β), l.length = ys.length → (∀ (i : Nat) a, l[i]? = some a → g a = ys[i]?) → l.mapM g = some ys
  | [], [], _, _ => rfl
  | [], _ :: _, h, _ => by simp at h
  | _ :: _, [], h, _ => by simp at h
  | a :: l, y :: ys, h, hg => by
    have h0 := hg 0 a rfl
    have ih := mapM_some' g l ys (by simpa using h) (fun i a e => by have := hg (i + 1) a (by simpa using e); simpa using this)
    simp only [List.getElem?_cons_zero] at h0
    simp [List.mapM_cons, h0, ih]

theorem shut_flat {t : TypeId} {fs : Array Field} {xs : List FV} (hs : P.underlying t = some (.struct fs)) (hone : oneCellFields P fs = true) (hC : P.cellsOf t = fs.size)
    (hk : fs.toList.map (fun f => fkOf P f.type) = (xs.map FV.kind).map some) (hok : ∀ x ∈ xs, x.ok) :
    DataW.Trod enc P w base spare held t (.agg (xs.map FV.val).toArray) (.agg (xs.map FV.dat)) [] := by
  have hkl : xs.length = fs.size := by have := congrArg List.length hk; simpa using this.symm
  refine ⟨1 + 1, ?_⟩
  show DataW.trod enc P w base spare held (1 + 1) t (xs.map FV.val).toArray.toList = _
  have hM : fs.toList.mapM (fun f => DataW.trod enc P w base spare held 1 f.type ((((xs.map FV.val).toArray.toList).drop f.offset).take (P.cellsOf f.type))) = some (xs.map fun f => (f.dat, [])) := by
    refine mapM_some' _ fs.toList (xs.map fun f => (f.dat, [])) (by simp [hkl]) ?_
    intro i f hf
    have hf' : fs[i]? = some f := by simpa using hf
    obtain ⟨o, c1⟩ := hone_of hone i _ hf'
    have hi : i < xs.length := by rw [hkl]; exact (Array.getElem?_eq_some_iff.1 hf').1
    have hki : fkOf P f.type = some xs[i].kind := by
      have := congrArg (·[i]?) hk
      simp only [List.getElem?_map, hf, List.getElem?_eq_getElem hi, Option.map_some] at this
      exact Option.some.inj this
    rw [o, c1]
    have hd : ((xs.map FV.val).toArray.toList.drop i).take 1 = [xs[i].val] := by
      show ((xs.map FV.val).drop i).take 1 = _
      rw [List.drop_eq_getElem_cons (by simpa using hi)]
      simp
    rw [hd, trod_plain_mk hki (hok _ (List.getElem_mem hi))]
    simp [List.getElem?_eq_getElem hi]
  rw [trod_struct_mk hs (by simp [hC, hkl]) hM]
  simp [List.map_map, Function.comp_def, List.flatMap_map]
end

/-- Three, five numbers. -/
theorem three_ints {xs : List FV} (h : xs.map FV.kind = [.int .i64, .int .i64, .int .i64]) : ∃ a b c : Int, xs = [.int .i64 a, .int .i64 b, .int .i64 c] := by
  match xs, h with
  | [.int _ a, .int _ b, .int _ c], h => simp [FV.kind] at h; obtain ⟨rfl, rfl, rfl⟩ := h; exact ⟨a, b, c, rfl⟩
theorem five_ints {xs : List FV} (h : xs.map FV.kind = [.int .i64, .int .i64, .int .i64, .int .i64, .int .i64]) : ∃ a b c d e : Int, xs = [.int .i64 a, .int .i64 b, .int .i64 c, .int .i64 d, .int .i64 e] := by
  match xs, h with
  | [.int _ a, .int _ b, .int _ c, .int _ d, .int _ e], h => simp [FV.kind] at h; obtain ⟨rfl, rfl, rfl, rfl, rfl⟩ := h; exact ⟨a, b, c, d, e, rfl⟩
theorem kinds_siibbb {xs : List FV} (h : xs.map FV.kind = [.str, .int .i64, .int .i64, .bool, .bool, .bool]) : ∃ (s : ByteArray) (r c : Int) (a b d : Bool), xs = [.str s, .int .i64 r, .int .i64 c, .bool a, .bool b, .bool d] := by
  match xs, h with
  | [.str s, .int _ r, .int _ c, .bool a, .bool b, .bool d], h => simp [FV.kind] at h; obtain ⟨rfl, rfl⟩ := h; exact ⟨s, r, c, a, b, d, rfl⟩

end Go.Proofs.YtebieapmoaaahaaGreatDoor.Sx

/- The plain wrap with tables laid AND the world's shape: both at once. -/
set_option linter.unusedVariables false
namespace Go.Proofs.YtebieapmoaaahaaGreatDoor
open Go
theorem returnsInHanded_both {H : Type} {enc : TypeId × Value → H} {a : Assume} {C : Checked} {os : Os} {f : FuncId} {fn : Func} {s : ChangeSpec} {conds : List PathCond} {apart fresh handsOn again : Bool} {X : World → Array Value → Prop}
    (hX : ∀ (w w' : World) (args : Array Value), w.heap = w'.heap → X w args → X w' args)
    (own : ownKnob C.prog.godebug = none) (started : os.Started) (noInit : C.prog.inits.idxOf? f = none) (hfn : C.prog.funcs[f]? = some fn)
    (witness : ∃ (w : World) (tape : Tape) (i : Input), w.os = os ∧ (w.forCall tape i).Shaped C.prog ∧ i.vars = [] ∧ Input.okWide C.prog (w.forCall tape i) .any w.heap.size f i ∧
      ((s.pre enc C.prog fn conds apart (w.forCall tape i).memory i.args ∧ X (w.forCall tape i).memory i.args) ∧ sizedMet enc C.prog fn (OpenSpec.ofChange s) apart (w.forCall tape i).memory i.args) ∧ a.holds C.prog (lone (Frame.enter C.prog f i.args .normal) [] (w.forCall tape i)))
    (contract : ∀ (W : World) (base : Nat) (args : Array Value) (ds gs : List (DataW H)) (before : List MemPlace),
      (∀ (j : Nat) t v, fn.params[j]? = some t → args[j]? = some v → Value.okWide C.prog W .any base t v) →
      DataW.Whole enc C.prog fn.params.toList s.vars apart W args.toList ds gs before → X W args → W.ShapedOpen C.prog →
      Calls C.prog f args W fun e W' => ∃ v, e = .returned v ∧ s.post enc C.prog fn apart fresh handsOn again W args v W') :
    ReturnsInHanded a C os f .any (fun w args => (s.pre enc C.prog fn conds apart w args ∧ X w args) ∧ sizedMet enc C.prog fn (OpenSpec.ofChange s) apart w args) (s.post enc C.prog fn apart fresh handsOn again) := by
  refine returnsInHanded_of_calls own started noInit witness ?_
  intro w tape i _ hsh _ hok hpre hholds
  obtain ⟨_, _, _, fn', hfn', _, _, _, _, hval⟩ := hok
  obtain rfl := Option.some.inj (hfn'.symm.trans hfn)
  obtain ⟨⟨⟨ds, gs, before, hw, hc⟩, hx⟩, hz⟩ := hpre
  refine (contract (w.forCall tape i) w.heap.size i.args ds gs before hval (DataW.Whole.of_heap (w' := w.forCall tape i) (by rfl) hw) (hX _ _ _ (by rfl) hx) hsh).mono fun e W' ⟨v, he, hp⟩ => ?_
  subst he
  exact ChangeSpec.post_blind hp
end Go.Proofs.YtebieapmoaaahaaGreatDoor
