/- Law 3: raw numbers that are handed in: rows, out of what is read of them. -/
import Derived.Test.YtdomenmfkbfakaaGreatDoorGr10
import Derived.Test.YtdomenmfkbfakaaGreatDoorSxYr
import Derived.Test.YtdomenmfkbfakaaGreatDoorGr09
import Derived.Test.YtdomenmfkbfakaaGreatDoorSxY
import Derived.Handed
import Derived.HandedShaped
set_option linter.unusedVariables false
set_option linter.unusedSimpArgs false
namespace Go.Proofs.YtdomenmfkbfakaaGreatDoor
open Go Sx Go.ChangeShapes Go.WideShapes Go.ChangeAt Go.RowKit Go.Joins Go.Deep
theorem kids : Kids Tryz.prog (· < Tryz.prog.types.size) := kids_rows (by kernel_rfl) (by kernel_rfl)
theorem full : ∀ t e, t < Tryz.prog.types.size → Tryz.prog.underlying t = some (.slice e) → 0 < Tryz.prog.cellsOf e := slices_full_of Tryz.prog (by kernel_rfl)
theorem inI_of {n : Int} (h : (Lit.int .i64 n).wf) : inI n = true := by
  have := wf_i64 h
  exact inI_iff.2 ⟨by omega, by omega⟩
/-- A row, as it stands in a world. -/
def cI (w : World) (b off : Nat) : Int := match w.cell? ⟨b, off, none⟩ with | some (.int _ n) => n | _ => 0
def rowW (w : World) (b off : Nat) : List CV :=
  [.mk (cI w b off) [] false [], .mk (cI w b (off + 1)) [] false [], .mk (cI w b (off + 2)) [] false [],
   .mk 0 (match w.cell? ⟨b, off + 3, none⟩ with | some (.string s) => s.data.toList | _ => []) false [],
   .mk 0 [] (match w.cell? ⟨b, off + 4, none⟩ with | some (.bool t) => t | _ => false) []]
/-- How a row stands in a world. -/
def Stands (w : World) (b off : Nat) : Prop := ∃ (k m e : Int) (s : ByteArray) (t : Bool), w.cell? ⟨b, off, none⟩ = some (.int .i64 k) ∧ w.cell? ⟨b, off + 1, none⟩ = some (.int .i64 m) ∧ w.cell? ⟨b, off + 2, none⟩ = some (.int .i64 e) ∧ w.cell? ⟨b, off + 3, none⟩ = some (.string s) ∧ w.cell? ⟨b, off + 4, none⟩ = some (.bool t) ∧ inI k = true ∧ inI m = true ∧ inI e = true ∧ s.data.toList.length ≤ 9223372036854775807
theorem stands_at {w : World} {b off : Nat} (h : Stands w b off) (j : Nat) (v : Value) (hj : j < 5) (hv : cellV (shW.getD j .any) (rowCV (rowW w b off) j) = some v) : w.cell? ⟨b, off + j, none⟩ = some v := by
  obtain ⟨k, m, e, s, t, h0, h1, h2, h3, h4, _⟩ := h
  unfold rowW cI at hv
  rw [h0, h1, h2, h3, h4] at hv
  match j, hj with
  | 0, _ => rw [Nat.add_zero, h0]; exact hv
  | 1, _ => rw [h1]; exact hv
  | 2, _ => rw [h2]; exact hv
  | 3, _ =>
    rw [h3]
    have hv : some (Value.string ⟨s.data.toList.toArray⟩) = some v := hv
    rw [← hv]
  | 4, _ => rw [h4]; exact hv
theorem stands_ok {w : World} {b off : Nat} (h : Stands w b off) : ∀ c ∈ okC (rowW w b off), c = true := by
  obtain ⟨k, m, e, s, t, h0, h1, h2, h3, h4, a, b', c, d⟩ := h
  unfold rowW cI
  rw [h0, h1, h2, h3, h4]
  show ∀ x ∈ [inI k, inI m, inI e, decide (s.data.toList.length ≤ 9223372036854775807)], x = true
  intro x hx
  simp only [List.mem_cons, List.not_mem_nil, or_false] at hx
  rcases hx with rfl | rfl | rfl | rfl
  · exact a
  · exact b'
  · exact c
  · exact decide_eq_true d
section
variable {H : Type} {enc : TypeId × Value → H}
set_option maxRecDepth 20000 in
theorem open_raw {w : World} {base : Nat} {spare : Nat → Bool} {held : Bool} {n : Nat} {cs : List Value} {x : DataW H × List MemPlace} {b off : Nat} (hc : w.cells? base ⟨b, off, none⟩ 5 = some cs) (h : DataW.trod enc Tryz.prog w base spare held n 25 cs = some x) : Stands w b off := by
  obtain ⟨xs, m, rfl, _, hl, hx, hf⟩ := DataW.trod_struct Tryz.underlying25 h
  obtain ⟨_, hlen, hcell⟩ := World.cells?_some hc
  match cs, hlen with
  | [c0, c1, c2, c3, c4], _ =>
    have e0 := hf 0 _ rfl
    have e1 := hf 1 _ rfl
    have e2 := hf 2 _ rfl
    have e3 := hf 3 _ rfl
    have k0 := hcell 0 (by omega)
    have k1 := hcell 1 (by omega)
    have k2 := hcell 2 (by omega)
    have k3 := hcell 3 (by omega)
    have k4 := hcell 4 (by omega)
    rw [add_plain] at k0 k1 k2 k3 k4
    have c3' : Tryz.prog.cellsOf 3 = 1 := by kernel_rfl
    have c9 : Tryz.prog.cellsOf 9 = 1 := by kernel_rfl
    have c4' : Tryz.prog.cellsOf 4 = 1 := by kernel_rfl
    have cD : Tryz.prog.cellsOf 23 = 2 := by kernel_rfl
    have hx : xs.length = 4 := hx
    rw [List.getElem?_eq_getElem (by omega)] at e0 e1 e2 e3
    obtain ⟨k, q0, _, wk⟩ := DataW.trod_int (k := .i64) Tryz.underlying3 e0
    obtain ⟨s, q2, _, ws⟩ := DataW.trod_string Tryz.underlying9 e2
    obtain ⟨t, q3, _⟩ := DataW.trod_bool Tryz.underlying4 e3
    obtain ⟨ys, m', rfl, _, hl', hy, hg⟩ := DataW.trod_struct Tryz.underlying23 e1
    have f0 := hg 0 _ rfl
    have f1 := hg 1 _ rfl
    have hy : ys.length = 2 := hy
    rw [List.getElem?_eq_getElem (by omega)] at f0 f1
    obtain ⟨a, r0, _, wa⟩ := DataW.trod_int (k := .i64) Tryz.underlying3 f0
    obtain ⟨e, r1, _, we⟩ := DataW.trod_int (k := .i64) Tryz.underlying3 f1
    have q0 : List.take (Tryz.prog.cellsOf 3) (List.drop 0 [c0, c1, c2, c3, c4]) = [.int .i64 k] := q0
    have q2 : List.take (Tryz.prog.cellsOf 9) (List.drop 3 [c0, c1, c2, c3, c4]) = [.string s] := q2
    have q3 : List.take (Tryz.prog.cellsOf 4) (List.drop 4 [c0, c1, c2, c3, c4]) = [.bool t] := q3
    have r0 : List.take (Tryz.prog.cellsOf 3) (List.drop 0 (List.take (Tryz.prog.cellsOf 23) (List.drop 1 [c0, c1, c2, c3, c4]))) = [.int .i64 a] := r0
    have r1 : List.take (Tryz.prog.cellsOf 3) (List.drop 1 (List.take (Tryz.prog.cellsOf 23) (List.drop 1 [c0, c1, c2, c3, c4]))) = [.int .i64 e] := r1
    rw [c3'] at q0
    rw [c9] at q2
    rw [c4'] at q3
    rw [c3', cD] at r0 r1
    cases q0
    cases q2
    cases q3
    cases r0
    cases r1
    exact ⟨k, a, e, s, t, k0, k1, k2, k3, k4, inI_of wk, inI_of wa, inI_of we, str_max ws⟩
theorem shape_lt {w : World} {b : Nat} {x : TypeId × Nat} (h : w.shape? b = some x) : b < w.heap.size := by
  unfold World.shape? at h
  split at h
  · rename_i he; exact (Array.getElem?_eq_some_iff.1 he).1
  · cases h
set_option maxRecDepth 20000 in
/-- The raw numbers that are handed in. -/
theorem open_raws {w : World} {base b0 : Nat} {spare : Nat → Bool} {held : Bool} {v : Value} {d : DataW H} {p : List MemPlace} (hv : Value.okWide Tryz.prog w .any b0 26 v) (h : DataW.Trod enc Tryz.prog w base spare held 26 v d p) :
    ∃ (rows : List (List CV)) (l b : Nat) (c : Cap), (∀ (E : Env) (nm : Nat), E nm = some (b, c) → den E (.dsl nm l) = some v) ∧ okW l rows ∧ (∀ E, ObjR E w b c (.flatR false shW rows)) ∧ ∀ k, ¬ under c k := by
  obtain ⟨n, h⟩ := h
  obtain ⟨a, len, cap, rfl⟩ := okWide_slice Tryz.underlying26 hv
  rcases open_slice Tryz.underlying26 h with ⟨hc, _⟩ | ⟨a', len', cap', m, n', D, Pl, hc, hb, hl, hm, hmm, _, hx⟩
  · simp [Value.cells] at hc
    obtain ⟨rfl, rfl, rfl⟩ := hc
    exact ⟨[], 0, 0, { n := 0, z := true }, fun E nm hE => by simp [den, hE], ⟨by simp, by omega, fun i hi => by omega⟩, fun E => ⟨fun _ => rfl, fun e => by cases e⟩, Cap.bare_of fun _ _ => rfl⟩
  · simp [Value.cells] at hc
    obtain ⟨rfl, rfl, rfl⟩ := hc
    have hok : Cell.ok Tryz.prog w .any b0 26 (.slice (some a') len cap) := by
      simpa only [Value.okWide, Cell.okWide, Tryz.underlying26] using hv
    simp only [Cell.ok, Tryz.underlying26] at hok
    obtain ⟨_, _, _, hsp, row, cells, hsh, _⟩ := hok
    obtain ⟨b, off, sp⟩ := a'
    have hsp : sp = none := hsp
    subst hsp
    have c31 : Tryz.prog.cellsOf 25 = 5 := by kernel_rfl
    have st : ∀ i, i < len → Stands w b (off + i * 5) := fun i hi => by
      obtain ⟨cs', h1, h2⟩ := hx i (by rw [hmm]; split <;> omega)
      rw [c31, add_plain] at h1
      exact open_raw h1 h2
    have hrow : ∀ i, i < len → Sx.rowAt ((List.range len).map fun i => rowW w b (off + i * 5)) i = rowW w b (off + i * 5) := fun i hi => by
      unfold Sx.rowAt
      rw [List.getD_eq_getElem?_getD, List.getElem?_map, List.getElem?_range hi]; rfl
    have hml : maxLen = 9223372036854775807 := by kernel_rfl
    refine ⟨(List.range len).map fun i => rowW w b (off + i * 5), len, b, { n := cap, o := off }, fun E nm hE => ?_, ⟨by simp, by omega, fun i hi => ?_⟩, fun E => ⟨fun e => by (cases e), fun _ => ⟨shape_lt hsh, fun i j v hi hj hv => ?_⟩⟩, Cap.bare_of fun _ _ => rfl⟩
    · simp [den, hE, hl]
    · rw [hrow i hi]; exact stands_ok (st i hi)
    · have hi : i < len := by simpa using hi
      rw [hrow i hi] at hv
      rw [show off + (i * shW.length + j) = off + i * 5 + j by show off + (i * 5 + j) = _; omega]
      exact stands_at (st i hi) j v hj hv
end
end Go.Proofs.YtdomenmfkbfakaaGreatDoor

/- Law 3: a place that is handed in, as an array of two. -/
set_option linter.unusedVariables false
set_option linter.unusedSimpArgs false
set_option maxRecDepth 20000
namespace Go.Proofs.YtdomenmfkbfakaaGreatDoor
open Go Sx Go.ChangeShapes Go.WideShapes Go.ChangeAt Go.RowKit Go.Joins Go.Deep
section
variable {H : Type} {enc : TypeId × Value → H}

theorem open_pair {w : World} {base b0 : Nat} {spare : Nat → Bool} {held : Bool} {v : Value} {d : DataW H} {p : List MemPlace} (hv : Value.okWide Tryz.prog w .any b0 41 v) (h : DataW.Trod enc Tryz.prog w base spare held 41 v d p) :
    ∃ x y : Int, v = .agg #[.int .i64 x, .int .i64 y] ∧ inI x = true ∧ inI y = true := by
  obtain ⟨n, h⟩ := h
  simp only [Value.okWide, Tryz.underlying41] at hv
  obtain ⟨cs, rfl, hsz, _⟩ := hv
  have h' : DataW.trod enc Tryz.prog w base spare held n 41 cs.toList = some (d, p) := h
  obtain ⟨xs, m, _, _, hl, hx, hf⟩ := DataW.trod_array Tryz.underlying41 h'
  have c3' : Tryz.prog.cellsOf 3 = 1 := by kernel_rfl
  have c41 : Tryz.prog.cellsOf 41 = 2 := by kernel_rfl
  rw [c41] at hl
  match hcs : cs.toList, hl with
  | [a0, a1], _ =>
    have hcs' : cs = #[a0, a1] := by rw [← Array.toArray_toList (xs := cs), hcs]
    subst hcs'
    have one : ∀ (i : Nat) (hi : i < 2) (a : Value), List.take (Tryz.prog.cellsOf 3) (List.drop (i * Tryz.prog.cellsOf 3) [a0, a1]) = [a] → ∃ x : Int, a = .int .i64 x ∧ inI x = true := fun i hi a ha => by
      have e := hf i hi
      rw [List.getElem?_eq_getElem (by omega)] at e
      obtain ⟨x, q, _, wx⟩ := DataW.trod_int (k := .i64) Tryz.underlying3 e
      have q : List.take (Tryz.prog.cellsOf 3) (List.drop (i * Tryz.prog.cellsOf 3) [a0, a1]) = [.int .i64 x] := q
      rw [ha] at q
      exact ⟨x, by simpa using q, inI_of wx⟩
    obtain ⟨x, rfl, wx⟩ := one 0 (by omega) a0 (by rw [c3']; rfl)
    obtain ⟨y, rfl, wy⟩ := one 1 (by omega) a1 (by rw [c3']; rfl)
    exact ⟨x, y, rfl, wx, wy⟩
end
end Go.Proofs.YtdomenmfkbfakaaGreatDoor

/- Law 3: raw numbers of one value that are handed in, and a truth. -/
set_option linter.unusedVariables false
set_option linter.unusedSimpArgs false
set_option maxRecDepth 20000
namespace Go.Proofs.YtdomenmfkbfakaaGreatDoor
open Go Sx Go.ChangeShapes Go.WideShapes Go.ChangeAt Go.RowKit Go.Joins Go.Deep
section
variable {H : Type} {enc : TypeId × Value → H}


end
end Go.Proofs.YtdomenmfkbfakaaGreatDoor

/- Law 3: the examples. -/
set_option linter.unusedVariables false
set_option linter.unusedSimpArgs false
namespace Go.Proofs.YtdomenmfkbfakaaGreatDoor
open Go Sx
/-- bytealg.CountString: how often a byte is there. -/
def eCount : Ent := fun args pre => match args with
  | [.str s, .int .u8 c] => .ret (.int .i64 (Lib.countByte s c.toNat.toUInt8)) pre
  | _ => .fail
theorem eCount_ok : EntOK Tryz.prog 161 eCount := by
  intro args pre
  unfold eCount
  split
  · rename_i s c
    intro w E vs hvs hp
    obtain ⟨x, zs, hx, hz, rfl⟩ := denL_cons.1 hvs
    obtain ⟨y, us, hy, hu, rfl⟩ := denL_cons.1 hz
    simp only [denL, Option.some.injEq] at hu
    subst hu
    have hx : x = .string ⟨s.toArray⟩ := by simpa [den] using hx.symm
    have hy : y = .int .u8 c := by simpa [den] using hy.symm
    subst hx; subst hy
    refine Does.of (by decide) (.inr ⟨_, w, ?_, E, _, rfl, rfl, PostR.same hp⟩)
    rw [run_callFunc_extern Tryz.func161 (by kernel_rfl) (by kernel_rfl) (by kernel_rfl) (e := Extern.BytealgCount.count) (by kernel_rfl)]
    rw [Lib.run_countString]; rfl
  · trivial
def tAw : Tab := (161, eCount) :: tab5
theorem tAw_ok : TabOK Tryz.prog tAw := .cons eCount_ok tab5_ok
/-- What is known of some calls, of a text, of a number. -/
def eMemS : List (List UInt8 × AV) → Ent
  | [] => fun _ _ => .fail
  | (k, r) :: t => fun args pre => match args, pre with
    | [.str s], [] => .br (decide (s = k)) (.ret r []) (eMemS t [.str s] [])
    | _, _ => .fail
theorem eMemS_ok {f : FuncId} : ∀ (l : List (List UInt8 × AV)), (∀ c ∈ l, Meets Tryz.prog f [.str c.1] [] c.2 []) → EntOK Tryz.prog f (eMemS l)
  | [], _ => fun _ _ => trivial
  | (k, r) :: t, h => fun args pre => by
    unfold eMemS
    split
    · refine ⟨fun g => ?_, fun _ => eMemS_ok t (fun c hc => h c (List.mem_cons_of_mem _ hc)) _ _⟩
      obtain rfl := of_decide_eq_true g
      exact h _ (List.mem_cons_self ..)
    · trivial
def eMemD (a b : Int) (r : AV) : Ent := fun args pre => match args, pre with
  | [.agg [.int .i64 m, .int .i64 e]], [] => .chk (decide (m = a)) (.chk (decide (e = b)) (.ret r []))
  | _, _ => .fail
theorem eMemD_ok {f : FuncId} {a b : Int} {r : AV} (h : Meets Tryz.prog f [.agg [.int .i64 a, .int .i64 b]] [] r []) : EntOK Tryz.prog f (eMemD a b r) := fun args pre => by
  unfold eMemD
  split
  · refine ⟨fun g1 => ⟨fun g2 => ?_, fun _ => trivial⟩, fun _ => trivial⟩
    obtain rfl := of_decide_eq_true g1
    obtain rfl := of_decide_eq_true g2
    exact h
  · trivial
theorem memo1 {T : Tab} {f : FuncId} {a : List AV} {r : AV} (hT : TabOK Tryz.prog T) (h : Comes T nolv f a [] (.ret r [])) : Meets Tryz.prog f a [] r [] := meets_ent (pre := []) (post := []) hT host h nolv_ok
abbrev dec2 (m e err : Int) : AV := .tuple [.agg [.int .i64 m, .int .i64 e], .int .i64 err]
theorem rd150 : Comes tAw nolv 44 [.str [49, 46, 53, 48]] [] (.ret (dec2 15 (-1) 0) []) := by unfold Comes; kernel_rfl
theorem rd12 : Comes tAw nolv 44 [.str [49, 50]] [] (.ret (dec2 12 0 0) []) := by unfold Comes; kernel_rfl
theorem rdq : Comes tAw nolv 44 [.str [39, 49, 50]] [] (.ret (dec2 0 0 12) []) := by unfold Comes; kernel_rfl
theorem tx15 : Comes tAw nolv 33 [.agg [.int .i64 15, .int .i64 (-1)]] [] (.ret (.tuple [.str [49, 46, 53], .int .i64 0]) []) := by unfold Comes; kernel_rfl
def tM1 : Tab := (44, eMemS [([49, 46, 53, 48], dec2 15 (-1) 0), ([49, 50], dec2 12 0 0), ([39, 49, 50], dec2 0 0 12)]) :: (33, eMemD 15 (-1) (.tuple [.str [49, 46, 53], .int .i64 0])) :: tAw
theorem tM1_ok : TabOK Tryz.prog tM1 := .cons (eMemS_ok _ fun c hc => by
    rcases List.mem_cons.1 hc with rfl | hc
    · exact memo1 tAw_ok rd150
    rcases List.mem_cons.1 hc with rfl | hc
    · exact memo1 tAw_ok rd12
    · obtain rfl := List.mem_singleton.1 hc
      exact memo1 tAw_ok rdq) (.cons (eMemD_ok (memo1 tAw_ok tx15)) tAw_ok)
set_option maxRecDepth 1000000 in
theorem awake_ok : EntOK Tryz.prog 11 eTrue := fun args pre => by
  unfold eTrue
  split
  · exact ans_comes (T := tM1) (lv := nolv) tM1_ok (by unfold Comes; kernel_rfl)
  · trivial
end Go.Proofs.YtdomenmfkbfakaaGreatDoor

/- Structs of plain fields (numbers, bools, strings), by value: opened and shut. -/
set_option linter.unusedVariables false
set_option linter.unusedSimpArgs false
namespace Go.Proofs.YtdomenmfkbfakaaGreatDoor.Sx
open Go Go.ChangeShapes Go.WideShapes Go.ChangeAt Go.RowKit Go.Joins Go.Deep

/-- A plain field's kind; its value. -/
inductive FK where
  | int (k : IntKind)
  | bool
  | str
inductive FV where
  | int (k : IntKind) (n : Int)
  | bool (b : Bool)
  | str (s : ByteArray)
def FV.kind : FV → FK
  | .int k _ => .int k
  | .bool _ => .bool
  | .str _ => .str
def FV.val : FV → Value
  | .int k n => .int k n
  | .bool b => .bool b
  | .str s => .string s
def FV.ok : FV → Prop
  | .int k n => (Lit.int k n).wf = true
  | .bool _ => True
  | .str s => s.size ≤ maxLen

section
variable {H : Type} {enc : TypeId × Value → H} {P : Program} {w : World} {base : Nat} {spare : Nat → Bool} {held : Bool}





end


end Go.Proofs.YtdomenmfkbfakaaGreatDoor.Sx

/- The plain wrap with tables laid AND the world's shape: both at once. -/
set_option linter.unusedVariables false
namespace Go.Proofs.YtdomenmfkbfakaaGreatDoor
open Go
theorem returnsInHanded_both {H : Type} {enc : TypeId × Value → H} {a : Assume} {C : Checked} {os : Os} {f : FuncId} {fn : Func} {s : ChangeSpec} {conds : List PathCond} {apart fresh handsOn again : Bool} {X : World → Array Value → Prop}
    (hX : ∀ (w w' : World) (args : Array Value), w.heap = w'.heap → X w args → X w' args)
    (own : ownKnob C.prog.godebug = none) (started : os.Started) (noInit : C.prog.inits.idxOf? f = none) (hfn : C.prog.funcs[f]? = some fn)
    (witness : ∃ (w : World) (tape : Tape) (i : Input), w.os = os ∧ (w.forCall tape i).Shaped C.prog ∧ i.vars = [] ∧ Input.okWide C.prog (w.forCall tape i) .any w.heap.size f i ∧
      ((s.pre enc C.prog fn conds apart (w.forCall tape i).memory i.args ∧ X (w.forCall tape i).memory i.args) ∧ sizedMet enc C.prog fn (OpenSpec.ofChange s) apart (w.forCall tape i).memory i.args) ∧ a.holds C.prog (lone (Frame.enter C.prog f i.args .normal) [] (w.forCall tape i)))
    (contract : ∀ (W : World) (base : Nat) (args : Array Value) (ds gs : List (DataW H)) (before : List MemPlace),
      (∀ (j : Nat) t v, fn.params[j]? = some t → args[j]? = some v → Value.okWide C.prog W .any base t v) →
      DataW.Whole enc C.prog fn.params.toList s.vars apart W args.toList ds gs before → X W args → W.ShapedOpen C.prog →
      Calls C.prog f args W fun e W' => ∃ v, e = .returned v ∧ s.post enc C.prog fn apart fresh handsOn again W args v W') :
    ReturnsInHanded a C os f .any (fun w args => (s.pre enc C.prog fn conds apart w args ∧ X w args) ∧ sizedMet enc C.prog fn (OpenSpec.ofChange s) apart w args) (s.post enc C.prog fn apart fresh handsOn again) := by
  refine returnsInHanded_of_calls own started noInit witness ?_
  intro w tape i _ hsh _ hok hpre hholds
  obtain ⟨_, _, _, fn', hfn', _, _, _, _, hval⟩ := hok
  obtain rfl := Option.some.inj (hfn'.symm.trans hfn)
  obtain ⟨⟨⟨ds, gs, before, hw, hc⟩, hx⟩, hz⟩ := hpre
  refine (contract (w.forCall tape i) w.heap.size i.args ds gs before hval (DataW.Whole.of_heap (w' := w.forCall tape i) (by rfl) hw) (hX _ _ _ (by rfl) hx) hsh).mono fun e W' ⟨v, he, hp⟩ => ?_
  subst he
  exact ChangeSpec.post_blind hp
end Go.Proofs.YtdomenmfkbfakaaGreatDoor
