/- Structs of plain fields (numbers, bools, strings), by value: opened and shut. -/
import Derived.Test.YtphhepnldndbhaaGreatDoorSxY
import Derived.Test.YtphhepnldndbhaaGreatDoorGr08
import Derived.Test.YtphhepnldndbhaaGreatDoorSxYr
import Derived.Handed
import Derived.HandedShaped
set_option linter.unusedVariables false
set_option linter.unusedSimpArgs false
namespace Go.Proofs.YtphhepnldndbhaaGreatDoor.Sx
open Go Go.ChangeShapes Go.WideShapes Go.ChangeAt Go.RowKit Go.Joins Go.Deep

/-- A plain field's kind; its value. -/
inductive FK where
  | int (k : IntKind)
  | bool
  | str
inductive FV where
  | int (k : IntKind) (n : Int)
  | bool (b : Bool)
  | str (s : ByteArray)
def FV.kind : FV → FK
  | .int k _ => .int k
  | .bool _ => .bool
  | .str _ => .str
def FV.val : FV → Value
  | .int k n => .int k n
  | .bool b => .bool b
  | .str s => .string s
def FV.dat {H : Type} : FV → DataW H
  | .int k n => .lit (.int k n)
  | .bool b => .lit (.bool b)
  | .str s => .lit (.string s.data.toList)
def FV.ok : FV → Prop
  | .int k n => (Lit.int k n).wf = true
  | .bool _ => True
  | .str s => s.size ≤ maxLen
def fkOf (P : Program) (t : TypeId) : Option FK :=
  match P.underlying t with
  | some (.int k) => some (.int k)
  | some .bool => some .bool
  | some .string => some .str
  | _ => none

section
variable {H : Type} {enc : TypeId × Value → H} {P : Program} {w : World} {base : Nat} {spare : Nat → Bool} {held : Bool}

theorem trod_plain {t : TypeId} {k : FK} {n : Nat} {cs : List Value} {x : DataW H × List MemPlace} (hk : fkOf P t = some k) (h : DataW.trod enc P w base spare held n t cs = some x) :
    ∃ f : FV, f.kind = k ∧ cs = [f.val] ∧ x = (f.dat, []) ∧ f.ok := by
  unfold fkOf at hk
  split at hk
  · rename_i k' hu
    cases hk
    obtain ⟨a, rfl, rfl, wa⟩ := DataW.trod_int hu h
    exact ⟨.int k' a, rfl, rfl, rfl, wa⟩
  · rename_i hu
    cases hk
    obtain ⟨b, rfl, rfl⟩ := DataW.trod_bool hu h
    exact ⟨.bool b, rfl, rfl, rfl, trivial⟩
  · rename_i hu
    cases hk
    obtain ⟨s, rfl, rfl, hs⟩ := DataW.trod_string hu h
    exact ⟨.str s, rfl, rfl, rfl, hs⟩
  · cases hk
theorem trod_plain_mk {t : TypeId} {f : FV} {n : Nat} (hk : fkOf P t = some f.kind) (hf : f.ok) : DataW.trod enc P w base spare held (n + 1) t [f.val] = some (f.dat, []) := by
  unfold fkOf at hk
  split at hk
  · rename_i k' hu
    cases f with
    | int k a => cases hk; simp only [FV.ok] at hf; simp [DataW.trod, hu, FV.val, FV.dat, hf]
    | bool b => cases hk
    | str s => cases hk
  · rename_i hu
    cases f with
    | bool b => simp [DataW.trod, hu, FV.val, FV.dat]
    | int k a => cases hk
    | str s => cases hk
  · rename_i hu
    cases f with
    | str s => simp only [FV.ok] at hf; simp [DataW.trod, hu, FV.val, FV.dat, hf]
    | int k a => cases hk
    | bool b => cases hk
  · cases hk

theorem flat_aux : ∀ (ks : List FK) (cs : List Value) (ys : List (DataW H × List MemPlace)), cs.length = ks.length → ys.length = ks.length →
    (∀ (i : Nat) k c y, ks[i]? = some k → cs[i]? = some c → ys[i]? = some y → ∃ f : FV, f.kind = k ∧ c = f.val ∧ y = (f.dat, []) ∧ f.ok) →
    ∃ xs : List FV, xs.map FV.kind = ks ∧ cs = xs.map FV.val ∧ ys = xs.map (fun f => (f.dat, [])) ∧ ∀ x ∈ xs, x.ok
  | [], [], [], _, _, _ => ⟨[], rfl, rfl, rfl, by simp⟩
  | [], _ :: _, _, h, _, _ => by simp at h
  | [], [], _ :: _, _, h, _ => by simp at h
  | _ :: _, [], _, h, _, _ => by simp at h
  | _ :: _, _ :: _, [], _, h, _ => by simp at h
  | k :: ks, c :: cs, y :: ys, h1, h2, h => by
    obtain ⟨f, e1, e2, e3, e4⟩ := h 0 k c y rfl rfl rfl
    obtain ⟨xs, g1, g2, g3, g4⟩ := flat_aux ks cs ys (by simpa using h1) (by simpa using h2) (fun i k c y a b d => h (i + 1) k c y (by simpa using a) (by simpa using b) (by simpa using d))
    refine ⟨f :: xs, by simp [e1, g1], by simp [e2, g2], by simp [e3, g3], ?_⟩
    intro x hx
    rcases List.mem_cons.1 hx with rfl | hx
    · exact e4
    · exact g4 x hx

theorem open_flat {b0 : Nat} {r : Reach} {t : TypeId} {fs : Array Field} {ks : List FK} {v : Value} {d : DataW H} {p : List MemPlace} (hs : P.underlying t = some (.struct fs)) (hone : oneCellFields P fs = true) (hC : P.cellsOf t = fs.size)
    (hk : fs.toList.map (fun f => fkOf P f.type) = ks.map some) (hv : Value.okWide P w r b0 t v) (h : DataW.Trod enc P w base spare held t v d p) :
    ∃ xs : List FV, v = .agg (xs.map FV.val).toArray ∧ d = .agg (xs.map FV.dat) ∧ p = [] ∧ (∀ x ∈ xs, x.ok) ∧ xs.map FV.kind = ks := by
  obtain ⟨cs, rfl, hsz⟩ := okWide_struct hs hv
  obtain ⟨fuel, hf⟩ := h
  obtain ⟨ys, n, _, hx, _, hlen, hg⟩ := DataW.trod_struct hs hf
  have hkl : ks.length = fs.size := by have := congrArg List.length hk; simpa using this.symm
  have hcs : cs.toList.length = fs.size := by simpa [hC] using hsz
  obtain ⟨xs, g1, g2, g3, g4⟩ := flat_aux ks cs.toList ys (by omega) (by omega) (fun i k c y a b e => by
    have hi : i < fs.size := by rw [← hkl]; exact (List.getElem?_eq_some_iff.1 a).1
    have hfi : fs[i]? = some fs[i] := Array.getElem?_eq_getElem hi
    obtain ⟨o, c1⟩ := hone_of hone i _ hfi
    have h1 := hg i _ hfi
    rw [o, c1, e] at h1
    have hci : i < cs.toList.length := by omega
    have hd : ((Value.agg cs).cells.toList.drop i).take 1 = [c] := by
      show (cs.toList.drop i).take 1 = [c]
      rw [List.drop_eq_getElem_cons hci]
      have : cs.toList[i] = c := by rw [List.getElem?_eq_getElem hci] at b; exact Option.some.inj b
      simp [this]
    rw [hd] at h1
    have hki : fkOf P fs[i].type = some k := by
      have := congrArg (·[i]?) hk
      simp only [List.getElem?_map, Array.getElem?_toList, hfi, a, Option.map_some] at this
      exact Option.some.inj this
    obtain ⟨f, f1, f2, f3, f4⟩ := trod_plain hki h1
    exact ⟨f, f1, (List.cons.inj f2).1, f3, f4⟩)
  simp only [Prod.mk.injEq] at hx
  refine ⟨xs, ?_, ?_, ?_, g4, g1⟩
  · congr 1; rw [← g2]
  · rw [hx.1, g3]; simp [List.map_map, Function.comp_def]
  · rw [hx.2, g3]; simp [List.flatMap_map]

theorem mapM_some' {α β : Type} (g : α → Option β) : ∀ (l : List α) (ys : List β), l.length = ys.length → (∀ (i : Nat) a, l[i]? = some a → g a = ys[i]?) → l.mapM g = some ys
  | [], [], _, _ => rfl
  | [], _ :: _, h, _ => by simp at h
  | _ :: _, [], h, _ => by simp at h
  | a :: l, y :: ys, h, hg => by
    have h0 := hg 0 a rfl
    have ih := mapM_some' g l ys (by simpa using h) (fun i a e => by have := hg (i + 1) a (by simpa using e); simpa using this)
    simp only [List.getElem?_cons_zero] at h0
    simp [List.mapM_cons, h0, ih]

theorem shut_flat {t : TypeId} {fs : Array Field} {xs : List FV} (hs : P.underlying t = some (.struct fs)) (hone : oneCellFields P fs = true) (hC : P.cellsOf t = fs.size)
    (hk : fs.toList.map (fun f => fkOf P f.type) = (xs.map FV.kind).map some) (hok : ∀ x ∈ xs, x.ok) :
    DataW.Trod enc P w base spare held t (.agg (xs.map FV.val).toArray) (.agg (xs.map FV.dat)) [] := by
  have hkl : xs.length = fs.size := by have := congrArg List.length hk; simpa using this.symm
  refine ⟨1 + 1, ?_⟩
  show DataW.trod enc P w base spare held (1 + 1) t (xs.map FV.val).toArray.toList = _
  have hM : fs.toList.mapM (fun f => DataW.trod enc P w base spare held 1 f.type ((((xs.map FV.val).toArray.toList).drop f.offset).take (P.cellsOf f.type))) = some (xs.map fun f => (f.dat, [])) := by
    refine mapM_some' _ fs.toList (xs.map fun f => (f.dat, [])) (by simp [hkl]) ?_
    intro i f hf
    have hf' : fs[i]? = some f := by simpa using hf
    obtain ⟨o, c1⟩ := hone_of hone i _ hf'
    have hi : i < xs.length := by rw [hkl]; exact (Array.getElem?_eq_some_iff.1 hf').1
    have hki : fkOf P f.type = some xs[i].kind := by
      have := congrArg (·[i]?) hk
      simp only [List.getElem?_map, hf, List.getElem?_eq_getElem hi, Option.map_some] at this
      exact Option.some.inj this
    rw [o, c1]
    have hd : ((xs.map FV.val).toArray.toList.drop i).take 1 = [xs[i].val] := by
      show ((xs.map FV.val).drop i).take 1 = _
      rw [List.drop_eq_getElem_cons (by simpa using hi)]
      simp
    rw [hd, trod_plain_mk hki (hok _ (List.getElem_mem hi))]
    simp [List.getElem?_eq_getElem hi]
  rw [trod_struct_mk hs (by simp [hC, hkl]) hM]
  simp [List.map_map, Function.comp_def, List.flatMap_map]
end

/-- Three, five numbers. -/
theorem three_ints {xs : List FV} (h : xs.map FV.kind = [.int .i64, .int .i64, .int .i64]) : ∃ a b c : Int, xs = [.int .i64 a, .int .i64 b, .int .i64 c] := by
  match xs, h with
  | [.int _ a, .int _ b, .int _ c], h => simp [FV.kind] at h; obtain ⟨rfl, rfl, rfl⟩ := h; exact ⟨a, b, c, rfl⟩
theorem five_ints {xs : List FV} (h : xs.map FV.kind = [.int .i64, .int .i64, .int .i64, .int .i64, .int .i64]) : ∃ a b c d e : Int, xs = [.int .i64 a, .int .i64 b, .int .i64 c, .int .i64 d, .int .i64 e] := by
  match xs, h with
  | [.int _ a, .int _ b, .int _ c, .int _ d, .int _ e], h => simp [FV.kind] at h; obtain ⟨rfl, rfl, rfl, rfl, rfl⟩ := h; exact ⟨a, b, c, d, e, rfl⟩
theorem kinds_siibbb {xs : List FV} (h : xs.map FV.kind = [.str, .int .i64, .int .i64, .bool, .bool, .bool]) : ∃ (s : ByteArray) (r c : Int) (a b d : Bool), xs = [.str s, .int .i64 r, .int .i64 c, .bool a, .bool b, .bool d] := by
  match xs, h with
  | [.str s, .int _ r, .int _ c, .bool a, .bool b, .bool d], h => simp [FV.kind] at h; obtain ⟨rfl, rfl⟩ := h; exact ⟨s, r, c, a, b, d, rfl⟩

end Go.Proofs.YtphhepnldndbhaaGreatDoor.Sx

/- Layer 14: raw places and sizes that are handed in: rows, out of what is read of them. -/
set_option linter.unusedVariables false
set_option linter.unusedSimpArgs false
namespace Go.Proofs.YtphhepnldndbhaaGreatDoor
open Go Sx Go.ChangeShapes Go.WideShapes Go.ChangeAt Go.RowKit Go.Joins Go.Deep
theorem kids : Kids Tryz.prog (· < Tryz.prog.types.size) := kids_rows (by kernel_rfl) (by kernel_rfl)
theorem full : ∀ t e, t < Tryz.prog.types.size → Tryz.prog.underlying t = some (.slice e) → 0 < Tryz.prog.cellsOf e := slices_full_of Tryz.prog (by kernel_rfl)
theorem inI_of {n : Int} (h : (Lit.int .i64 n).wf) : inI n = true := by
  have := wf_i64 h
  exact inI_iff.2 ⟨by omega, by omega⟩
/-- A row of whole numbers, as it stands in a world. -/
def cI (w : World) (b off : Nat) : Int := match w.cell? ⟨b, off, none⟩ with | some (.int _ n) => n | _ => 0
def rowI3 (w : World) (b off : Nat) : List CV := [.mk (cI w b off) [] false [], .mk (cI w b (off + 1)) [] false [], .mk (cI w b (off + 2)) [] false []]
def rowI2 (w : World) (b off : Nat) : List CV := [.mk (cI w b off) [] false [], .mk (cI w b (off + 1)) [] false []]
/-- A number stands there. -/
def IntAt (w : World) (b off : Nat) : Prop := ∃ k : Int, w.cell? ⟨b, off, none⟩ = some (.int .i64 k) ∧ inI k = true
theorem IntAt.cell {w : World} {b off : Nat} (h : IntAt w b off) : w.cell? ⟨b, off, none⟩ = some (.int .i64 (cI w b off)) := by
  obtain ⟨k, h, _⟩ := h
  unfold cI; rw [h]
theorem IntAt.inI {w : World} {b off : Nat} (h : IntAt w b off) : inI (cI w b off) = true := by
  obtain ⟨k, h, hk⟩ := h
  unfold cI; rw [h]; exact hk
theorem shape_lt {w : World} {b : Nat} {x : TypeId × Nat} (h : w.shape? b = some x) : b < w.heap.size := by
  unfold World.shape? at h
  split at h
  · rename_i he; exact (Array.getElem?_eq_some_iff.1 he).1
  · cases h
section
variable {H : Type} {enc : TypeId × Value → H}
set_option maxRecDepth 20000 in
theorem open_at {w : World} {base : Nat} {spare : Nat → Bool} {held : Bool} {n : Nat} {cs : List Value} {x : DataW H × List MemPlace} {b off : Nat} (hc : w.cells? base ⟨b, off, none⟩ 3 = some cs) (h : DataW.trod enc Tryz.prog w base spare held n 25 cs = some x) : IntAt w b off ∧ IntAt w b (off + 1) ∧ IntAt w b (off + 2) := by
  obtain ⟨xs, m, rfl, _, hl, hx, hf⟩ := DataW.trod_struct Tryz.underlying25 h
  obtain ⟨_, hlen, hcell⟩ := World.cells?_some hc
  match cs, hlen with
  | [a0, a1, a2], _ =>
    have e0 := hf 0 _ rfl
    have e1 := hf 1 _ rfl
    have e2 := hf 2 _ rfl
    have k0 := hcell 0 (by omega)
    have k1 := hcell 1 (by omega)
    have k2 := hcell 2 (by omega)
    rw [add_plain] at k0 k1 k2
    have c3' : Tryz.prog.cellsOf 3 = 1 := by kernel_rfl
    have hx : xs.length = 3 := hx
    rw [List.getElem?_eq_getElem (by omega)] at e0 e1 e2
    obtain ⟨k, q0, _, wk⟩ := DataW.trod_int (k := .i64) Tryz.underlying3 e0
    obtain ⟨k', q1, _, wk'⟩ := DataW.trod_int (k := .i64) Tryz.underlying3 e1
    obtain ⟨k'', q2, _, wk''⟩ := DataW.trod_int (k := .i64) Tryz.underlying3 e2
    have q0 : List.take (Tryz.prog.cellsOf 3) (List.drop 0 [a0, a1, a2]) = [.int .i64 k] := q0
    have q1 : List.take (Tryz.prog.cellsOf 3) (List.drop 1 [a0, a1, a2]) = [.int .i64 k'] := q1
    have q2 : List.take (Tryz.prog.cellsOf 3) (List.drop 2 [a0, a1, a2]) = [.int .i64 k''] := q2
    rw [c3'] at q0 q1 q2
    cases q0
    cases q1
    cases q2
    exact ⟨⟨k, k0, inI_of wk⟩, ⟨k', k1, inI_of wk'⟩, ⟨k'', k2, inI_of wk''⟩⟩
set_option maxRecDepth 20000 in
theorem open_size {w : World} {base : Nat} {spare : Nat → Bool} {held : Bool} {n : Nat} {cs : List Value} {x : DataW H × List MemPlace} {b off : Nat} (hc : w.cells? base ⟨b, off, none⟩ 2 = some cs) (h : DataW.trod enc Tryz.prog w base spare held n 70 cs = some x) : IntAt w b off ∧ IntAt w b (off + 1) := by
  obtain ⟨d, p⟩ := x
  obtain ⟨xs, m, _, _, hl, hx, hf⟩ := DataW.trod_array Tryz.underlying70 h
  obtain ⟨_, hlen, hcell⟩ := World.cells?_some hc
  match cs, hlen with
  | [a0, a1], _ =>
    have k0 := hcell 0 (by omega)
    have k1 := hcell 1 (by omega)
    rw [add_plain] at k0 k1
    have c3' : Tryz.prog.cellsOf 3 = 1 := by kernel_rfl
    have one : ∀ (i : Nat) (hi : i < 2) (a : Value), List.take (Tryz.prog.cellsOf 3) (List.drop (i * Tryz.prog.cellsOf 3) [a0, a1]) = [a] → ∃ x : Int, a = .int .i64 x ∧ inI x = true := fun i hi a ha => by
      have e := hf i hi
      rw [List.getElem?_eq_getElem (by omega)] at e
      obtain ⟨x, q, _, wx⟩ := DataW.trod_int (k := .i64) Tryz.underlying3 e
      have q : List.take (Tryz.prog.cellsOf 3) (List.drop (i * Tryz.prog.cellsOf 3) [a0, a1]) = [.int .i64 x] := q
      rw [ha] at q
      exact ⟨x, by simpa using q, inI_of wx⟩
    obtain ⟨x, rfl, wx⟩ := one 0 (by omega) a0 (by rw [c3']; rfl)
    obtain ⟨y, rfl, wy⟩ := one 1 (by omega) a1 (by rw [c3']; rfl)
    exact ⟨⟨x, k0, wx⟩, ⟨y, k1, wy⟩⟩
set_option maxRecDepth 20000 in
/-- The raw places that are handed in. -/
theorem open_ats {w : World} {base b0 : Nat} {spare : Nat → Bool} {held : Bool} {v : Value} {d : DataW H} {p : List MemPlace} (hv : Value.okWide Tryz.prog w .any b0 22 v) (h : DataW.Trod enc Tryz.prog w base spare held 22 v d p) :
    ∃ (rows : List (List CV)) (l b : Nat) (c : Cap), (∀ (E : Env) (nm : Nat), E nm = some (b, c) → den E (.dsl nm l) = some v) ∧ okA l rows ∧ (∀ E, ObjR E w b c (.flatR false shA rows)) ∧ ∀ k, ¬ under c k := by
  obtain ⟨n, h⟩ := h
  obtain ⟨a, len, cap, rfl⟩ := okWide_slice Tryz.underlying22 hv
  rcases open_slice Tryz.underlying22 h with ⟨hc, _⟩ | ⟨a', len', cap', m, n', D, Pl, hc, hb, hl, hm, hmm, _, hx⟩
  · simp [Value.cells] at hc
    obtain ⟨rfl, rfl, rfl⟩ := hc
    exact ⟨[], 0, 0, { n := 0, z := true }, fun E nm hE => by simp [den, hE], ⟨by simp, by omega, fun i hi => by omega⟩, fun E => ⟨fun _ => rfl, fun e => by cases e⟩, Cap.bare_of fun _ _ => rfl⟩
  · simp [Value.cells] at hc
    obtain ⟨rfl, rfl, rfl⟩ := hc
    have hok : Cell.ok Tryz.prog w .any b0 22 (.slice (some a') len cap) := by
      simpa only [Value.okWide, Cell.okWide, Tryz.underlying22] using hv
    simp only [Cell.ok, Tryz.underlying22] at hok
    obtain ⟨_, _, _, hsp, row, cells, hsh, _⟩ := hok
    obtain ⟨b, off, sp⟩ := a'
    have hsp : sp = none := hsp
    subst hsp
    have c31 : Tryz.prog.cellsOf 25 = 3 := by kernel_rfl
    have st : ∀ i, i < len → IntAt w b (off + i * 3) ∧ IntAt w b (off + i * 3 + 1) ∧ IntAt w b (off + i * 3 + 2) := fun i hi => by
      obtain ⟨cs', h1, h2⟩ := hx i (by rw [hmm]; split <;> omega)
      rw [c31, add_plain] at h1
      exact open_at h1 h2
    have hrow : ∀ i, i < len → Sx.rowAt ((List.range len).map fun i => rowI3 w b (off + i * 3)) i = rowI3 w b (off + i * 3) := fun i hi => by
      unfold Sx.rowAt
      rw [List.getD_eq_getElem?_getD, List.getElem?_map, List.getElem?_range hi]; rfl
    have hml : maxLen = 9223372036854775807 := by kernel_rfl
    refine ⟨(List.range len).map fun i => rowI3 w b (off + i * 3), len, b, { n := cap, o := off }, fun E nm hE => ?_, ⟨by simp, by omega, fun i hi => ?_⟩, fun E => ⟨fun e => by (cases e), fun _ => ⟨shape_lt hsh, fun i j v hi hj hv => ?_⟩⟩, Cap.bare_of fun _ _ => rfl⟩
    · simp [den, hE, hl]
    · rw [hrow i hi]
      obtain ⟨s0, s1, s2⟩ := st i hi
      exact ⟨s0.inI, s1.inI, s2.inI⟩
    · have hi : i < len := by simpa using hi
      rw [hrow i hi] at hv
      obtain ⟨s0, s1, s2⟩ := st i hi
      rw [show off + (i * shA.length + j) = off + i * 3 + j by show off + (i * 3 + j) = _; omega]
      have hj : j < 3 := hj
      match j, hj with
      | 0, _ => rw [← show some (Value.int .i64 (cI w b (off + i * 3))) = some v from hv]; exact s0.cell
      | 1, _ => rw [← show some (Value.int .i64 (cI w b (off + i * 3 + 1))) = some v from hv]; exact s1.cell
      | 2, _ => rw [← show some (Value.int .i64 (cI w b (off + i * 3 + 2))) = some v from hv]; exact s2.cell
set_option maxRecDepth 20000 in
/-- The raw sizes that are handed in. -/
theorem open_sizes {w : World} {base b0 : Nat} {spare : Nat → Bool} {held : Bool} {v : Value} {d : DataW H} {p : List MemPlace} (hv : Value.okWide Tryz.prog w .any b0 23 v) (h : DataW.Trod enc Tryz.prog w base spare held 23 v d p) :
    ∃ (rows : List (List CV)) (l b : Nat) (c : Cap), (∀ (E : Env) (nm : Nat), E nm = some (b, c) → den E (.dsl nm l) = some v) ∧ okZ l rows ∧ (∀ E, ObjR E w b c (.flatR false shZ rows)) ∧ ∀ k, ¬ under c k := by
  obtain ⟨n, h⟩ := h
  obtain ⟨a, len, cap, rfl⟩ := okWide_slice Tryz.underlying23 hv
  rcases open_slice Tryz.underlying23 h with ⟨hc, _⟩ | ⟨a', len', cap', m, n', D, Pl, hc, hb, hl, hm, hmm, _, hx⟩
  · simp [Value.cells] at hc
    obtain ⟨rfl, rfl, rfl⟩ := hc
    exact ⟨[], 0, 0, { n := 0, z := true }, fun E nm hE => by simp [den, hE], ⟨by simp, by omega, fun i hi => by omega⟩, fun E => ⟨fun _ => rfl, fun e => by cases e⟩, Cap.bare_of fun _ _ => rfl⟩
  · simp [Value.cells] at hc
    obtain ⟨rfl, rfl, rfl⟩ := hc
    have hok : Cell.ok Tryz.prog w .any b0 23 (.slice (some a') len cap) := by
      simpa only [Value.okWide, Cell.okWide, Tryz.underlying23] using hv
    simp only [Cell.ok, Tryz.underlying23] at hok
    obtain ⟨_, _, _, hsp, row, cells, hsh, _⟩ := hok
    obtain ⟨b, off, sp⟩ := a'
    have hsp : sp = none := hsp
    subst hsp
    have c31 : Tryz.prog.cellsOf 70 = 2 := by kernel_rfl
    have st : ∀ i, i < len → IntAt w b (off + i * 2) ∧ IntAt w b (off + i * 2 + 1) := fun i hi => by
      obtain ⟨cs', h1, h2⟩ := hx i (by rw [hmm]; split <;> omega)
      rw [c31, add_plain] at h1
      exact open_size h1 h2
    have hrow : ∀ i, i < len → Sx.rowAt ((List.range len).map fun i => rowI2 w b (off + i * 2)) i = rowI2 w b (off + i * 2) := fun i hi => by
      unfold Sx.rowAt
      rw [List.getD_eq_getElem?_getD, List.getElem?_map, List.getElem?_range hi]; rfl
    have hml : maxLen = 9223372036854775807 := by kernel_rfl
    refine ⟨(List.range len).map fun i => rowI2 w b (off + i * 2), len, b, { n := cap, o := off }, fun E nm hE => ?_, ⟨by simp, by omega, fun i hi => ?_⟩, fun E => ⟨fun e => by (cases e), fun _ => ⟨shape_lt hsh, fun i j v hi hj hv => ?_⟩⟩, Cap.bare_of fun _ _ => rfl⟩
    · simp [den, hE, hl]
    · rw [hrow i hi]
      obtain ⟨s0, s1⟩ := st i hi
      exact ⟨s0.inI, s1.inI⟩
    · have hi : i < len := by simpa using hi
      rw [hrow i hi] at hv
      obtain ⟨s0, s1⟩ := st i hi
      rw [show off + (i * shZ.length + j) = off + i * 2 + j by show off + (i * 2 + j) = _; omega]
      have hj : j < 2 := hj
      match j, hj with
      | 0, _ => rw [← show some (Value.int .i64 (cI w b (off + i * 2))) = some v from hv]; exact s0.cell
      | 1, _ => rw [← show some (Value.int .i64 (cI w b (off + i * 2 + 1))) = some v from hv]; exact s1.cell
end
end Go.Proofs.YtphhepnldndbhaaGreatDoor

/- The plain wrap with tables laid AND the world's shape: both at once. -/
set_option linter.unusedVariables false
namespace Go.Proofs.YtphhepnldndbhaaGreatDoor
open Go
theorem returnsInHanded_both {H : Type} {enc : TypeId × Value → H} {a : Assume} {C : Checked} {os : Os} {f : FuncId} {fn : Func} {s : ChangeSpec} {conds : List PathCond} {apart fresh handsOn again : Bool} {X : World → Array Value → Prop}
    (hX : ∀ (w w' : World) (args : Array Value), w.heap = w'.heap → X w args → X w' args)
    (own : ownKnob C.prog.godebug = none) (started : os.Started) (noInit : C.prog.inits.idxOf? f = none) (hfn : C.prog.funcs[f]? = some fn)
    (witness : ∃ (w : World) (tape : Tape) (i : Input), w.os = os ∧ (w.forCall tape i).Shaped C.prog ∧ i.vars = [] ∧ Input.okWide C.prog (w.forCall tape i) .any w.heap.size f i ∧
      ((s.pre enc C.prog fn conds apart (w.forCall tape i).memory i.args ∧ X (w.forCall tape i).memory i.args) ∧ sizedMet enc C.prog fn (OpenSpec.ofChange s) apart (w.forCall tape i).memory i.args) ∧ a.holds C.prog (lone (Frame.enter C.prog f i.args .normal) [] (w.forCall tape i)))
    (contract : ∀ (W : World) (base : Nat) (args : Array Value) (ds gs : List (DataW H)) (before : List MemPlace),
      (∀ (j : Nat) t v, fn.params[j]? = some t → args[j]? = some v → Value.okWide C.prog W .any base t v) →
      DataW.Whole enc C.prog fn.params.toList s.vars apart W args.toList ds gs before → X W args → W.ShapedOpen C.prog →
      Calls C.prog f args W fun e W' => ∃ v, e = .returned v ∧ s.post enc C.prog fn apart fresh handsOn again W args v W') :
    ReturnsInHanded a C os f .any (fun w args => (s.pre enc C.prog fn conds apart w args ∧ X w args) ∧ sizedMet enc C.prog fn (OpenSpec.ofChange s) apart w args) (s.post enc C.prog fn apart fresh handsOn again) := by
  refine returnsInHanded_of_calls own started noInit witness ?_
  intro w tape i _ hsh _ hok hpre hholds
  obtain ⟨_, _, _, fn', hfn', _, _, _, _, hval⟩ := hok
  obtain rfl := Option.some.inj (hfn'.symm.trans hfn)
  obtain ⟨⟨⟨ds, gs, before, hw, hc⟩, hx⟩, hz⟩ := hpre
  refine (contract (w.forCall tape i) w.heap.size i.args ds gs before hval (DataW.Whole.of_heap (w' := w.forCall tape i) (by rfl) hw) (hX _ _ _ (by rfl) hx) hsh).mono fun e W' ⟨v, he, hp⟩ => ?_
  subst he
  exact ChangeSpec.post_blind hp
end Go.Proofs.YtphhepnldndbhaaGreatDoor
