import Derived.Test.YtphhepnldndbhaaGreatDoorSxY
import Derived.Test.YtphhepnldndbhaaGreatDoorGr07
import Derived.Test.YtphhepnldndbhaaGreatDoorSxYr
import Derived.Test.YtphhepnldndbhaaGreatDoorGr06
import Derived.Test.YtphhepnldndbhaaGreatDoorGr05
set_option linter.unusedVariables false
set_option linter.unusedSimpArgs false
namespace Go.Proofs.YtphhepnldndbhaaGreatDoor.Sx
open Go Go.ChangeShapes Go.WideShapes Go.ChangeAt Go.RowKit Go.Joins Go.Deep
inductive FK where
  | int (k : IntKind)
  | bool
  | str
inductive FV where
  | int (k : IntKind) (n : Int)
  | bool (b : Bool)
  | str (s : ByteArray)
def FV.kind : FV → FK
  | .int k _ => .int k
  | .bool _ => .bool
  | .str _ => .str
def FV.val : FV → Value
  | .int k n => .int k n
  | .bool b => .bool b
  | .str s => .string s
def FV.dat {H : Type} : FV → DataW H
  | .int k n => .lit (.int k n)
  | .bool b => .lit (.bool b)
  | .str s => .lit (.string s.data.toList)
def FV.ok : FV → Prop
  | .int k n => (Lit.int k n).wf = true
  | .bool _ => True
  | .str s => s.size ≤ maxLen
def fkOf (P : Program) (t : TypeId) : Option FK :=
  match P.underlying t with
  | some (.int k) => some (.int k)
  | some .bool => some .bool
  | some .string => some .str
  | _ => none
section
variable {H : Type} {enc : TypeId × Value → H} {P : Program} {w : World} {base : Nat} {spare : Nat → Bool} {held : Bool}
theorem trod_plain {t : TypeId} {k : FK} {n : Nat} {cs : List Value} {x : DataW H × List MemPlace} (hk : fkOf P t = some k) (h : DataW.trod enc P w base spare held n t cs = some x) :
    ∃ f : FV, f.kind = k ∧ cs = [f.val] ∧ x = (f.dat, []) ∧ f.ok := by
  unfold fkOf at hk
  split at hk
  · rename_i k' hu
    cases hk
    obtain ⟨a, rfl, rfl, wa⟩ := DataW.trod_int hu h
    exact ⟨.int k' a, rfl, rfl, rfl, wa⟩
  · rename_i hu
    cases hk
    obtain ⟨b, rfl, rfl⟩ := DataW.trod_bool hu h
    exact ⟨.bool b, rfl, rfl, rfl, trivial⟩
  · rename_i hu
    cases hk
    obtain ⟨s, rfl, rfl, hs⟩ := DataW.trod_string hu h
    exact ⟨.str s, rfl, rfl, rfl, hs⟩
  · cases hk
theorem flat_aux : ∀ (ks : List FK) (cs : List Value) (ys : List (DataW H × List MemPlace)), cs.length = ks.length → ys.length = ks.length →
    (∀ (i : Nat) k c y, ks[i]? = some k → cs[i]? = some c → ys[i]? = some y → ∃ f : FV, f.kind = k ∧ c = f.val ∧ y = (f.dat, []) ∧ f.ok) →
    ∃ xs : List FV, xs.map FV.kind = ks ∧ cs = xs.map FV.val ∧ ys = xs.map (fun f => (f.dat, [])) ∧ ∀ x ∈ xs, x.ok
  | [], [], [], _, _, _ => ⟨[], rfl, rfl, rfl, by simp⟩
  | [], _ :: _, _, h, _, _ => by simp at h
  | [], [], _ :: _, _, h, _ => by simp at h
  | _ :: _, [], _, h, _, _ => by simp at h
  | _ :: _, _ :: _, [], _, h, _ => by simp at h
  | k :: ks, c :: cs, y :: ys, h1, h2, h => by
    obtain ⟨f, e1, e2, e3, e4⟩ := h 0 k c y rfl rfl rfl
    obtain ⟨xs, g1, g2, g3, g4⟩ := flat_aux ks cs ys (by simpa using h1) (by simpa using h2) (fun i k c y a b d => h (i + 1) k c y (by simpa using a) (by simpa using b) (by simpa using d))
    refine ⟨f :: xs, by simp [e1, g1], by simp [e2, g2], by simp [e3, g3], ?_⟩
    intro x hx
    rcases List.mem_cons.1 hx with rfl | hx
    · exact e4
    · exact g4 x hx
theorem open_flat {b0 : Nat} {r : Reach} {t : TypeId} {fs : Array Field} {ks : List FK} {v : Value} {d : DataW H} {p : List MemPlace} (hs : P.underlying t = some (.struct fs)) (hone : oneCellFields P fs = true) (hC : P.cellsOf t = fs.size)
    (hk : fs.toList.map (fun f => fkOf P f.type) = ks.map some) (hv : Value.okWide P w r b0 t v) (h : DataW.Trod enc P w base spare held t v d p) :
    ∃ xs : List FV, v = .agg (xs.map FV.val).toArray ∧ d = .agg (xs.map FV.dat) ∧ p = [] ∧ (∀ x ∈ xs, x.ok) ∧ xs.map FV.kind = ks := by
  obtain ⟨cs, rfl, hsz⟩ := okWide_struct hs hv
  obtain ⟨fuel, hf⟩ := h
  obtain ⟨ys, n, _, hx, _, hlen, hg⟩ := DataW.trod_struct hs hf
  have hkl : ks.length = fs.size := by have := congrArg List.length hk; simpa using this.symm
  have hcs : cs.toList.length = fs.size := by simpa [hC] using hsz
  obtain ⟨xs, g1, g2, g3, g4⟩ := flat_aux ks cs.toList ys (by omega) (by omega) (fun i k c y a b e => by
    have hi : i < fs.size := by rw [← hkl]; exact (List.getElem?_eq_some_iff.1 a).1
    have hfi : fs[i]? = some fs[i] := Array.getElem?_eq_getElem hi
    obtain ⟨o, c1⟩ := hone_of hone i _ hfi
    have h1 := hg i _ hfi
    rw [o, c1, e] at h1
    have hci : i < cs.toList.length := by omega
    have hd : ((Value.agg cs).cells.toList.drop i).take 1 = [c] := by
      show (cs.toList.drop i).take 1 = [c]
      rw [List.drop_eq_getElem_cons hci]
      have : cs.toList[i] = c := by rw [List.getElem?_eq_getElem hci] at b; exact Option.some.inj b
      simp [this]
    rw [hd] at h1
    have hki : fkOf P fs[i].type = some k := by
      have := congrArg (·[i]?) hk
      simp only [List.getElem?_map, Array.getElem?_toList, hfi, a, Option.map_some] at this
      exact Option.some.inj this
    obtain ⟨f, f1, f2, f3, f4⟩ := trod_plain hki h1
    exact ⟨f, f1, (List.cons.inj f2).1, f3, f4⟩)
  simp only [Prod.mk.injEq] at hx
  refine ⟨xs, ?_, ?_, ?_, g4, g1⟩
  · congr 1; rw [← g2]
  · rw [hx.1, g3]; simp [List.map_map, Function.comp_def]
  · rw [hx.2, g3]; simp [List.flatMap_map]
end
theorem three_ints {xs : List FV} (h : xs.map FV.kind = [.int .i64, .int .i64, .int .i64]) : ∃ a b c : Int, xs = [.int .i64 a, .int .i64 b, .int .i64 c] := by
  match xs, h with
  | [.int _ a, .int _ b, .int _ c], h => simp [FV.kind] at h; obtain ⟨rfl, rfl, rfl⟩ := h; exact ⟨a, b, c, rfl⟩
end Go.Proofs.YtphhepnldndbhaaGreatDoor.Sx
namespace Go.Proofs.YtphhepnldndbhaaGreatDoor
open Go Sx Go.ChangeShapes Go.WideShapes Go.ChangeAt Go.RowKit Go.Joins Go.Deep
theorem kids : Kids Tryz.prog (· < Tryz.prog.types.size) := kids_rows (by kernel_rfl) (by kernel_rfl)
theorem full : ∀ t e, t < Tryz.prog.types.size → Tryz.prog.underlying t = some (.slice e) → 0 < Tryz.prog.cellsOf e := slices_full_of Tryz.prog (by kernel_rfl)
theorem inI_of {n : Int} (h : (Lit.int .i64 n).wf) : inI n = true := by
  have := wf_i64 h
  exact inI_iff.2 ⟨by omega, by omega⟩
def cI (w : World) (b off : Nat) : Int := match w.cell? ⟨b, off, none⟩ with | some (.int _ n) => n | _ => 0
def rowI3 (w : World) (b off : Nat) : List CV := [.mk (cI w b off) [] false [], .mk (cI w b (off + 1)) [] false [], .mk (cI w b (off + 2)) [] false []]
def rowI2 (w : World) (b off : Nat) : List CV := [.mk (cI w b off) [] false [], .mk (cI w b (off + 1)) [] false []]
def IntAt (w : World) (b off : Nat) : Prop := ∃ k : Int, w.cell? ⟨b, off, none⟩ = some (.int .i64 k) ∧ inI k = true
theorem IntAt.cell {w : World} {b off : Nat} (h : IntAt w b off) : w.cell? ⟨b, off, none⟩ = some (.int .i64 (cI w b off)) := by
  obtain ⟨k, h, _⟩ := h
  unfold cI; rw [h]
theorem IntAt.inI {w : World} {b off : Nat} (h : IntAt w b off) : inI (cI w b off) = true := by
  obtain ⟨k, h, hk⟩ := h
  unfold cI; rw [h]; exact hk
theorem shape_lt {w : World} {b : Nat} {x : TypeId × Nat} (h : w.shape? b = some x) : b < w.heap.size := by
  unfold World.shape? at h
  split at h
  · rename_i he; exact (Array.getElem?_eq_some_iff.1 he).1
  · cases h
section
variable {H : Type} {enc : TypeId × Value → H}
set_option maxRecDepth 20000 in
theorem open_at {w : World} {base : Nat} {spare : Nat → Bool} {held : Bool} {n : Nat} {cs : List Value} {x : DataW H × List MemPlace} {b off : Nat} (hc : w.cells? base ⟨b, off, none⟩ 3 = some cs) (h : DataW.trod enc Tryz.prog w base spare held n 25 cs = some x) : IntAt w b off ∧ IntAt w b (off + 1) ∧ IntAt w b (off + 2) := by
  obtain ⟨xs, m, rfl, _, hl, hx, hf⟩ := DataW.trod_struct Tryz.underlying25 h
  obtain ⟨_, hlen, hcell⟩ := World.cells?_some hc
  match cs, hlen with
  | [a0, a1, a2], _ =>
    have e0 := hf 0 _ rfl
    have e1 := hf 1 _ rfl
    have e2 := hf 2 _ rfl
    have k0 := hcell 0 (by omega)
    have k1 := hcell 1 (by omega)
    have k2 := hcell 2 (by omega)
    rw [add_plain] at k0 k1 k2
    have c3' : Tryz.prog.cellsOf 3 = 1 := by kernel_rfl
    have hx : xs.length = 3 := hx
    rw [List.getElem?_eq_getElem (by omega)] at e0 e1 e2
    obtain ⟨k, q0, _, wk⟩ := DataW.trod_int (k := .i64) Tryz.underlying3 e0
    obtain ⟨k', q1, _, wk'⟩ := DataW.trod_int (k := .i64) Tryz.underlying3 e1
    obtain ⟨k'', q2, _, wk''⟩ := DataW.trod_int (k := .i64) Tryz.underlying3 e2
    have q0 : List.take (Tryz.prog.cellsOf 3) (List.drop 0 [a0, a1, a2]) = [.int .i64 k] := q0
    have q1 : List.take (Tryz.prog.cellsOf 3) (List.drop 1 [a0, a1, a2]) = [.int .i64 k'] := q1
    have q2 : List.take (Tryz.prog.cellsOf 3) (List.drop 2 [a0, a1, a2]) = [.int .i64 k''] := q2
    rw [c3'] at q0 q1 q2
    cases q0
    cases q1
    cases q2
    exact ⟨⟨k, k0, inI_of wk⟩, ⟨k', k1, inI_of wk'⟩, ⟨k'', k2, inI_of wk''⟩⟩
set_option maxRecDepth 20000 in
theorem open_size {w : World} {base : Nat} {spare : Nat → Bool} {held : Bool} {n : Nat} {cs : List Value} {x : DataW H × List MemPlace} {b off : Nat} (hc : w.cells? base ⟨b, off, none⟩ 2 = some cs) (h : DataW.trod enc Tryz.prog w base spare held n 70 cs = some x) : IntAt w b off ∧ IntAt w b (off + 1) := by
  obtain ⟨d, p⟩ := x
  obtain ⟨xs, m, _, _, hl, hx, hf⟩ := DataW.trod_array Tryz.underlying70 h
  obtain ⟨_, hlen, hcell⟩ := World.cells?_some hc
  match cs, hlen with
  | [a0, a1], _ =>
    have k0 := hcell 0 (by omega)
    have k1 := hcell 1 (by omega)
    rw [add_plain] at k0 k1
    have c3' : Tryz.prog.cellsOf 3 = 1 := by kernel_rfl
    have one : ∀ (i : Nat) (hi : i < 2) (a : Value), List.take (Tryz.prog.cellsOf 3) (List.drop (i * Tryz.prog.cellsOf 3) [a0, a1]) = [a] → ∃ x : Int, a = .int .i64 x ∧ inI x = true := fun i hi a ha => by
      have e := hf i hi
      rw [List.getElem?_eq_getElem (by omega)] at e
      obtain ⟨x, q, _, wx⟩ := DataW.trod_int (k := .i64) Tryz.underlying3 e
      have q : List.take (Tryz.prog.cellsOf 3) (List.drop (i * Tryz.prog.cellsOf 3) [a0, a1]) = [.int .i64 x] := q
      rw [ha] at q
      exact ⟨x, by simpa using q, inI_of wx⟩
    obtain ⟨x, rfl, wx⟩ := one 0 (by omega) a0 (by rw [c3']; rfl)
    obtain ⟨y, rfl, wy⟩ := one 1 (by omega) a1 (by rw [c3']; rfl)
    exact ⟨⟨x, k0, wx⟩, ⟨y, k1, wy⟩⟩
set_option maxRecDepth 20000 in
theorem open_ats {w : World} {base b0 : Nat} {spare : Nat → Bool} {held : Bool} {v : Value} {d : DataW H} {p : List MemPlace} (hv : Value.okWide Tryz.prog w .any b0 22 v) (h : DataW.Trod enc Tryz.prog w base spare held 22 v d p) :
    ∃ (rows : List (List CV)) (l b : Nat) (c : Cap), (∀ (E : Env) (nm : Nat), E nm = some (b, c) → den E (.dsl nm l) = some v) ∧ okA l rows ∧ (∀ E, ObjR E w b c (.flatR false shA rows)) ∧ ∀ k, ¬ under c k := by
  obtain ⟨n, h⟩ := h
  obtain ⟨a, len, cap, rfl⟩ := okWide_slice Tryz.underlying22 hv
  rcases open_slice Tryz.underlying22 h with ⟨hc, _⟩ | ⟨a', len', cap', m, n', D, Pl, hc, hb, hl, hm, hmm, _, hx⟩
  · simp [Value.cells] at hc
    obtain ⟨rfl, rfl, rfl⟩ := hc
    exact ⟨[], 0, 0, { n := 0, z := true }, fun E nm hE => by simp [den, hE], ⟨by simp, by omega, fun i hi => by omega⟩, fun E => ⟨fun _ => rfl, fun e => by cases e⟩, Cap.bare_of fun _ _ => rfl⟩
  · simp [Value.cells] at hc
    obtain ⟨rfl, rfl, rfl⟩ := hc
    have hok : Cell.ok Tryz.prog w .any b0 22 (.slice (some a') len cap) := by
      simpa only [Value.okWide, Cell.okWide, Tryz.underlying22] using hv
    simp only [Cell.ok, Tryz.underlying22] at hok
    obtain ⟨_, _, _, hsp, row, cells, hsh, _⟩ := hok
    obtain ⟨b, off, sp⟩ := a'
    have hsp : sp = none := hsp
    subst hsp
    have c31 : Tryz.prog.cellsOf 25 = 3 := by kernel_rfl
    have st : ∀ i, i < len → IntAt w b (off + i * 3) ∧ IntAt w b (off + i * 3 + 1) ∧ IntAt w b (off + i * 3 + 2) := fun i hi => by
      obtain ⟨cs', h1, h2⟩ := hx i (by rw [hmm]; split <;> omega)
      rw [c31, add_plain] at h1
      exact open_at h1 h2
    have hrow : ∀ i, i < len → Sx.rowAt ((List.range len).map fun i => rowI3 w b (off + i * 3)) i = rowI3 w b (off + i * 3) := fun i hi => by
      unfold Sx.rowAt
      rw [List.getD_eq_getElem?_getD, List.getElem?_map, List.getElem?_range hi]; rfl
    have hml : maxLen = 9223372036854775807 := by kernel_rfl
    refine ⟨(List.range len).map fun i => rowI3 w b (off + i * 3), len, b, { n := cap, o := off }, fun E nm hE => ?_, ⟨by simp, by omega, fun i hi => ?_⟩, fun E => ⟨fun e => by (cases e), fun _ => ⟨shape_lt hsh, fun i j v hi hj hv => ?_⟩⟩, Cap.bare_of fun _ _ => rfl⟩
    · simp [den, hE, hl]
    · rw [hrow i hi]
      obtain ⟨s0, s1, s2⟩ := st i hi
      exact ⟨s0.inI, s1.inI, s2.inI⟩
    · have hi : i < len := by simpa using hi
      rw [hrow i hi] at hv
      obtain ⟨s0, s1, s2⟩ := st i hi
      rw [show off + (i * shA.length + j) = off + i * 3 + j by show off + (i * 3 + j) = _; omega]
      have hj : j < 3 := hj
      match j, hj with
      | 0, _ => rw [← show some (Value.int .i64 (cI w b (off + i * 3))) = some v from hv]; exact s0.cell
      | 1, _ => rw [← show some (Value.int .i64 (cI w b (off + i * 3 + 1))) = some v from hv]; exact s1.cell
      | 2, _ => rw [← show some (Value.int .i64 (cI w b (off + i * 3 + 2))) = some v from hv]; exact s2.cell
set_option maxRecDepth 20000 in
theorem open_sizes {w : World} {base b0 : Nat} {spare : Nat → Bool} {held : Bool} {v : Value} {d : DataW H} {p : List MemPlace} (hv : Value.okWide Tryz.prog w .any b0 23 v) (h : DataW.Trod enc Tryz.prog w base spare held 23 v d p) :
    ∃ (rows : List (List CV)) (l b : Nat) (c : Cap), (∀ (E : Env) (nm : Nat), E nm = some (b, c) → den E (.dsl nm l) = some v) ∧ okZ l rows ∧ (∀ E, ObjR E w b c (.flatR false shZ rows)) ∧ ∀ k, ¬ under c k := by
  obtain ⟨n, h⟩ := h
  obtain ⟨a, len, cap, rfl⟩ := okWide_slice Tryz.underlying23 hv
  rcases open_slice Tryz.underlying23 h with ⟨hc, _⟩ | ⟨a', len', cap', m, n', D, Pl, hc, hb, hl, hm, hmm, _, hx⟩
  · simp [Value.cells] at hc
    obtain ⟨rfl, rfl, rfl⟩ := hc
    exact ⟨[], 0, 0, { n := 0, z := true }, fun E nm hE => by simp [den, hE], ⟨by simp, by omega, fun i hi => by omega⟩, fun E => ⟨fun _ => rfl, fun e => by cases e⟩, Cap.bare_of fun _ _ => rfl⟩
  · simp [Value.cells] at hc
    obtain ⟨rfl, rfl, rfl⟩ := hc
    have hok : Cell.ok Tryz.prog w .any b0 23 (.slice (some a') len cap) := by
      simpa only [Value.okWide, Cell.okWide, Tryz.underlying23] using hv
    simp only [Cell.ok, Tryz.underlying23] at hok
    obtain ⟨_, _, _, hsp, row, cells, hsh, _⟩ := hok
    obtain ⟨b, off, sp⟩ := a'
    have hsp : sp = none := hsp
    subst hsp
    have c31 : Tryz.prog.cellsOf 70 = 2 := by kernel_rfl
    have st : ∀ i, i < len → IntAt w b (off + i * 2) ∧ IntAt w b (off + i * 2 + 1) := fun i hi => by
      obtain ⟨cs', h1, h2⟩ := hx i (by rw [hmm]; split <;> omega)
      rw [c31, add_plain] at h1
      exact open_size h1 h2
    have hrow : ∀ i, i < len → Sx.rowAt ((List.range len).map fun i => rowI2 w b (off + i * 2)) i = rowI2 w b (off + i * 2) := fun i hi => by
      unfold Sx.rowAt
      rw [List.getD_eq_getElem?_getD, List.getElem?_map, List.getElem?_range hi]; rfl
    have hml : maxLen = 9223372036854775807 := by kernel_rfl
    refine ⟨(List.range len).map fun i => rowI2 w b (off + i * 2), len, b, { n := cap, o := off }, fun E nm hE => ?_, ⟨by simp, by omega, fun i hi => ?_⟩, fun E => ⟨fun e => by (cases e), fun _ => ⟨shape_lt hsh, fun i j v hi hj hv => ?_⟩⟩, Cap.bare_of fun _ _ => rfl⟩
    · simp [den, hE, hl]
    · rw [hrow i hi]
      obtain ⟨s0, s1⟩ := st i hi
      exact ⟨s0.inI, s1.inI⟩
    · have hi : i < len := by simpa using hi
      rw [hrow i hi] at hv
      obtain ⟨s0, s1⟩ := st i hi
      rw [show off + (i * shZ.length + j) = off + i * 2 + j by show off + (i * 2 + j) = _; omega]
      have hj : j < 2 := hj
      match j, hj with
      | 0, _ => rw [← show some (Value.int .i64 (cI w b (off + i * 2))) = some v from hv]; exact s0.cell
      | 1, _ => rw [← show some (Value.int .i64 (cI w b (off + i * 2 + 1))) = some v from hv]; exact s1.cell
end
end Go.Proofs.YtphhepnldndbhaaGreatDoor
set_option linter.unusedSectionVars false
namespace Go.Proofs.YtphhepnldndbhaaGreatDoor
open Go Sx
theorem plN_mono (L : List (List CV)) (ks : List (List Int)) (j : Nat) : ∀ d, (∃ X, (plN L ks (j + d)).P = (plN L ks j).P ++ X) ∧ ∃ Y, (plN L ks (j + d)).B = (plN L ks j).B ++ Y
  | 0 => ⟨⟨[], by rw [Nat.add_zero, List.append_nil]⟩, ⟨[], by rw [Nat.add_zero, List.append_nil]⟩⟩
  | d + 1 => by
    obtain ⟨⟨X, hX⟩, ⟨Y, hY⟩⟩ := plN_mono L ks j d
    rw [← Nat.add_assoc, plN]
    cases arL L ((j + d : Nat) : Int) with
    | false =>
      rw [bcT (b := !false) rfl]
      exact ⟨⟨X, hX⟩, ⟨Y ++ [_], by rw [← List.append_assoc, ← hY]⟩⟩
    | true =>
      rw [bcF (b := !true) rfl]
      cases hitL L (plN L ks (j + d)).ks ((j + d : Nat) : Int) with
      | true => exact ⟨⟨X, hX⟩, ⟨Y ++ [_], by rw [← List.append_assoc, ← hY]; rfl⟩⟩
      | false => exact ⟨⟨X ++ [_], by rw [← List.append_assoc, ← hX]; rfl⟩, ⟨Y, hY⟩⟩
def isPl (L : List (List CV)) (ks : List (List Int)) (j : Nat) : Bool := arL L (j : Int) && !hitL L (plN L ks j).ks (j : Int)
theorem plN_step (L : List (List CV)) (ks : List (List Int)) (j : Nat) : (isPl L ks j = true ∧ (plN L ks (j + 1)).P = (plN L ks j).P ++ [spL1 L (j : Int)] ∧ (plN L ks (j + 1)).B = (plN L ks j).B ∧ (plN L ks (j + 1)).ks = addL L (plN L ks j).ks (j : Int)) ∨
    (isPl L ks j = false ∧ (plN L ks (j + 1)).P = (plN L ks j).P ∧ (plN L ks (j + 1)).B = (plN L ks j).B ++ [atL1 L (j : Int)] ∧ (plN L ks (j + 1)).ks = (plN L ks j).ks) := by
  rw [plN]
  unfold isPl
  cases arL L (j : Int) with
  | false => exact .inr ⟨rfl, rfl, rfl, rfl⟩
  | true => cases hitL L (plN L ks j).ks (j : Int) with
    | true => exact .inr ⟨rfl, rfl, rfl, rfl⟩
    | false => exact .inl ⟨rfl, rfl, rfl, rfl⟩
theorem rowAt_mid {X Y : List (List CV)} {x : List CV} : Sx.rowAt (X ++ [x] ++ Y) X.length = x := by
  rw [rowAt_get (by simp)]; simp
theorem plP_at {L : List (List CV)} {ks : List (List Int)} {n j : Nat} (hj : j < n) (h : isPl L ks j = true) : (plN L ks j).P.length < (plN L ks n).P.length ∧ Sx.rowAt (plN L ks n).P (plN L ks j).P.length = spL1 L (j : Int) := by
  obtain ⟨⟨X, hX⟩, _⟩ := plN_mono L ks (j + 1) (n - (j + 1))
  rw [show j + 1 + (n - (j + 1)) = n by omega] at hX
  rcases plN_step L ks j with ⟨_, e, _⟩ | ⟨e, _⟩
  · rw [e] at hX
    rw [hX]
    exact ⟨by simp, rowAt_mid⟩
  · rw [h] at e; cases e
theorem ks_from {L : List (List CV)} {ks : List (List Int)} {k : List Int} : ∀ j, k ∈ (plN L ks j).ks → k ∈ ks ∨ ∃ m, m < j ∧ isPl L ks m = true ∧ inA (rwL L (m : Int)) k
  | 0, h => .inl h
  | j + 1, h => by
    rcases plN_step L ks j with ⟨e, _, _, ek⟩ | ⟨_, _, _, ek⟩
    · rw [ek] at h
      rcases (mem_addA _).1 h with h | h
      · rcases ks_from j h with h | ⟨m, a, b, c⟩
        · exact .inl h
        · exact .inr ⟨m, by omega, b, c⟩
      · exact .inr ⟨j, by omega, e, h⟩
    · rw [ek] at h
      rcases ks_from j h with h | ⟨m, a, b, c⟩
      · exact .inl h
      · exact .inr ⟨m, by omega, b, c⟩
theorem anyN_true {f : Nat → Bool} {n : Nat} (h : anyN f n = true) : ∃ j, j < n ∧ f j = true := by
  obtain ⟨j, hj, h1, _⟩ := anyN_first h
  exact ⟨j, hj, h1⟩
theorem hit_some {ks : List (List Int)} {x : List CV} (h : hitA ks (c0 x) (c1 x) (c2 x) (c3 x).toNat (c4 x).toNat (c0 x) (c1 x) (c2 x) = true) : ∃ k, inA x k ∧ k ∈ ks ∧ k ≠ keyR x := by
  obtain ⟨i, hi, h1⟩ := anyN_true h
  obtain ⟨j, hj, h2⟩ := anyN_true h1
  unfold hitI at h2
  rw [Bool.and_eq_true, Bool.not_eq_true'] at h2
  refine ⟨_, ⟨i, j, hi, hj, rfl⟩, memK_iff.1 h2.1, fun e => ?_⟩
  unfold keyI keyR at e
  simp only [List.cons.injEq, and_true] at e
  have h3 := h2.2
  unfold ownB at h3
  rw [e.2.1, e.2.2] at h3
  simp at h3
theorem rwL_take {L : List (List CV)} {k j : Nat} (h : j < k) : rwL (L.take k) (j : Int) = rwL L (j : Int) := by
  rw [rwL_nat, rwL_nat]
  unfold Sx.rowAt
  simp only [List.getD_eq_getElem?_getD, List.getElem?_take, if_pos h]
theorem plN_take (L : List (List CV)) (ks : List (List Int)) (k : Nat) : ∀ j, j ≤ k → plN (L.take k) ks j = plN L ks j
  | 0, _ => rfl
  | j + 1, hj => by
    have ih := plN_take L ks k j (by omega)
    have e := rwL_take (L := L) (show j < k by omega)
    rw [plN, plN, ih]
    unfold hitL addL
    simp only [arL, atL1, spL1, e]
end Go.Proofs.YtphhepnldndbhaaGreatDoor
namespace Go.Proofs.YtphhepnldndbhaaGreatDoor.Sx
open Go
variable {P : Program} {R : Type}
def Views (s t : qzw) : Prop := ∀ (w0 : World) (M : Nat → Prop) (E : Env) (a : Act) (w : World), Rel w0 M E s.toA a w → ∃ E', Env.le E E' ∧ Rel w0 M E' t.toA a w
theorem Views.refl (s : qzw) : Views s s := fun _ _ E _ _ h => ⟨E, Env.le.refl E, h⟩
theorem Views.trans {s t u : qzw} (h : Views s t) (k : Views t u) : Views s u := fun w0 M E a w hR => by
  obtain ⟨E1, h1, g1⟩ := h w0 M E a w hR
  obtain ⟨E2, h2, g2⟩ := k w0 M E1 a w g1
  exact ⟨E2, h1.trans h2, g2⟩
theorem views_tri {x : Code} {s t : qzw} {ex : Ex} {s' : AState} {K : Nat} (hv : Views s t) (ht : Tri P x t.toA ex s' K) : Tri P x s.toA ex s' K := fun ro w0 M E a w hro hR => by
  obtain ⟨E1, hle, h1⟩ := hv w0 M E a w hR
  refine wpIn_mono (ht ro w0 M E1 a w hro h1) ?_
  rintro e' a' w' ⟨rfl, E', hle', h'⟩
  exact ⟨rfl, E', fun n p hn hE => hle' n p hn (hle n p hE), h'⟩
section
variable {w0 : World} {M : Nat → Prop} {E : Env} {s : AState} {a : Act} {w : World}
theorem Rel.seal {t nm len : Nat} {cs : List AV} {ty : TypeId} {sz : Nat} {o' : AObj} (h : Rel w0 M E s a w) (hs : s.slots[t]? = some (some (.vec nm len))) (hm : s.mem[nm]? = some (some (.vec cs ty sz)))
    (hfit : Fits (.vec cs ty sz) o') (how : o'.owned = false) (hmi : o'.mine = false) : Rel w0 M E ⟨s.slots.set t (some (.dsl nm len)), s.mem.set nm (some o')⟩ a w := {
  size := by rw [List.length_set]; exact h.size
  slots := fun n v e => by
    rcases set_get e with ⟨rfl, hv⟩ | ⟨_, e⟩
    · cases hv
      obtain ⟨x, hx, hd⟩ := h.slots _ _ hs
      exact ⟨x, hx, den_seal hd⟩
    · exact h.slots n v e
  defers := h.defers
  fresh := fun n e => by
    rcases set_get e with ⟨rfl, hv⟩ | ⟨_, e⟩
    · cases hv
    · exact h.fresh n e
  mem := fun n o e => by
    rcases set_get e with ⟨rfl, hv⟩ | ⟨_, e⟩
    · cases hv
      obtain ⟨b, c, hb, ho, _⟩ := h.mem _ _ hm
      exact ⟨b, c, hb, hfit _ _ _ _ ho, fun h1 => by rw [hmi] at h1; cases h1⟩
    · exact h.mem n o e
  apart := fun n m o o2 b c b' c' h1 h2 h3 h4 h5 h6 hne ht => by
    rcases set_get h1 with ⟨rfl, hv⟩ | ⟨_, e1⟩
    · cases hv; rw [how] at h3; cases h3
    · rcases set_get h2 with ⟨rfl, hv⟩ | ⟨_, e2⟩
      · cases hv
        exact h.apart n _ o _ b c b' c' e1 hm h3 rfl h5 h6 hne (touches_eq ht)
      · exact h.apart n m o o2 b c b' c' e1 e2 h3 h4 h5 h6 hne ht
  frame := h.frame
  grow := h.grow
  os := h.os
  tape := h.tape
  output := h.output
  glob := h.glob
  nest := h.nest }
theorem Rel.nilled {t n : Nat} {sh : List CK} (h : Rel w0 M E s a w) (hs : s.slots[t]? = some (some .qzz)) (hm : s.mem[n]? = some none) :
    ∃ E', Env.le E E' ∧ Rel w0 M E' ⟨s.slots.set t (some (.dsl n 0)), s.mem.set n (some (.flatR false sh []))⟩ a w := by
  have hn := h.fresh n hm
  let c0 : Cap := { n := 0, z := true }
  let E2 : Env := fun k => if k = n then some (0, c0) else E k
  have e2 : E2 n = some (0, c0) := by simp [E2]
  have hle : Env.le E E2 := fun k p hk => by
    have : k ≠ n := fun e => by rw [e, hn] at hk; cases hk
    simp [E2, this, hk]
  have back : ∀ {k : Nat}, k ≠ n → E2 k = E k := fun hk => by simp [E2, hk]
  refine ⟨E2, hle, {
    size := by rw [List.length_set]; exact h.size
    slots := fun k v e => ?_
    defers := h.defers
    fresh := fun k e => ?_
    mem := fun k o e => ?_
    apart := fun k m o o2 b c b' c' h1 h2 h3 h4 h5 h6 hne ht => ?_
    frame := h.frame
    grow := h.grow
    os := h.os
    tape := h.tape
    output := h.output
    glob := h.glob
    nest := fun m b c k e hu => ?_ }⟩
  · rcases set_get e with ⟨rfl, hv⟩ | ⟨_, e⟩
    · cases hv
      obtain ⟨x, hx, hd⟩ := h.slots _ _ hs
      refine ⟨x, hx, ?_⟩
      rw [← hd]
      simp [den, e2, c0]
    · obtain ⟨x, hx, hd⟩ := h.slots k v e
      exact ⟨x, hx, den_mono hle _ _ hd⟩
  · rcases set_get e with ⟨rfl, hv⟩ | ⟨hk, e⟩
    · cases hv
    · rw [back hk]; exact h.fresh k e
  · rcases set_get e with ⟨rfl, hv⟩ | ⟨hk, e⟩
    · cases hv
      exact ⟨0, c0, e2, ⟨fun _ => rfl, fun e => by cases e⟩, fun e => by cases e⟩
    · obtain ⟨b, c, hb, ho, hmi⟩ := h.mem k o e
      exact ⟨b, c, hle _ _ hb, ho.mono hle, hmi⟩
  · rcases set_get h1 with ⟨rfl, hv⟩ | ⟨hk, g1⟩
    · cases hv; cases h3
    · rcases set_get h2 with ⟨rfl, hv⟩ | ⟨hk', g2⟩
      · cases hv
        rw [e2] at h6
        cases h6
        exact absurd ht.1 (by decide)
      · rw [back hk] at h5
        rw [back hk'] at h6
        exact h.apart k m o o2 b c b' c' g1 g2 h3 h4 h5 h6 hne ht
  · by_cases hk : m = n
    · subst hk
      rw [e2] at e
      cases e
      exact absurd hu (Cap.bare_of (fun _ _ => rfl) k)
    · rw [back hk] at e
      exact h.nest m b c k e hu
end
def freeP : List (Option PObj) → Nat → Option Nat
  | [], _ => none
  | none :: _, i => some i
  | some _ :: l, i => freeP l (i + 1)
theorem freeP_get : ∀ {l : List (Option PObj)} {i n : Nat}, freeP l i = some n → ∃ k, n = i + k ∧ l[k]? = some none
  | [], i, n, h => by cases h
  | none :: l, i, n, h => by cases h; exact ⟨0, rfl, rfl⟩
  | some x :: l, i, n, h => by
    obtain ⟨k, e, hk⟩ := freeP_get (l := l) h
    exact ⟨k + 1, by omega, by rw [List.getElem?_cons_succ]; exact hk⟩
def viewV (sh : List CK) (t : Nat) (s : qzw) : Option qzw :=
  match s.slots[t]? with
  | some (some .qzz) => match freeP s.mem 0 with
    | some n => some ⟨s.slots.set t (some (.dsl n 0)), s.mem.set n (some (.raw (.flatR false sh [])))⟩
    | none => none
  | some (some (.vec nm len)) => match s.mem[nm]? with
    | some (some (.vecR sh' rows ty)) => match shEq sh' sh with
      | true => some ⟨s.slots.set t (some (.dsl nm len)), s.mem.set nm (some (.raw (.flatR false sh rows)))⟩
      | false => none
    | _ => none
  | _ => none
theorem memA_at {m : List (Option PObj)} {n : Nat} {o : Option PObj} (h : m[n]? = some o) : (memA m)[n]? = some (o.map PObj.toA) := by
  simp only [memA, List.getElem?_map, h, Option.map_some]
theorem memA_setV {m : List (Option PObj)} {n : Nat} {o : Option PObj} : memA (m.set n o) = (memA m).set n (o.map PObj.toA) := by
  simp only [memA, List.map_set]
theorem viewV_ok {sh : List CK} {t : Nat} {s u : qzw} (h : viewV sh t s = some u) : Views s u := fun w0 M E a w hR => by
  unfold viewV at h
  split at h
  · rename_i hs
    split at h
    · rename_i n hn
      cases h
      obtain ⟨k, e, hk⟩ := freeP_get hn
      obtain rfl : n = k := by omega
      obtain ⟨E', hle, g⟩ := hR.nilled (sh := sh) hs (memA_at hk)
      refine ⟨E', hle, ?_⟩
      show Rel w0 M E' ⟨_, memA (s.mem.set n _)⟩ a w
      rw [memA_setV]; exact g
    · cases h
  · rename_i nm len hs
    split at h
    · rename_i sh' rows ty hm
      split at h
      · rename_i he
        cases h
        obtain rfl := shEq_of he
        refine ⟨E, Env.le.refl E, ?_⟩
        show Rel w0 M E ⟨_, memA (s.mem.set nm _)⟩ a w
        rw [memA_setV]
        exact hR.seal hs (memA_at hm) (Fits.vec_flatR (m := false)) rfl rfl
      · cases h
    · cases h
  · cases h
def viewAll : List (Nat × List CK) → qzw → Option qzw
  | [], s => some s
  | (t, sh) :: l, s => match viewV sh t s with
    | some u => viewAll l u
    | none => none
theorem viewAll_ok : ∀ {l : List (Nat × List CK)} {s u : qzw}, viewAll l s = some u → Views s u
  | [], s, u, h => by cases h; exact Views.refl s
  | (t, sh) :: l, s, u, h => by
    unfold viewAll at h
    split at h
    · rename_i v hv
      exact (viewV_ok hv).trans (viewAll_ok h)
    · cases h
def endV (K NF : Nat) (kn : Nat → Bool) (vs : List (Nat × List CK)) (ex : Ex) (s : qzw) : Option (Ex × qzw) :=
  match ex with
  | .normal => match gcL K NF kn s with
    | some t => match viewAll vs t with
      | some u => (gcL K NF kn u).map fun v => (.normal, v)
      | none => none
    | none => none
  | _ => none
theorem goes_cutV {H : Hd (Ex × qzw)} (hH : HOK P H) {lv : Lv} {NF m n : Nat} {fn : Func} {pre : List PObj} {k : AV → List PObj → Option R} {c c' : Code} {kn : Nat → Bool} {vs : List (Nat × List CK)} (hl : LoopsOK P lv pre.length c) {s st : qzw} {r : R}
    (h1 : runsC H P lv pre.length NF m (endV pre.length NF kn vs) n c s = some (.normal, st)) (hc : restC n c = c') (h2 : GoesTo P fn pre k c' st r) : GoesTo P fn pre k c s r := by
  obtain ⟨ex2, s2, t2, hk2⟩ := h2
  rcases runsC_sound hH n c hl s h1 with ⟨ex1, s1, hne, t1, hk⟩ | ⟨s1, t1, hk⟩
  · exfalso
    cases ex1 with
    | normal => exact hne rfl
    | exit id => simp [endV] at hk
    | ret => simp [endV] at hk
  · unfold endV at hk
    simp only at hk
    split at hk
    · rename_i t ht
      split at hk
      · rename_i u hu
        simp only [Option.map_eq_some_iff, Prod.mk.injEq] at hk
        obtain ⟨v, hv, _, rfl⟩ := hk
        subst hc
        exact ⟨ex2, s2, t1 _ _ (Tri.preRen ht (views_tri (viewAll_ok hu) (Tri.preRen hv t2))), hk2⟩
      · cases hk
    · cases hk
end Go.Proofs.YtphhepnldndbhaaGreatDoor.Sx
namespace Go.Proofs.YtphhepnldndbhaaGreatDoor
open Go Sx
abbrev fSp (R : List (List CV)) : PObj := .raw (.flatR false shS R)
section
variable (k : Nat) (R Z P B C : List (List CV)) (a z : Nat)
end
end Go.Proofs.YtphhepnldndbhaaGreatDoor
namespace Go.Proofs.YtphhepnldndbhaaGreatDoor
open Go Sx
abbrev a5 (s r c h w : Int) : PObj := .raw (.cells [.int .i64 s, .int .i64 r, .int .i64 c, .int .i64 h, .int .i64 w] 51)
def ckF (i : Int) (L : List (List CV)) : Bool := decide (i.toNat < L.length) && true && true
theorem ckF_nat {i : Nat} {L : List (List CV)} (h : i < L.length) : ckF (i : Int) L = true := by unfold ckF; rw [Int.toNat_natCast, decide_eq_true h]; rfl
def eq3 (x y : List CV) : Bool := c0 x == c0 y && (c1 x == c1 y && (c2 x == c2 y && true))
def eq5 (x y : List CV) : Bool := (c0 x == c0 y && (c1 x == c1 y && (c2 x == c2 y && true))) && (c3 x == c3 y && (c4 x == c4 y && true))
abbrev mtR2 (x y : List CV) : Bool := meetB (c0 x) (c1 x) (c2 x) (c3 x) (c4 x) (c0 y) (c1 y) (c2 y) (c3 y) (c4 y)
section
variable (R Z O P B C : List (List CV)) (nO nP nB nC : Nat) (i k n : Int) (x : List CV)
end
end Go.Proofs.YtphhepnldndbhaaGreatDoor
namespace Go.Proofs.YtphhepnldndbhaaGreatDoor.Sx
open Go
variable {P : Program}
theorem loops_at {lv : Lv} {K : Nat} {z : Code} (l : List (Code × Nat)) (hb : qyu z = l.map (·.1)) (hh : ∀ p ∈ l, headReg p.1 = some p.2) (h : ∀ p ∈ l, ∀ e, lv.ent p.2 = some e → ∀ t, LAnsOK P p.1 K t (e K t)) : LoopsOK P lv K z := fun x hx id e hid he t => by
  rw [hb] at hx
  obtain ⟨p, hp, rfl⟩ := List.mem_map.1 hx
  rw [hh p hp] at hid; cases hid
  exact h p hp e he t
def outC (b : Bool) (ex : Ex) (s : qzw) : LAns := .chk b (.out ex s)
theorem outC_ok {x : Code} {K : Nat} {s : qzw} {b : Bool} {ex : Ex} {t : qzw} (h : b = true → Tri P (.loop x) s.toA ex t.toA K) : LAnsOK P x K s (outC b ex t) := ⟨fun hb => h hb, fun _ => trivial⟩
end Go.Proofs.YtphhepnldndbhaaGreatDoor.Sx
namespace Go.Proofs.YtphhepnldndbhaaGreatDoor
open Go Sx
section
variable {R Z O P B C : List (List CV)}
end
section
variable (R Z O P B C : List (List CV)) (nO nP nB nC : Nat) (i : Int) (x : List CV) (o1 o2 : Bool)
end
end Go.Proofs.YtphhepnldndbhaaGreatDoor
namespace Go.Proofs.YtphhepnldndbhaaGreatDoor
open Go Sx
section
variable (R Z P : List (List CV)) (s r c m : Int) (x : List CV) (k1 k0 : Bool)
end
end Go.Proofs.YtphhepnldndbhaaGreatDoor
namespace Go.Proofs.YtphhepnldndbhaaGreatDoor
open Go Sx
theorem eq3_iff {x y : List CV} : eq3 x y = true ↔ c0 x = c0 y ∧ c1 x = c1 y ∧ c2 x = c2 y := by
  unfold eq3
  simp only [Bool.and_eq_true, beq_iff_eq, and_true]
theorem eq5_iff {x y : List CV} : eq5 x y = true ↔ (c0 x = c0 y ∧ c1 x = c1 y ∧ c2 x = c2 y) ∧ c3 x = c3 y ∧ c4 x = c4 y := by
  unfold eq5
  simp only [Bool.and_eq_true, beq_iff_eq, and_true]
section
variable {R Z : List (List CV)} {a z : Nat}
end
end Go.Proofs.YtphhepnldndbhaaGreatDoor
namespace Go.Proofs.YtphhepnldndbhaaGreatDoor.Dp
open Go Sx Go.Proofs.YtphhepnldndbhaaGreatDoor
noncomputable abbrev loopR : Code := (qyu (bodyOf Tryz.f27)).headD .skip
def tAr2 : Tab := [(46, eCmp)]
theorem tAr2_ok : TabOK Tryz.prog tAr2 := .cons eCmp_ok .nil
section
variable (L : List (List CV)) (ks : List (List Int)) (n : Nat) (i : Int)
def sR : qzw := ⟨some (.dsl 0 n) :: some (.mapp 1) :: nn 5 ++ (some (.dsl 0 n) :: some (.int .i64 (n : Int)) :: some (.int .i64 i) :: nn 42), some (fSp L) :: some (oM ks) :: nn 64⟩
def sRX : qzw := ⟨nn 52, some (fSp L) :: some (oM ks) :: nn 64⟩
def sRF : qzw := ⟨nn 4 ++ (some (.bool false) :: nn 47), some (fSp L) :: some (oM ks) :: nn 64⟩
theorem rR : code (ent Tryz.prog tAr2 nolv 64 1 20) Tryz.prog {} 2 64 1 loopR (sR L ks n i) (endK 2 64 kR kRX) = qyw (decide (i < (n : Int))) (chks (qyw (decide (c3 (Sx.rowAt L i.toNat) < 1)) (some (.ret, sRF L ks)) (qyw (decide (c4 (Sx.rowAt L i.toNat) < 1)) (some (.ret, sRF L ks)) (chks (qyw (decide (c4 (Sx.rowAt L i.toNat) > w64 (Int.tdiv 400 (c3 (Sx.rowAt L i.toNat))))) (some (.ret, sRF L ks)) (qyw (!memK ks [c0 (Sx.rowAt L i.toNat), c1 (Sx.rowAt L i.toNat), c2 (Sx.rowAt L i.toNat)]) (some (.ret, sRF L ks)) (qyw (decide (i > 0)) (chks (qyw (decide (cmP (c0 (Sx.rowAt L (w64 (i - 1)).toNat)) (c1 (Sx.rowAt L (w64 (i - 1)).toNat)) (c2 (Sx.rowAt L (w64 (i - 1)).toNat)) (c0 (Sx.rowAt L i.toNat)) (c1 (Sx.rowAt L i.toNat)) (c2 (Sx.rowAt L i.toNat)) ≥ 0)) (some (.ret, sRF L ks)) (some (.normal, sR L ks n (up1 i)))) [ixN (w64 (i - 1)) n, ckF (w64 (i - 1)) L]) (some (.normal, sR L ks n (up1 i)))))) [c3 (Sx.rowAt L i.toNat) != 0]))) [ixN i n, ckF i L]) (some (.exit 0, sRX L ks)) := by kernel_rfl
end
def badR (L : List (List CV)) (ks : List (List Int)) (j : Nat) : Bool := qyw (decide (c3 (Sx.rowAt L j) < 1)) true (qyw (decide (c4 (Sx.rowAt L j) < 1)) true (qyw (decide (c4 (Sx.rowAt L j) > w64 (Int.tdiv 400 (c3 (Sx.rowAt L j))))) true (qyw (!memK ks [c0 (Sx.rowAt L j), c1 (Sx.rowAt L j), c2 (Sx.rowAt L j)]) true (qyw (decide (0 < j)) (decide (cmP (c0 (Sx.rowAt L (j - 1))) (c1 (Sx.rowAt L (j - 1))) (c2 (Sx.rowAt L (j - 1))) (c0 (Sx.rowAt L j)) (c1 (Sx.rowAt L j)) (c2 (Sx.rowAt L j)) ≥ 0)) false))))
def wrgB (L : List (List CV)) (ks : List (List Int)) (m : Nat) : Bool := anyN (badR L ks) m
theorem rR_at {L : List (List CV)} {ks : List (List Int)} {n j : Nat} (hj : j < n) (hn : n ≤ L.length) (hb : n ≤ 1000) : code (ent Tryz.prog tAr2 nolv 64 1 20) Tryz.prog {} 2 64 1 loopR (sR L ks n (j : Int)) (endK 2 64 kR kRX) = qyw (badR L ks j) (some (.ret, sRF L ks)) (some (.normal, sR L ks n ((j + 1 : Nat) : Int))) := by
  rw [rR, bcT (decide_eq_true (by omega)), qzy (all2 (ixN_nat hj) (ckF_nat (by omega))), up1_nat (by omega), Int.toNat_natCast]
  unfold badR
  by_cases h3 : c3 (Sx.rowAt L j) < 1
  · rw [bcT (decide_eq_true h3), bcT (decide_eq_true h3)]; rfl
  · rw [bcF (decide_eq_false h3), bcF (decide_eq_false h3), qzy (all1 (bne_iff_ne.2 (by omega)))]
    by_cases h4 : c4 (Sx.rowAt L j) < 1
    · rw [bcT (decide_eq_true h4), bcT (decide_eq_true h4)]; rfl
    · rw [bcF (decide_eq_false h4), bcF (decide_eq_false h4)]
      by_cases h5 : c4 (Sx.rowAt L j) > w64 (Int.tdiv 400 (c3 (Sx.rowAt L j)))
      · rw [bcT (decide_eq_true h5), bcT (decide_eq_true h5)]; rfl
      · rw [bcF (decide_eq_false h5), bcF (decide_eq_false h5)]
        cases hm : !memK ks [c0 (Sx.rowAt L j), c1 (Sx.rowAt L j), c2 (Sx.rowAt L j)] with
        | true => rfl
        | false =>
          rw [bcF rfl, bcF rfl]
          cases j with
          | zero => rfl
          | succ k =>
            have hw : w64 (((k + 1 : Nat) : Int) - 1) = (k : Int) := by rw [qxy (by omega) (by omega)]; omega
            rw [bcT (b := decide (((k + 1 : Nat) : Int) > 0)) (decide_eq_true (by omega)), bcT (b := decide (0 < k + 1)) (decide_eq_true (by omega)), hw, qzy (all2 (ixN_nat (by omega)) (ckF_nat (by omega))), Int.toNat_natCast, show k + 1 - 1 = k by omega]
theorem loopRR {L : List (List CV)} {ks : List (List Int)} {n : Nat} (hn : n ≤ L.length) (hb : n ≤ 1000) : (wrgB L ks n = true → Tri Tryz.prog (.loop loopR) (sR L ks n 0).toA .ret (sRF L ks).toA 2) ∧ (wrgB L ks n = false → Tri Tryz.prog (.loop loopR) (sR L ks n 0).toA (.exit 0) (sRX L ks).toA 2) := by
  refine tri_any (W := n) (badR L ks) (fun j => (sR L ks n (j : Int)).toA) (fun e => by cases e) (fun e => by cases e) (fun j hj hh => ?_) (fun j hj hh => ?_) ?_
  · exact qzx tAr2_ok ((rR_at hj hn hb).trans (by rw [hh]; rfl))
  · exact qzx tAr2_ok ((rR_at hj hn hb).trans (by rw [hh]; rfl))
  · exact qzx tAr2_ok ((rR L ks n (n : Int)).trans (by rw [bcF (decide_eq_false (by omega))]))
noncomputable def lvR (L : List (List CV)) (ks : List (List Int)) (n : Nat) (c b : Bool) : FuncId → Lv := lvOf 27 (fun _ => some [0, 1, 7, 8, 9]) (oneL 2 (eAt 2 (sR L ks n 0) (.chk c (.br b (.out .ret (sRF L ks)) (.out (.exit 0) (sRX L ks))))))
theorem ar_dsl (L : List (List CV)) (ks : List (List Int)) (n : Nat) (c b : Bool) : Comes tAr2 (lvR L ks n c b) 27 [.dsl 0 n, .mapp 1] [fSp L, oM ks] (.chk (eqSt (sR L ks n 0) (sR L ks n 0)) (.chk c (.br b (.ret (.bool false) [fSp L, oM ks]) (.ret (.bool true) [fSp L, oM ks])))) := by unfold Comes; kernel_rfl
open Classical in
noncomputable def eAr : Ent := fun args pre => match args, pre with
  | [.dsl j p, .mapp j'], [.raw (.flatR fl sh L), .raw (.mapS n ks)] => .chk (Nat.beq j 0 && !fl && shEq sh shS && Nat.beq j' 1 && Nat.beq n 3) (.chk (decide (p ≤ L.length ∧ p ≤ 1000)) (.br (wrgB L ks p) (.ret (.bool false) [.raw (.flatR fl sh L), .raw (.mapS n ks)]) (.ret (.bool true) [.raw (.flatR fl sh L), .raw (.mapS n ks)])))
  | _, _ => .fail
open Classical in
theorem eAr_ok : EntOK Tryz.prog 27 eAr := fun args pre => by
  unfold eAr
  split
  · rename_i j p j' fl sh L n ks
    refine ⟨fun g0 => ⟨fun g1 => ?_, fun _ => trivial⟩, fun _ => trivial⟩
    simp only [Bool.and_eq_true, beqT, Bool.not_eq_true'] at g0
    obtain ⟨⟨⟨⟨rfl, rfl⟩, g⟩, rfl⟩, rfl⟩ := g0
    obtain rfl := shEq_of g
    obtain ⟨h1, h2⟩ := of_decide_eq_true g1
    have key := loopRR (ks := ks) h1 h2
    refine ⟨fun hb => ?_, fun hb => ?_⟩
    · refine qyx (pre := [fSp L, oM ks]) (post := [fSp L, oM ks]) tAr2_ok host ((ar_dsl L ks p true true).trans ?_) (lvOne_ok (x := loopR) Tryz.func27 (by kernel_rfl) fun K t => eAt_ok (a := .chk true (.br true (.out .ret (sRF L ks)) (.out (.exit 0) (sRX L ks)))) ⟨fun _ => ⟨fun _ => key.1 hb, fun e => by cases e⟩, fun _ => trivial⟩ K t)
      rw [chkT (qzt _), chkT rfl, brT rfl]; rfl
    · refine qyx (pre := [fSp L, oM ks]) (post := [fSp L, oM ks]) tAr2_ok host ((ar_dsl L ks p true false).trans ?_) (lvOne_ok (x := loopR) Tryz.func27 (by kernel_rfl) fun K t => eAt_ok (a := .chk true (.br false (.out .ret (sRF L ks)) (.out (.exit 0) (sRX L ks)))) ⟨fun _ => ⟨(fun e => by cases e), fun _ => key.2 hb⟩, fun _ => trivial⟩ K t)
      rw [chkT (qzt _), chkT rfl, brF rfl]; rfl
  · trivial
end Go.Proofs.YtphhepnldndbhaaGreatDoor.Dp
namespace Go.Proofs.YtphhepnldndbhaaGreatDoor.Dp
open Go Sx Go.Proofs.YtphhepnldndbhaaGreatDoor
def sM (pre : List (Option PObj)) (K : Nat) (pl : AV) (kb : Nat) (m : Nat) (i : Int) (t : List (Option PObj)) : qzw := ⟨nn 9 ++ (some (.ptr K 0) :: nn 2 ++ (some pl :: some (.ptr kb 0) :: nn 27 ++ (some (.dsl 1 m) :: some (.int .i64 (m : Int)) :: some (.int .i64 i) :: nn 42))), pre ++ (t ++ nn 64)⟩
section
variable (X Y L P B : List (List CV)) (ks : List (List Int)) (p q m a : Nat) (i : Int)
def ckM : List Bool := [ixN i m, ckF i L, inI (c1 (rwL L i)) && inI (c2 (rwL L i))]
def prX : List (Option PObj) := [some (oSh (.vec 2 p) .qzz), some (fSp L), some (vC X)]
def prY : List (Option PObj) := [some (oSh .qzz (.vec 2 q)), some (fSp L), some (vC Y)]
def prB : List (Option PObj) := [some (oSh (.vec 2 p) (.vec 3 q)), some (fSp L), some (vC X), some (vC Y)]
theorem qx00 : code (ent Tryz.prog (tPl ks B (rwL L i)) nolv 64 1 20) Tryz.prog {} 3 64 1 loopQ (sM (prX X L p) 3 .qzz 4 m i [some (oP1 (.mapp 5) 71), some (oP1 .qzz 22), some (oM ks)]) (endK 3 64 kM kMX)
  = qyw (decide (i < (m : Int))) (chks (qyw (!arL L i) (some (.normal, (sM (prX X L p) 3 .qzz 4 m (up1 i) [some (oP1 (.mapp 5) 71), some (oP1 (.vec 6 1) 22), some (oM ks), some (vA [atL1 L i])]))) (chks (qyw (hitL L ks i) (some (.normal, (sM (prX X L p) 3 .qzz 4 m (up1 i) [some (oP1 (.mapp 5) 71), some (oP1 (.vec 6 1) 22), some (oM ks), some (vA [atL1 L i])]))) (chks (some (.normal, (sM (prX X L p) 3 (.vec 4 1) 5 m (up1 i) [some (oP1 (.mapp 6) 71), some (vS [spL1 L i]), some (oP1 .qzz 22), some (oM (addL L ks i))]))) [ckIm L ks i])) [ckIn L ks i])) (ckM L m i)) (some (.exit 2, (sMX (prX X L p) .qzz 3 [some (oP1 .qzz 22)]))) := by kernel_rfl
theorem qx01 : code (ent Tryz.prog (tPl ks B (rwL L i)) nolv 64 1 20) Tryz.prog {} 3 64 1 loopQ (sM (prX X L p) 3 .qzz 4 m i [some (oP1 (.mapp 5) 71), some (oP1 (.vec 6 B.length) 22), some (oM ks), some (vA B)]) (endK 3 64 kM kMX)
  = qyw (decide (i < (m : Int))) (chks (qyw (!arL L i) (chks (some (.normal, (sM (prX X L p) 3 .qzz 4 m (up1 i) [some (oP1 (.mapp 5) 71), some (oP1 (.vec 6 (B.length + 1)) 22), some (oM ks), some (vA (B ++ [atL1 L i]))]))) [ckBv B]) (chks (qyw (hitL L ks i) (some (.normal, (sM (prX X L p) 3 .qzz 4 m (up1 i) [some (oP1 (.mapp 5) 71), some (oP1 (.vec 6 (B.length + 1)) 22), some (oM ks), some (vA (B ++ [atL1 L i]))]))) (chks (some (.normal, (sM (prX X L p) 3 (.vec 4 1) 5 m (up1 i) [some (oP1 (.mapp 6) 71), some (vS [spL1 L i]), some (oP1 (.vec 7 B.length) 22), some (oM (addL L ks i)), some (vA B)]))) [ckIm L ks i])) [ckIv L B ks i])) (ckM L m i)) (some (.exit 2, (sMX (prX X L p) .qzz 3 [some (oP1 (.vec 4 B.length) 22), some (vA B)]))) := by kernel_rfl
theorem qx10 : code (ent Tryz.prog (tPl ks B (rwL L i)) nolv 64 1 20) Tryz.prog {} 3 64 1 loopQ (sM (prX X L p) 3 (.vec 4 a) 5 m i [some (oP1 (.mapp 6) 71), some (vS P), some (oP1 .qzz 22), some (oM ks)]) (endK 3 64 kM kMX)
  = qyw (decide (i < (m : Int))) (chks (qyw (!arL L i) (some (.normal, (sM (prX X L p) 3 (.vec 4 a) 5 m (up1 i) [some (oP1 (.mapp 6) 71), some (vS P), some (oP1 (.vec 7 1) 22), some (oM ks), some (vA [atL1 L i])]))) (chks (qyw (hitL L ks i) (some (.normal, (sM (prX X L p) 3 (.vec 4 a) 5 m (up1 i) [some (oP1 (.mapp 6) 71), some (vS P), some (oP1 (.vec 7 1) 22), some (oM ks), some (vA [atL1 L i])]))) (chks (chks (some (.normal, (sM (prX X L p) 3 (.vec 4 (a + 1)) 5 m (up1 i) [some (oP1 (.mapp 6) 71), some (vS (P ++ [spL1 L i])), some (oP1 .qzz 22), some (oM (addL L ks i))]))) [ckPv P a]) [ckIm L ks i])) [ckIn L ks i])) (ckM L m i)) (some (.exit 2, (sMX (prX X L p) (.vec 3 a) 4 [some (vS P), some (oP1 .qzz 22)]))) := by kernel_rfl
theorem qx11 : code (ent Tryz.prog (tPl ks B (rwL L i)) nolv 64 1 20) Tryz.prog {} 3 64 1 loopQ (sM (prX X L p) 3 (.vec 4 a) 5 m i [some (oP1 (.mapp 6) 71), some (vS P), some (oP1 (.vec 7 B.length) 22), some (oM ks), some (vA B)]) (endK 3 64 kM kMX)
  = qyw (decide (i < (m : Int))) (chks (qyw (!arL L i) (chks (some (.normal, (sM (prX X L p) 3 (.vec 4 a) 5 m (up1 i) [some (oP1 (.mapp 6) 71), some (vS P), some (oP1 (.vec 7 (B.length + 1)) 22), some (oM ks), some (vA (B ++ [atL1 L i]))]))) [ckBv B]) (chks (qyw (hitL L ks i) (some (.normal, (sM (prX X L p) 3 (.vec 4 a) 5 m (up1 i) [some (oP1 (.mapp 6) 71), some (vS P), some (oP1 (.vec 7 (B.length + 1)) 22), some (oM ks), some (vA (B ++ [atL1 L i]))]))) (chks (chks (some (.normal, (sM (prX X L p) 3 (.vec 4 (a + 1)) 5 m (up1 i) [some (oP1 (.mapp 6) 71), some (vS (P ++ [spL1 L i])), some (oP1 (.vec 7 B.length) 22), some (oM (addL L ks i)), some (vA B)]))) [ckPv P a]) [ckIm L ks i])) [ckIv L B ks i])) (ckM L m i)) (some (.exit 2, (sMX (prX X L p) (.vec 3 a) 4 [some (vS P), some (oP1 (.vec 5 B.length) 22), some (vA B)]))) := by kernel_rfl
theorem qy00 : code (ent Tryz.prog (tPl ks B (rwL L i)) nolv 64 1 20) Tryz.prog {} 3 64 1 loopQ (sM (prY Y L q) 3 .qzz 4 m i [some (oP1 (.mapp 5) 71), some (oP1 .qzz 22), some (oM ks)]) (endK 3 64 kM kMX)
  = qyw (decide (i < (m : Int))) (chks (qyw (!arL L i) (some (.normal, (sM (prY Y L q) 3 .qzz 4 m (up1 i) [some (oP1 (.mapp 5) 71), some (oP1 (.vec 6 1) 22), some (oM ks), some (vA [atL1 L i])]))) (chks (qyw (hitL L ks i) (some (.normal, (sM (prY Y L q) 3 .qzz 4 m (up1 i) [some (oP1 (.mapp 5) 71), some (oP1 (.vec 6 1) 22), some (oM ks), some (vA [atL1 L i])]))) (chks (some (.normal, (sM (prY Y L q) 3 (.vec 4 1) 5 m (up1 i) [some (oP1 (.mapp 6) 71), some (vS [spL1 L i]), some (oP1 .qzz 22), some (oM (addL L ks i))]))) [ckIm L ks i])) [ckIn L ks i])) (ckM L m i)) (some (.exit 2, (sMX (prY Y L q) .qzz 3 [some (oP1 .qzz 22)]))) := by kernel_rfl
theorem qy01 : code (ent Tryz.prog (tPl ks B (rwL L i)) nolv 64 1 20) Tryz.prog {} 3 64 1 loopQ (sM (prY Y L q) 3 .qzz 4 m i [some (oP1 (.mapp 5) 71), some (oP1 (.vec 6 B.length) 22), some (oM ks), some (vA B)]) (endK 3 64 kM kMX)
  = qyw (decide (i < (m : Int))) (chks (qyw (!arL L i) (chks (some (.normal, (sM (prY Y L q) 3 .qzz 4 m (up1 i) [some (oP1 (.mapp 5) 71), some (oP1 (.vec 6 (B.length + 1)) 22), some (oM ks), some (vA (B ++ [atL1 L i]))]))) [ckBv B]) (chks (qyw (hitL L ks i) (some (.normal, (sM (prY Y L q) 3 .qzz 4 m (up1 i) [some (oP1 (.mapp 5) 71), some (oP1 (.vec 6 (B.length + 1)) 22), some (oM ks), some (vA (B ++ [atL1 L i]))]))) (chks (some (.normal, (sM (prY Y L q) 3 (.vec 4 1) 5 m (up1 i) [some (oP1 (.mapp 6) 71), some (vS [spL1 L i]), some (oP1 (.vec 7 B.length) 22), some (oM (addL L ks i)), some (vA B)]))) [ckIm L ks i])) [ckIv L B ks i])) (ckM L m i)) (some (.exit 2, (sMX (prY Y L q) .qzz 3 [some (oP1 (.vec 4 B.length) 22), some (vA B)]))) := by kernel_rfl
theorem qy10 : code (ent Tryz.prog (tPl ks B (rwL L i)) nolv 64 1 20) Tryz.prog {} 3 64 1 loopQ (sM (prY Y L q) 3 (.vec 4 a) 5 m i [some (oP1 (.mapp 6) 71), some (vS P), some (oP1 .qzz 22), some (oM ks)]) (endK 3 64 kM kMX)
  = qyw (decide (i < (m : Int))) (chks (qyw (!arL L i) (some (.normal, (sM (prY Y L q) 3 (.vec 4 a) 5 m (up1 i) [some (oP1 (.mapp 6) 71), some (vS P), some (oP1 (.vec 7 1) 22), some (oM ks), some (vA [atL1 L i])]))) (chks (qyw (hitL L ks i) (some (.normal, (sM (prY Y L q) 3 (.vec 4 a) 5 m (up1 i) [some (oP1 (.mapp 6) 71), some (vS P), some (oP1 (.vec 7 1) 22), some (oM ks), some (vA [atL1 L i])]))) (chks (chks (some (.normal, (sM (prY Y L q) 3 (.vec 4 (a + 1)) 5 m (up1 i) [some (oP1 (.mapp 6) 71), some (vS (P ++ [spL1 L i])), some (oP1 .qzz 22), some (oM (addL L ks i))]))) [ckPv P a]) [ckIm L ks i])) [ckIn L ks i])) (ckM L m i)) (some (.exit 2, (sMX (prY Y L q) (.vec 3 a) 4 [some (vS P), some (oP1 .qzz 22)]))) := by kernel_rfl
theorem qy11 : code (ent Tryz.prog (tPl ks B (rwL L i)) nolv 64 1 20) Tryz.prog {} 3 64 1 loopQ (sM (prY Y L q) 3 (.vec 4 a) 5 m i [some (oP1 (.mapp 6) 71), some (vS P), some (oP1 (.vec 7 B.length) 22), some (oM ks), some (vA B)]) (endK 3 64 kM kMX)
  = qyw (decide (i < (m : Int))) (chks (qyw (!arL L i) (chks (some (.normal, (sM (prY Y L q) 3 (.vec 4 a) 5 m (up1 i) [some (oP1 (.mapp 6) 71), some (vS P), some (oP1 (.vec 7 (B.length + 1)) 22), some (oM ks), some (vA (B ++ [atL1 L i]))]))) [ckBv B]) (chks (qyw (hitL L ks i) (some (.normal, (sM (prY Y L q) 3 (.vec 4 a) 5 m (up1 i) [some (oP1 (.mapp 6) 71), some (vS P), some (oP1 (.vec 7 (B.length + 1)) 22), some (oM ks), some (vA (B ++ [atL1 L i]))]))) (chks (chks (some (.normal, (sM (prY Y L q) 3 (.vec 4 (a + 1)) 5 m (up1 i) [some (oP1 (.mapp 6) 71), some (vS (P ++ [spL1 L i])), some (oP1 (.vec 7 B.length) 22), some (oM (addL L ks i)), some (vA B)]))) [ckPv P a]) [ckIm L ks i])) [ckIv L B ks i])) (ckM L m i)) (some (.exit 2, (sMX (prY Y L q) (.vec 3 a) 4 [some (vS P), some (oP1 (.vec 5 B.length) 22), some (vA B)]))) := by kernel_rfl
theorem qb00 : code (ent Tryz.prog (tPl ks B (rwL L i)) nolv 64 1 20) Tryz.prog {} 4 64 1 loopQ (sM (prB X Y L p q) 4 .qzz 5 m i [some (oP1 (.mapp 6) 71), some (oP1 .qzz 22), some (oM ks)]) (endK 4 64 kM kMX)
  = qyw (decide (i < (m : Int))) (chks (qyw (!arL L i) (some (.normal, (sM (prB X Y L p q) 4 .qzz 5 m (up1 i) [some (oP1 (.mapp 6) 71), some (oP1 (.vec 7 1) 22), some (oM ks), some (vA [atL1 L i])]))) (chks (qyw (hitL L ks i) (some (.normal, (sM (prB X Y L p q) 4 .qzz 5 m (up1 i) [some (oP1 (.mapp 6) 71), some (oP1 (.vec 7 1) 22), some (oM ks), some (vA [atL1 L i])]))) (chks (some (.normal, (sM (prB X Y L p q) 4 (.vec 5 1) 6 m (up1 i) [some (oP1 (.mapp 7) 71), some (vS [spL1 L i]), some (oP1 .qzz 22), some (oM (addL L ks i))]))) [ckIm L ks i])) [ckIn L ks i])) (ckM L m i)) (some (.exit 2, (sMX (prB X Y L p q) .qzz 4 [some (oP1 .qzz 22)]))) := by kernel_rfl
theorem qb01 : code (ent Tryz.prog (tPl ks B (rwL L i)) nolv 64 1 20) Tryz.prog {} 4 64 1 loopQ (sM (prB X Y L p q) 4 .qzz 5 m i [some (oP1 (.mapp 6) 71), some (oP1 (.vec 7 B.length) 22), some (oM ks), some (vA B)]) (endK 4 64 kM kMX)
  = qyw (decide (i < (m : Int))) (chks (qyw (!arL L i) (chks (some (.normal, (sM (prB X Y L p q) 4 .qzz 5 m (up1 i) [some (oP1 (.mapp 6) 71), some (oP1 (.vec 7 (B.length + 1)) 22), some (oM ks), some (vA (B ++ [atL1 L i]))]))) [ckBv B]) (chks (qyw (hitL L ks i) (some (.normal, (sM (prB X Y L p q) 4 .qzz 5 m (up1 i) [some (oP1 (.mapp 6) 71), some (oP1 (.vec 7 (B.length + 1)) 22), some (oM ks), some (vA (B ++ [atL1 L i]))]))) (chks (some (.normal, (sM (prB X Y L p q) 4 (.vec 5 1) 6 m (up1 i) [some (oP1 (.mapp 7) 71), some (vS [spL1 L i]), some (oP1 (.vec 8 B.length) 22), some (oM (addL L ks i)), some (vA B)]))) [ckIm L ks i])) [ckIv L B ks i])) (ckM L m i)) (some (.exit 2, (sMX (prB X Y L p q) .qzz 4 [some (oP1 (.vec 5 B.length) 22), some (vA B)]))) := by kernel_rfl
theorem qb10 : code (ent Tryz.prog (tPl ks B (rwL L i)) nolv 64 1 20) Tryz.prog {} 4 64 1 loopQ (sM (prB X Y L p q) 4 (.vec 5 a) 6 m i [some (oP1 (.mapp 7) 71), some (vS P), some (oP1 .qzz 22), some (oM ks)]) (endK 4 64 kM kMX)
  = qyw (decide (i < (m : Int))) (chks (qyw (!arL L i) (some (.normal, (sM (prB X Y L p q) 4 (.vec 5 a) 6 m (up1 i) [some (oP1 (.mapp 7) 71), some (vS P), some (oP1 (.vec 8 1) 22), some (oM ks), some (vA [atL1 L i])]))) (chks (qyw (hitL L ks i) (some (.normal, (sM (prB X Y L p q) 4 (.vec 5 a) 6 m (up1 i) [some (oP1 (.mapp 7) 71), some (vS P), some (oP1 (.vec 8 1) 22), some (oM ks), some (vA [atL1 L i])]))) (chks (chks (some (.normal, (sM (prB X Y L p q) 4 (.vec 5 (a + 1)) 6 m (up1 i) [some (oP1 (.mapp 7) 71), some (vS (P ++ [spL1 L i])), some (oP1 .qzz 22), some (oM (addL L ks i))]))) [ckPv P a]) [ckIm L ks i])) [ckIn L ks i])) (ckM L m i)) (some (.exit 2, (sMX (prB X Y L p q) (.vec 4 a) 5 [some (vS P), some (oP1 .qzz 22)]))) := by kernel_rfl
theorem qb11 : code (ent Tryz.prog (tPl ks B (rwL L i)) nolv 64 1 20) Tryz.prog {} 4 64 1 loopQ (sM (prB X Y L p q) 4 (.vec 5 a) 6 m i [some (oP1 (.mapp 7) 71), some (vS P), some (oP1 (.vec 8 B.length) 22), some (oM ks), some (vA B)]) (endK 4 64 kM kMX)
  = qyw (decide (i < (m : Int))) (chks (qyw (!arL L i) (chks (some (.normal, (sM (prB X Y L p q) 4 (.vec 5 a) 6 m (up1 i) [some (oP1 (.mapp 7) 71), some (vS P), some (oP1 (.vec 8 (B.length + 1)) 22), some (oM ks), some (vA (B ++ [atL1 L i]))]))) [ckBv B]) (chks (qyw (hitL L ks i) (some (.normal, (sM (prB X Y L p q) 4 (.vec 5 a) 6 m (up1 i) [some (oP1 (.mapp 7) 71), some (vS P), some (oP1 (.vec 8 (B.length + 1)) 22), some (oM ks), some (vA (B ++ [atL1 L i]))]))) (chks (chks (some (.normal, (sM (prB X Y L p q) 4 (.vec 5 (a + 1)) 6 m (up1 i) [some (oP1 (.mapp 7) 71), some (vS (P ++ [spL1 L i])), some (oP1 (.vec 8 B.length) 22), some (oM (addL L ks i)), some (vA B)]))) [ckPv P a]) [ckIm L ks i])) [ckIv L B ks i])) (ckM L m i)) (some (.exit 2, (sMX (prB X Y L p q) (.vec 4 a) 5 [some (vS P), some (oP1 (.vec 6 B.length) 22), some (vA B)]))) := by kernel_rfl
end
end Go.Proofs.YtphhepnldndbhaaGreatDoor.Dp
namespace Go.Proofs.YtphhepnldndbhaaGreatDoor.Dp
open Go Sx Go.Proofs.YtphhepnldndbhaaGreatDoor
def sMof (pre : List (Option PObj)) (K m : Nat) (i : Int) (ks : List (List Int)) : List (List CV) → List (List CV) → qzw
  | [], [] => sM pre K .qzz (K + 1) m i [some (oP1 (.mapp (K + 2)) 71), some (oP1 .qzz 22), some (oM ks)]
  | [], B => sM pre K .qzz (K + 1) m i [some (oP1 (.mapp (K + 2)) 71), some (oP1 (.vec (K + 3) B.length) 22), some (oM ks), some (vA B)]
  | P, [] => sM pre K (.vec (K + 1) P.length) (K + 2) m i [some (oP1 (.mapp (K + 3)) 71), some (vS P), some (oP1 .qzz 22), some (oM ks)]
  | P, B => sM pre K (.vec (K + 1) P.length) (K + 2) m i [some (oP1 (.mapp (K + 3)) 71), some (vS P), some (oP1 (.vec (K + 4) B.length) 22), some (oM ks), some (vA B)]
section
variable {pre : List (Option PObj)} {K m : Nat} {i : Int} {ks : List (List Int)}
theorem sM_appP (P B : List (List CV)) (r : List CV) : sMof pre K m i ks (P ++ [r]) B = match B with
  | [] => sM pre K (.vec (K + 1) (P.length + 1)) (K + 2) m i [some (oP1 (.mapp (K + 3)) 71), some (vS (P ++ [r])), some (oP1 .qzz 22), some (oM ks)]
  | B => sM pre K (.vec (K + 1) (P.length + 1)) (K + 2) m i [some (oP1 (.mapp (K + 3)) 71), some (vS (P ++ [r])), some (oP1 (.vec (K + 4) B.length) 22), some (oM ks), some (vA B)] := by
  have : (P ++ [r]).length = P.length + 1 := by simp
  rw [← this]
  cases P <;> cases B <;> rfl
theorem sM_appB (P B : List (List CV)) (r : List CV) : sMof pre K m i ks P (B ++ [r]) = match P with
  | [] => sM pre K .qzz (K + 1) m i [some (oP1 (.mapp (K + 2)) 71), some (oP1 (.vec (K + 3) (B.length + 1)) 22), some (oM ks), some (vA (B ++ [r]))]
  | P => sM pre K (.vec (K + 1) P.length) (K + 2) m i [some (oP1 (.mapp (K + 3)) 71), some (vS P), some (oP1 (.vec (K + 4) (B.length + 1)) 22), some (oM ks), some (vA (B ++ [r]))] := by
  have : (B ++ [r]).length = B.length + 1 := by simp
  rw [← this]
  cases P <;> cases B <;> rfl
end
section
variable {X Y L : List (List CV)} {ks ks0 : List (List Int)} {p q m : Nat}
def okU (L : List (List CV)) (m : Nat) : Prop := m ≤ L.length ∧ m ≤ 400 ∧ ∀ j, j < m → (1 ≤ c3 (Sx.rowAt L j) ∧ c3 (Sx.rowAt L j) ≤ 400) ∧ (1 ≤ c4 (Sx.rowAt L j) ∧ c4 (Sx.rowAt L j) ≤ 400) ∧ inI (c1 (Sx.rowAt L j)) = true ∧ inI (c2 (Sx.rowAt L j)) = true
theorem ckM_ok (h : okU L m) {j : Nat} (hj : j < m) : ∀ b ∈ ckM L m (j : Int), b = true := by
  obtain ⟨_, _, h1, h2⟩ := h.2.2 j hj
  intro b hb
  have e : rwL L (j : Int) = Sx.rowAt L j := by unfold rwL; rw [Int.toNat_natCast]
  unfold ckM at hb
  rw [e] at hb
  simp only [List.mem_cons, List.not_mem_nil, or_false] at hb
  rcases hb with rfl | rfl | rfl
  · exact ixN_nat hj
  · exact ckF_nat (Nat.lt_of_lt_of_le hj h.1)
  · rw [h1, h2]; rfl
open Classical in
theorem ckIn_ok (h : okU L m) {j : Nat} (hj : j < m) : ckIn L ks (j : Int) = true := by
  obtain ⟨⟨a1, a2⟩, ⟨b1, b2⟩, _⟩ := h.2.2 j hj
  have e : rwL L (j : Int) = Sx.rowAt L j := by unfold rwL; rw [Int.toNat_natCast]
  unfold ckIn
  rw [e]
  exact decide_eq_true ⟨⟨rfl, rfl⟩, ⟨by omega, by omega⟩, by omega, by omega⟩
open Classical in
theorem ckIv_ok (h : okU L m) {B : List (List CV)} (hB : B.length ≤ 1000) {j : Nat} (hj : j < m) : ckIv L B ks (j : Int) = true := by
  obtain ⟨⟨a1, a2⟩, ⟨b1, b2⟩, _⟩ := h.2.2 j hj
  have e : rwL L (j : Int) = Sx.rowAt L j := by unfold rwL; rw [Int.toNat_natCast]
  unfold ckIv
  rw [e]
  exact decide_eq_true ⟨⟨rfl, rfl⟩, ⟨by omega, by omega⟩, ⟨by omega, by omega⟩, hB⟩
open Classical in
theorem ckIm_ok (h : okU L m) {j : Nat} (hj : j < m) : ckIm L ks (j : Int) = true := by
  obtain ⟨⟨a1, a2⟩, ⟨b1, b2⟩, _⟩ := h.2.2 j hj
  have e : rwL L (j : Int) = Sx.rowAt L j := by unfold rwL; rw [Int.toNat_natCast]
  unfold ckIm
  rw [e]
  exact decide_eq_true ⟨⟨rfl, rfl⟩, ⟨by omega, by omega⟩, by omega, by omega⟩
theorem step_x (h : okU L m) {j : Nat} (hj : j < m) : Tri Tryz.prog loopQ (sMof (prX X L p) 3 m (j : Int) (plN L ks0 j).ks (plN L ks0 j).P (plN L ks0 j).B).toA .normal (sMof (prX X L p) 3 m ((j + 1 : Nat) : Int) (plN L ks0 (j + 1)).ks (plN L ks0 (j + 1)).P (plN L ks0 (j + 1)).B).toA 3 := by
  have hn := plN_len L ks0 j
  have hl := h.2.1
  have hlt : decide ((j : Int) < (m : Int)) = true := decide_eq_true (by omega)
  have hm := ckM_ok h hj
  rw [plN, ← up1_nat (show j < 1099511627776 by omega)]
  generalize plN L ks0 j = S at *
  obtain ⟨P, B, ks⟩ := S
  simp only at hn ⊢
  have hi := ckIn_ok (ks := ks) h hj
  have hv := ckIv_ok (ks := ks) (B := B) h (by omega) hj
  have him := ckIm_ok (ks := ks) h hj
  have hb := ckBv_ok (B := B) (by omega)
  have hp := ckPv_ok (P := P) (by omega)
  cases ha : arL L (j : Int) with
  | false =>
    rw [bcT (b := !false) rfl, sM_appB]
    cases P with
    | nil => cases B with
      | nil => exact qzx (tPl_ok ks [] (rwL L (j : Int))) ((qx00 (L := L) (B := []) (ks := ks) (m := m) (i := (j : Int)) (X := X) (p := p)).trans (by rw [bcT hlt, qzy hm, ha, bcT (b := !false) rfl]; try rfl))
      | cons y B => exact qzx (tPl_ok ks (y :: B) (rwL L (j : Int))) ((qx01 (L := L) (B := (y :: B)) (ks := ks) (m := m) (i := (j : Int)) (X := X) (p := p)).trans (by rw [bcT hlt, qzy hm, ha, bcT (b := !false) rfl, qzy (all1 hb)]; try rfl))
    | cons x P => cases B with
      | nil => exact qzx (tPl_ok ks [] (rwL L (j : Int))) ((qx10 (L := L) (B := []) (P := x :: P) (a := (x :: P).length) (ks := ks) (m := m) (i := (j : Int)) (X := X) (p := p)).trans (by rw [bcT hlt, qzy hm, ha, bcT (b := !false) rfl]; try rfl))
      | cons y B => exact qzx (tPl_ok ks (y :: B) (rwL L (j : Int))) ((qx11 (L := L) (B := (y :: B)) (P := x :: P) (a := (x :: P).length) (ks := ks) (m := m) (i := (j : Int)) (X := X) (p := p)).trans (by rw [bcT hlt, qzy hm, ha, bcT (b := !false) rfl, qzy (all1 hb)]; try rfl))
  | true =>
    rw [bcF (b := !true) rfl]
    cases hh : hitL L ks (j : Int) with
    | true =>
      rw [bcT (b := true) rfl, sM_appB]
      cases P with
      | nil => cases B with
        | nil => exact qzx (tPl_ok ks [] (rwL L (j : Int))) ((qx00 (L := L) (B := []) (ks := ks) (m := m) (i := (j : Int)) (X := X) (p := p)).trans (by rw [bcT hlt, qzy hm, ha, bcF (b := !true) rfl, qzy (all1 hi), bcT hh]; try rfl))
        | cons y B => exact qzx (tPl_ok ks (y :: B) (rwL L (j : Int))) ((qx01 (L := L) (B := (y :: B)) (ks := ks) (m := m) (i := (j : Int)) (X := X) (p := p)).trans (by rw [bcT hlt, qzy hm, ha, bcF (b := !true) rfl, qzy (all1 hv), bcT hh]; try rfl))
      | cons x P => cases B with
        | nil => exact qzx (tPl_ok ks [] (rwL L (j : Int))) ((qx10 (L := L) (B := []) (P := x :: P) (a := (x :: P).length) (ks := ks) (m := m) (i := (j : Int)) (X := X) (p := p)).trans (by rw [bcT hlt, qzy hm, ha, bcF (b := !true) rfl, qzy (all1 hi), bcT hh]; try rfl))
        | cons y B => exact qzx (tPl_ok ks (y :: B) (rwL L (j : Int))) ((qx11 (L := L) (B := (y :: B)) (P := x :: P) (a := (x :: P).length) (ks := ks) (m := m) (i := (j : Int)) (X := X) (p := p)).trans (by rw [bcT hlt, qzy hm, ha, bcF (b := !true) rfl, qzy (all1 hv), bcT hh]; try rfl))
    | false =>
      rw [bcF (b := false) rfl, sM_appP]
      cases P with
      | nil => cases B with
        | nil => exact qzx (tPl_ok ks [] (rwL L (j : Int))) ((qx00 (L := L) (B := []) (ks := ks) (m := m) (i := (j : Int)) (X := X) (p := p)).trans (by rw [bcT hlt, qzy hm, ha, bcF (b := !true) rfl, qzy (all1 hi), bcF hh, qzy (all1 him)]; try rfl))
        | cons y B => exact qzx (tPl_ok ks (y :: B) (rwL L (j : Int))) ((qx01 (L := L) (B := (y :: B)) (ks := ks) (m := m) (i := (j : Int)) (X := X) (p := p)).trans (by rw [bcT hlt, qzy hm, ha, bcF (b := !true) rfl, qzy (all1 hv), bcF hh, qzy (all1 him)]; try rfl))
      | cons x P => cases B with
        | nil => exact qzx (tPl_ok ks [] (rwL L (j : Int))) ((qx10 (L := L) (B := []) (P := x :: P) (a := (x :: P).length) (ks := ks) (m := m) (i := (j : Int)) (X := X) (p := p)).trans (by rw [bcT hlt, qzy hm, ha, bcF (b := !true) rfl, qzy (all1 hi), bcF hh, qzy (all1 him), qzy (all1 hp)]; try rfl))
        | cons y B => exact qzx (tPl_ok ks (y :: B) (rwL L (j : Int))) ((qx11 (L := L) (B := (y :: B)) (P := x :: P) (a := (x :: P).length) (ks := ks) (m := m) (i := (j : Int)) (X := X) (p := p)).trans (by rw [bcT hlt, qzy hm, ha, bcF (b := !true) rfl, qzy (all1 hv), bcF hh, qzy (all1 him), qzy (all1 hp)]; try rfl))
theorem last_x : Tri Tryz.prog loopQ (sMof (prX X L p) 3 m (m : Int) (plN L ks0 m).ks (plN L ks0 m).P (plN L ks0 m).B).toA (.exit 2) (sMXof (prX X L p) 3 (plN L ks0 m).P (plN L ks0 m).B).toA 3 := by
  have hlt : decide ((m : Int) < (m : Int)) = false := decide_eq_false (by omega)
  generalize plN L ks0 m = S
  obtain ⟨P, B, ks⟩ := S
  simp only
  cases P with
  | nil => cases B with
    | nil => exact qzx (tPl_ok ks [] (rwL L (m : Int))) ((qx00 (L := L) (B := []) (ks := ks) (m := m) (i := (m : Int)) (X := X) (p := p)).trans (by rw [bcF hlt]; try rfl))
    | cons y B => exact qzx (tPl_ok ks (y :: B) (rwL L (m : Int))) ((qx01 (L := L) (B := (y :: B)) (ks := ks) (m := m) (i := (m : Int)) (X := X) (p := p)).trans (by rw [bcF hlt]; try rfl))
  | cons x P => cases B with
    | nil => exact qzx (tPl_ok ks [] (rwL L (m : Int))) ((qx10 (L := L) (B := []) (P := x :: P) (a := (x :: P).length) (ks := ks) (m := m) (i := (m : Int)) (X := X) (p := p)).trans (by rw [bcF hlt]; try rfl))
    | cons y B => exact qzx (tPl_ok ks (y :: B) (rwL L (m : Int))) ((qx11 (L := L) (B := (y :: B)) (P := x :: P) (a := (x :: P).length) (ks := ks) (m := m) (i := (m : Int)) (X := X) (p := p)).trans (by rw [bcF hlt]; try rfl))
theorem loop_x (h : okU L m) : Tri Tryz.prog (.loop loopQ) (sMof (prX X L p) 3 m 0 ks0 [] []).toA (.exit 2) (sMXof (prX X L p) 3 (plN L ks0 m).P (plN L ks0 m).B).toA 3 :=
  tri_up (body := loopQ) (fun j => (sMof (prX X L p) 3 m (j : Int) (plN L ks0 j).ks (plN L ks0 j).P (plN L ks0 j).B).toA) (fun e => by cases e) m (fun k hk => step_x h hk) last_x 0 (Nat.zero_le _)
theorem step_y (h : okU L m) {j : Nat} (hj : j < m) : Tri Tryz.prog loopQ (sMof (prY Y L q) 3 m (j : Int) (plN L ks0 j).ks (plN L ks0 j).P (plN L ks0 j).B).toA .normal (sMof (prY Y L q) 3 m ((j + 1 : Nat) : Int) (plN L ks0 (j + 1)).ks (plN L ks0 (j + 1)).P (plN L ks0 (j + 1)).B).toA 3 := by
  have hn := plN_len L ks0 j
  have hl := h.2.1
  have hlt : decide ((j : Int) < (m : Int)) = true := decide_eq_true (by omega)
  have hm := ckM_ok h hj
  rw [plN, ← up1_nat (show j < 1099511627776 by omega)]
  generalize plN L ks0 j = S at *
  obtain ⟨P, B, ks⟩ := S
  simp only at hn ⊢
  have hi := ckIn_ok (ks := ks) h hj
  have hv := ckIv_ok (ks := ks) (B := B) h (by omega) hj
  have him := ckIm_ok (ks := ks) h hj
  have hb := ckBv_ok (B := B) (by omega)
  have hp := ckPv_ok (P := P) (by omega)
  cases ha : arL L (j : Int) with
  | false =>
    rw [bcT (b := !false) rfl, sM_appB]
    cases P with
    | nil => cases B with
      | nil => exact qzx (tPl_ok ks [] (rwL L (j : Int))) ((qy00 (L := L) (B := []) (ks := ks) (m := m) (i := (j : Int)) (Y := Y) (q := q)).trans (by rw [bcT hlt, qzy hm, ha, bcT (b := !false) rfl]; try rfl))
      | cons y B => exact qzx (tPl_ok ks (y :: B) (rwL L (j : Int))) ((qy01 (L := L) (B := (y :: B)) (ks := ks) (m := m) (i := (j : Int)) (Y := Y) (q := q)).trans (by rw [bcT hlt, qzy hm, ha, bcT (b := !false) rfl, qzy (all1 hb)]; try rfl))
    | cons x P => cases B with
      | nil => exact qzx (tPl_ok ks [] (rwL L (j : Int))) ((qy10 (L := L) (B := []) (P := x :: P) (a := (x :: P).length) (ks := ks) (m := m) (i := (j : Int)) (Y := Y) (q := q)).trans (by rw [bcT hlt, qzy hm, ha, bcT (b := !false) rfl]; try rfl))
      | cons y B => exact qzx (tPl_ok ks (y :: B) (rwL L (j : Int))) ((qy11 (L := L) (B := (y :: B)) (P := x :: P) (a := (x :: P).length) (ks := ks) (m := m) (i := (j : Int)) (Y := Y) (q := q)).trans (by rw [bcT hlt, qzy hm, ha, bcT (b := !false) rfl, qzy (all1 hb)]; try rfl))
  | true =>
    rw [bcF (b := !true) rfl]
    cases hh : hitL L ks (j : Int) with
    | true =>
      rw [bcT (b := true) rfl, sM_appB]
      cases P with
      | nil => cases B with
        | nil => exact qzx (tPl_ok ks [] (rwL L (j : Int))) ((qy00 (L := L) (B := []) (ks := ks) (m := m) (i := (j : Int)) (Y := Y) (q := q)).trans (by rw [bcT hlt, qzy hm, ha, bcF (b := !true) rfl, qzy (all1 hi), bcT hh]; try rfl))
        | cons y B => exact qzx (tPl_ok ks (y :: B) (rwL L (j : Int))) ((qy01 (L := L) (B := (y :: B)) (ks := ks) (m := m) (i := (j : Int)) (Y := Y) (q := q)).trans (by rw [bcT hlt, qzy hm, ha, bcF (b := !true) rfl, qzy (all1 hv), bcT hh]; try rfl))
      | cons x P => cases B with
        | nil => exact qzx (tPl_ok ks [] (rwL L (j : Int))) ((qy10 (L := L) (B := []) (P := x :: P) (a := (x :: P).length) (ks := ks) (m := m) (i := (j : Int)) (Y := Y) (q := q)).trans (by rw [bcT hlt, qzy hm, ha, bcF (b := !true) rfl, qzy (all1 hi), bcT hh]; try rfl))
        | cons y B => exact qzx (tPl_ok ks (y :: B) (rwL L (j : Int))) ((qy11 (L := L) (B := (y :: B)) (P := x :: P) (a := (x :: P).length) (ks := ks) (m := m) (i := (j : Int)) (Y := Y) (q := q)).trans (by rw [bcT hlt, qzy hm, ha, bcF (b := !true) rfl, qzy (all1 hv), bcT hh]; try rfl))
    | false =>
      rw [bcF (b := false) rfl, sM_appP]
      cases P with
      | nil => cases B with
        | nil => exact qzx (tPl_ok ks [] (rwL L (j : Int))) ((qy00 (L := L) (B := []) (ks := ks) (m := m) (i := (j : Int)) (Y := Y) (q := q)).trans (by rw [bcT hlt, qzy hm, ha, bcF (b := !true) rfl, qzy (all1 hi), bcF hh, qzy (all1 him)]; try rfl))
        | cons y B => exact qzx (tPl_ok ks (y :: B) (rwL L (j : Int))) ((qy01 (L := L) (B := (y :: B)) (ks := ks) (m := m) (i := (j : Int)) (Y := Y) (q := q)).trans (by rw [bcT hlt, qzy hm, ha, bcF (b := !true) rfl, qzy (all1 hv), bcF hh, qzy (all1 him)]; try rfl))
      | cons x P => cases B with
        | nil => exact qzx (tPl_ok ks [] (rwL L (j : Int))) ((qy10 (L := L) (B := []) (P := x :: P) (a := (x :: P).length) (ks := ks) (m := m) (i := (j : Int)) (Y := Y) (q := q)).trans (by rw [bcT hlt, qzy hm, ha, bcF (b := !true) rfl, qzy (all1 hi), bcF hh, qzy (all1 him), qzy (all1 hp)]; try rfl))
        | cons y B => exact qzx (tPl_ok ks (y :: B) (rwL L (j : Int))) ((qy11 (L := L) (B := (y :: B)) (P := x :: P) (a := (x :: P).length) (ks := ks) (m := m) (i := (j : Int)) (Y := Y) (q := q)).trans (by rw [bcT hlt, qzy hm, ha, bcF (b := !true) rfl, qzy (all1 hv), bcF hh, qzy (all1 him), qzy (all1 hp)]; try rfl))
theorem last_y : Tri Tryz.prog loopQ (sMof (prY Y L q) 3 m (m : Int) (plN L ks0 m).ks (plN L ks0 m).P (plN L ks0 m).B).toA (.exit 2) (sMXof (prY Y L q) 3 (plN L ks0 m).P (plN L ks0 m).B).toA 3 := by
  have hlt : decide ((m : Int) < (m : Int)) = false := decide_eq_false (by omega)
  generalize plN L ks0 m = S
  obtain ⟨P, B, ks⟩ := S
  simp only
  cases P with
  | nil => cases B with
    | nil => exact qzx (tPl_ok ks [] (rwL L (m : Int))) ((qy00 (L := L) (B := []) (ks := ks) (m := m) (i := (m : Int)) (Y := Y) (q := q)).trans (by rw [bcF hlt]; try rfl))
    | cons y B => exact qzx (tPl_ok ks (y :: B) (rwL L (m : Int))) ((qy01 (L := L) (B := (y :: B)) (ks := ks) (m := m) (i := (m : Int)) (Y := Y) (q := q)).trans (by rw [bcF hlt]; try rfl))
  | cons x P => cases B with
    | nil => exact qzx (tPl_ok ks [] (rwL L (m : Int))) ((qy10 (L := L) (B := []) (P := x :: P) (a := (x :: P).length) (ks := ks) (m := m) (i := (m : Int)) (Y := Y) (q := q)).trans (by rw [bcF hlt]; try rfl))
    | cons y B => exact qzx (tPl_ok ks (y :: B) (rwL L (m : Int))) ((qy11 (L := L) (B := (y :: B)) (P := x :: P) (a := (x :: P).length) (ks := ks) (m := m) (i := (m : Int)) (Y := Y) (q := q)).trans (by rw [bcF hlt]; try rfl))
theorem loop_y (h : okU L m) : Tri Tryz.prog (.loop loopQ) (sMof (prY Y L q) 3 m 0 ks0 [] []).toA (.exit 2) (sMXof (prY Y L q) 3 (plN L ks0 m).P (plN L ks0 m).B).toA 3 :=
  tri_up (body := loopQ) (fun j => (sMof (prY Y L q) 3 m (j : Int) (plN L ks0 j).ks (plN L ks0 j).P (plN L ks0 j).B).toA) (fun e => by cases e) m (fun k hk => step_y h hk) last_y 0 (Nat.zero_le _)
theorem step_b (h : okU L m) {j : Nat} (hj : j < m) : Tri Tryz.prog loopQ (sMof (prB X Y L p q) 4 m (j : Int) (plN L ks0 j).ks (plN L ks0 j).P (plN L ks0 j).B).toA .normal (sMof (prB X Y L p q) 4 m ((j + 1 : Nat) : Int) (plN L ks0 (j + 1)).ks (plN L ks0 (j + 1)).P (plN L ks0 (j + 1)).B).toA 4 := by
  have hn := plN_len L ks0 j
  have hl := h.2.1
  have hlt : decide ((j : Int) < (m : Int)) = true := decide_eq_true (by omega)
  have hm := ckM_ok h hj
  rw [plN, ← up1_nat (show j < 1099511627776 by omega)]
  generalize plN L ks0 j = S at *
  obtain ⟨P, B, ks⟩ := S
  simp only at hn ⊢
  have hi := ckIn_ok (ks := ks) h hj
  have hv := ckIv_ok (ks := ks) (B := B) h (by omega) hj
  have him := ckIm_ok (ks := ks) h hj
  have hb := ckBv_ok (B := B) (by omega)
  have hp := ckPv_ok (P := P) (by omega)
  cases ha : arL L (j : Int) with
  | false =>
    rw [bcT (b := !false) rfl, sM_appB]
    cases P with
    | nil => cases B with
      | nil => exact qzx (tPl_ok ks [] (rwL L (j : Int))) ((qb00 (L := L) (B := []) (ks := ks) (m := m) (i := (j : Int)) (X := X) (Y := Y) (p := p) (q := q)).trans (by rw [bcT hlt, qzy hm, ha, bcT (b := !false) rfl]; try rfl))
      | cons y B => exact qzx (tPl_ok ks (y :: B) (rwL L (j : Int))) ((qb01 (L := L) (B := (y :: B)) (ks := ks) (m := m) (i := (j : Int)) (X := X) (Y := Y) (p := p) (q := q)).trans (by rw [bcT hlt, qzy hm, ha, bcT (b := !false) rfl, qzy (all1 hb)]; try rfl))
    | cons x P => cases B with
      | nil => exact qzx (tPl_ok ks [] (rwL L (j : Int))) ((qb10 (L := L) (B := []) (P := x :: P) (a := (x :: P).length) (ks := ks) (m := m) (i := (j : Int)) (X := X) (Y := Y) (p := p) (q := q)).trans (by rw [bcT hlt, qzy hm, ha, bcT (b := !false) rfl]; try rfl))
      | cons y B => exact qzx (tPl_ok ks (y :: B) (rwL L (j : Int))) ((qb11 (L := L) (B := (y :: B)) (P := x :: P) (a := (x :: P).length) (ks := ks) (m := m) (i := (j : Int)) (X := X) (Y := Y) (p := p) (q := q)).trans (by rw [bcT hlt, qzy hm, ha, bcT (b := !false) rfl, qzy (all1 hb)]; try rfl))
  | true =>
    rw [bcF (b := !true) rfl]
    cases hh : hitL L ks (j : Int) with
    | true =>
      rw [bcT (b := true) rfl, sM_appB]
      cases P with
      | nil => cases B with
        | nil => exact qzx (tPl_ok ks [] (rwL L (j : Int))) ((qb00 (L := L) (B := []) (ks := ks) (m := m) (i := (j : Int)) (X := X) (Y := Y) (p := p) (q := q)).trans (by rw [bcT hlt, qzy hm, ha, bcF (b := !true) rfl, qzy (all1 hi), bcT hh]; try rfl))
        | cons y B => exact qzx (tPl_ok ks (y :: B) (rwL L (j : Int))) ((qb01 (L := L) (B := (y :: B)) (ks := ks) (m := m) (i := (j : Int)) (X := X) (Y := Y) (p := p) (q := q)).trans (by rw [bcT hlt, qzy hm, ha, bcF (b := !true) rfl, qzy (all1 hv), bcT hh]; try rfl))
      | cons x P => cases B with
        | nil => exact qzx (tPl_ok ks [] (rwL L (j : Int))) ((qb10 (L := L) (B := []) (P := x :: P) (a := (x :: P).length) (ks := ks) (m := m) (i := (j : Int)) (X := X) (Y := Y) (p := p) (q := q)).trans (by rw [bcT hlt, qzy hm, ha, bcF (b := !true) rfl, qzy (all1 hi), bcT hh]; try rfl))
        | cons y B => exact qzx (tPl_ok ks (y :: B) (rwL L (j : Int))) ((qb11 (L := L) (B := (y :: B)) (P := x :: P) (a := (x :: P).length) (ks := ks) (m := m) (i := (j : Int)) (X := X) (Y := Y) (p := p) (q := q)).trans (by rw [bcT hlt, qzy hm, ha, bcF (b := !true) rfl, qzy (all1 hv), bcT hh]; try rfl))
    | false =>
      rw [bcF (b := false) rfl, sM_appP]
      cases P with
      | nil => cases B with
        | nil => exact qzx (tPl_ok ks [] (rwL L (j : Int))) ((qb00 (L := L) (B := []) (ks := ks) (m := m) (i := (j : Int)) (X := X) (Y := Y) (p := p) (q := q)).trans (by rw [bcT hlt, qzy hm, ha, bcF (b := !true) rfl, qzy (all1 hi), bcF hh, qzy (all1 him)]; try rfl))
        | cons y B => exact qzx (tPl_ok ks (y :: B) (rwL L (j : Int))) ((qb01 (L := L) (B := (y :: B)) (ks := ks) (m := m) (i := (j : Int)) (X := X) (Y := Y) (p := p) (q := q)).trans (by rw [bcT hlt, qzy hm, ha, bcF (b := !true) rfl, qzy (all1 hv), bcF hh, qzy (all1 him)]; try rfl))
      | cons x P => cases B with
        | nil => exact qzx (tPl_ok ks [] (rwL L (j : Int))) ((qb10 (L := L) (B := []) (P := x :: P) (a := (x :: P).length) (ks := ks) (m := m) (i := (j : Int)) (X := X) (Y := Y) (p := p) (q := q)).trans (by rw [bcT hlt, qzy hm, ha, bcF (b := !true) rfl, qzy (all1 hi), bcF hh, qzy (all1 him), qzy (all1 hp)]; try rfl))
        | cons y B => exact qzx (tPl_ok ks (y :: B) (rwL L (j : Int))) ((qb11 (L := L) (B := (y :: B)) (P := x :: P) (a := (x :: P).length) (ks := ks) (m := m) (i := (j : Int)) (X := X) (Y := Y) (p := p) (q := q)).trans (by rw [bcT hlt, qzy hm, ha, bcF (b := !true) rfl, qzy (all1 hv), bcF hh, qzy (all1 him), qzy (all1 hp)]; try rfl))
theorem last_b : Tri Tryz.prog loopQ (sMof (prB X Y L p q) 4 m (m : Int) (plN L ks0 m).ks (plN L ks0 m).P (plN L ks0 m).B).toA (.exit 2) (sMXof (prB X Y L p q) 4 (plN L ks0 m).P (plN L ks0 m).B).toA 4 := by
  have hlt : decide ((m : Int) < (m : Int)) = false := decide_eq_false (by omega)
  generalize plN L ks0 m = S
  obtain ⟨P, B, ks⟩ := S
  simp only
  cases P with
  | nil => cases B with
    | nil => exact qzx (tPl_ok ks [] (rwL L (m : Int))) ((qb00 (L := L) (B := []) (ks := ks) (m := m) (i := (m : Int)) (X := X) (Y := Y) (p := p) (q := q)).trans (by rw [bcF hlt]; try rfl))
    | cons y B => exact qzx (tPl_ok ks (y :: B) (rwL L (m : Int))) ((qb01 (L := L) (B := (y :: B)) (ks := ks) (m := m) (i := (m : Int)) (X := X) (Y := Y) (p := p) (q := q)).trans (by rw [bcF hlt]; try rfl))
  | cons x P => cases B with
    | nil => exact qzx (tPl_ok ks [] (rwL L (m : Int))) ((qb10 (L := L) (B := []) (P := x :: P) (a := (x :: P).length) (ks := ks) (m := m) (i := (m : Int)) (X := X) (Y := Y) (p := p) (q := q)).trans (by rw [bcF hlt]; try rfl))
    | cons y B => exact qzx (tPl_ok ks (y :: B) (rwL L (m : Int))) ((qb11 (L := L) (B := (y :: B)) (P := x :: P) (a := (x :: P).length) (ks := ks) (m := m) (i := (m : Int)) (X := X) (Y := Y) (p := p) (q := q)).trans (by rw [bcF hlt]; try rfl))
theorem loop_b (h : okU L m) : Tri Tryz.prog (.loop loopQ) (sMof (prB X Y L p q) 4 m 0 ks0 [] []).toA (.exit 2) (sMXof (prB X Y L p q) 4 (plN L ks0 m).P (plN L ks0 m).B).toA 4 :=
  tri_up (body := loopQ) (fun j => (sMof (prB X Y L p q) 4 m (j : Int) (plN L ks0 j).ks (plN L ks0 j).P (plN L ks0 j).B).toA) (fun e => by cases e) m (fun k hk => step_b h hk) last_b 0 (Nat.zero_le _)
end
end Go.Proofs.YtphhepnldndbhaaGreatDoor.Dp
namespace Go.Proofs.YtphhepnldndbhaaGreatDoor.Dp
open Go Sx Go.Proofs.YtphhepnldndbhaaGreatDoor
section
variable (X Y L C : List (List CV)) (ks : List (List Int)) (p q m n : Nat) (i : Int)
theorem tx1 : code (ent Tryz.prog [] nolv 64 1 20) Tryz.prog {} 3 64 1 loopT (sT (prX X L p) 3 (.dsl 1 m) n i C ks) (endK 3 64 kT kTX) = qyw (decide (i < (n : Int))) (chks (some (.normal, sT (prX X L p) 3 (.dsl 1 m) n (up1 i) C (addK ks [c0 (Sx.rowAt C i.toNat), c1 (Sx.rowAt C i.toNat), c2 (Sx.rowAt C i.toNat)]))) (ckR C n i)) (some (.exit 0, sTX (prX X L p) 3 (.dsl 1 m) ks)) := by kernel_rfl
theorem ty1 : code (ent Tryz.prog [] nolv 64 1 20) Tryz.prog {} 3 64 1 loopT (sT (prY Y L q) 3 (.dsl 1 m) n i C ks) (endK 3 64 kT kTX) = qyw (decide (i < (n : Int))) (chks (some (.normal, sT (prY Y L q) 3 (.dsl 1 m) n (up1 i) C (addK ks [c0 (Sx.rowAt C i.toNat), c1 (Sx.rowAt C i.toNat), c2 (Sx.rowAt C i.toNat)]))) (ckR C n i)) (some (.exit 0, sTX (prY Y L q) 3 (.dsl 1 m) ks)) := by kernel_rfl
theorem tb1 : code (ent Tryz.prog [] nolv 64 1 20) Tryz.prog {} 4 64 1 loopT (sT (prB X Y L p q) 4 (.dsl 1 m) n i C ks) (endK 4 64 kT kTX) = qyw (decide (i < (n : Int))) (chks (some (.normal, sT (prB X Y L p q) 4 (.dsl 1 m) n (up1 i) C (addK ks [c0 (Sx.rowAt C i.toNat), c1 (Sx.rowAt C i.toNat), c2 (Sx.rowAt C i.toNat)]))) (ckR C n i)) (some (.exit 0, sTX (prB X Y L p q) 4 (.dsl 1 m) ks)) := by kernel_rfl
end
section
variable {X Y L C : List (List CV)} {p q m : Nat}
theorem lt_tx1 (hn : C.length ≤ 1000) : Tri Tryz.prog (.loop loopT) (sT (prX X L p) 3 (.dsl 1 m) C.length 0 C []).toA (.exit 0) (sTX (prX X L p) 3 (.dsl 1 m) (tkN C C.length)).toA 3 :=
  tri_up (body := loopT) (fun j => (sT (prX X L p) 3 (.dsl 1 m) C.length (j : Int) C (tkN C j)).toA) (fun e => by cases e) C.length (fun j hj => qzx (T := []) .nil ((tx1 (X := X) (p := p) (L := L) (m := m) (C := C) (ks := tkN C j) (n := C.length) (i := (j : Int))).trans (by
    rw [bcT (decide_eq_true (by omega)), qzy (ckR_ok hj), up1_nat (by omega), Int.toNat_natCast]; rfl))) (qzx (T := []) .nil ((tx1 (X := X) (p := p) (L := L) (m := m) (C := C) (ks := tkN C C.length) (n := C.length) (i := (C.length : Int))).trans (by rw [bcF (decide_eq_false (by omega))]))) 0 (Nat.zero_le _)
theorem lt_ty1 (hn : C.length ≤ 1000) : Tri Tryz.prog (.loop loopT) (sT (prY Y L q) 3 (.dsl 1 m) C.length 0 C []).toA (.exit 0) (sTX (prY Y L q) 3 (.dsl 1 m) (tkN C C.length)).toA 3 :=
  tri_up (body := loopT) (fun j => (sT (prY Y L q) 3 (.dsl 1 m) C.length (j : Int) C (tkN C j)).toA) (fun e => by cases e) C.length (fun j hj => qzx (T := []) .nil ((ty1 (Y := Y) (q := q) (L := L) (m := m) (C := C) (ks := tkN C j) (n := C.length) (i := (j : Int))).trans (by
    rw [bcT (decide_eq_true (by omega)), qzy (ckR_ok hj), up1_nat (by omega), Int.toNat_natCast]; rfl))) (qzx (T := []) .nil ((ty1 (Y := Y) (q := q) (L := L) (m := m) (C := C) (ks := tkN C C.length) (n := C.length) (i := (C.length : Int))).trans (by rw [bcF (decide_eq_false (by omega))]))) 0 (Nat.zero_le _)
theorem lt_tb1 (hn : C.length ≤ 1000) : Tri Tryz.prog (.loop loopT) (sT (prB X Y L p q) 4 (.dsl 1 m) C.length 0 C []).toA (.exit 0) (sTX (prB X Y L p q) 4 (.dsl 1 m) (tkN C C.length)).toA 4 :=
  tri_up (body := loopT) (fun j => (sT (prB X Y L p q) 4 (.dsl 1 m) C.length (j : Int) C (tkN C j)).toA) (fun e => by cases e) C.length (fun j hj => qzx (T := []) .nil ((tb1 (X := X) (Y := Y) (p := p) (q := q) (L := L) (m := m) (C := C) (ks := tkN C j) (n := C.length) (i := (j : Int))).trans (by
    rw [bcT (decide_eq_true (by omega)), qzy (ckR_ok hj), up1_nat (by omega), Int.toNat_natCast]; rfl))) (qzx (T := []) .nil ((tb1 (X := X) (Y := Y) (p := p) (q := q) (L := L) (m := m) (C := C) (ks := tkN C C.length) (n := C.length) (i := (C.length : Int))).trans (by rw [bcF (decide_eq_false (by omega))]))) 0 (Nat.zero_le _)
end
end Go.Proofs.YtphhepnldndbhaaGreatDoor.Dp
namespace Go.Proofs.YtphhepnldndbhaaGreatDoor.Dp
open Go Sx Go.Proofs.YtphhepnldndbhaaGreatDoor
noncomputable def tPc (pre : List PObj) (C : List (List CV)) : Tab := [(20, eClq pre C), (27, eAr)]
theorem tPc_ok (pre : List PObj) (C : List (List CV)) : TabOK Tryz.prog (tPc pre C) := .cons (eClq_ok pre C) (.cons eAr_ok .nil)
noncomputable def tPz (pre : List PObj) : Tab := [(20, eClz pre), (27, eAr)]
theorem tPz_ok (pre : List PObj) : TabOK Tryz.prog (tPz pre) := .cons (eClz_ok pre) (.cons eAr_ok .nil)
abbrev plE : AV := .tuple [.qzz, .qzz, .int .i64 140]
section
variable (X Y L C P B : List (List CV)) (ks : List (List Int)) (p q m a b : Nat) (c1 c2 bP bB : Bool)
open Classical in
theorem pl_x : Comes (tPc [oSh (.vec 1 p) .qzz, vC X] C) (lvP2 3 (sT (prX X L p) 3 (.dsl 1 m) C.length 0 C []) (.chk c1 (.out (.exit 0) (sTX (prX X L p) 3 (.dsl 1 m) ks))) (sMof (prX X L p) 3 m 0 ks [] []) (outM (prX X L p) 3 P B a b c2 bP bB)) 14 [bkW, .dsl 1 m] [oSh (.vec 2 p) .qzz, fSp L, vC X]
  (.chk (ckCl [oSh (.vec 1 p) .qzz, vC X] C) (.chk (eqSt (sT (prX X L p) 3 (.dsl 1 m) C.length 0 C []) (sT (prX X L p) 3 (.dsl 1 m) C.length 0 C [])) (.chk c1 (.chk (decide (m ≤ L.length ∧ m ≤ 1000)) (.br (wrgB L ks m) (.ret plE [oSh (.vec 2 p) .qzz, fSp L, vC X]) (.chk (eqSt (sMof (prX X L p) 3 m 0 ks [] []) (sMof (prX X L p) 3 m 0 ks [] [])) (.chk c2 (.br bP (.br bB (.ret (plV .qzz .qzz) [oSh (.vec 2 p) .qzz, fSp L, vC X]) (.ret (plV .qzz (.vec 3 b)) [oSh (.vec 2 p) .qzz, fSp L, vC X, vA B])) (.br bB (.ret (plV (.vec 3 a) .qzz) [oSh (.vec 2 p) .qzz, fSp L, vC X, vS P]) (.ret (plV (.vec 3 a) (.vec 4 b)) [oSh (.vec 2 p) .qzz, fSp L, vC X, vS P, vA B])))))))))) := by unfold Comes; kernel_rfl
open Classical in
theorem pl_y : Comes (tPc [oSh .qzz (.vec 1 q), vC Y] C) (lvP2 3 (sT (prY Y L q) 3 (.dsl 1 m) C.length 0 C []) (.chk c1 (.out (.exit 0) (sTX (prY Y L q) 3 (.dsl 1 m) ks))) (sMof (prY Y L q) 3 m 0 ks [] []) (outM (prY Y L q) 3 P B a b c2 bP bB)) 14 [bkW, .dsl 1 m] [oSh .qzz (.vec 2 q), fSp L, vC Y]
  (.chk (ckCl [oSh .qzz (.vec 1 q), vC Y] C) (.chk (eqSt (sT (prY Y L q) 3 (.dsl 1 m) C.length 0 C []) (sT (prY Y L q) 3 (.dsl 1 m) C.length 0 C [])) (.chk c1 (.chk (decide (m ≤ L.length ∧ m ≤ 1000)) (.br (wrgB L ks m) (.ret plE [oSh .qzz (.vec 2 q), fSp L, vC Y]) (.chk (eqSt (sMof (prY Y L q) 3 m 0 ks [] []) (sMof (prY Y L q) 3 m 0 ks [] [])) (.chk c2 (.br bP (.br bB (.ret (plV .qzz .qzz) [oSh .qzz (.vec 2 q), fSp L, vC Y]) (.ret (plV .qzz (.vec 3 b)) [oSh .qzz (.vec 2 q), fSp L, vC Y, vA B])) (.br bB (.ret (plV (.vec 3 a) .qzz) [oSh .qzz (.vec 2 q), fSp L, vC Y, vS P]) (.ret (plV (.vec 3 a) (.vec 4 b)) [oSh .qzz (.vec 2 q), fSp L, vC Y, vS P, vA B])))))))))) := by unfold Comes; kernel_rfl
open Classical in
theorem pl_b : Comes (tPc [oSh (.vec 1 p) (.vec 2 q), vC X, vC Y] C) (lvP2 4 (sT (prB X Y L p q) 4 (.dsl 1 m) C.length 0 C []) (.chk c1 (.out (.exit 0) (sTX (prB X Y L p q) 4 (.dsl 1 m) ks))) (sMof (prB X Y L p q) 4 m 0 ks [] []) (outM (prB X Y L p q) 4 P B a b c2 bP bB)) 14 [bkW, .dsl 1 m] [oSh (.vec 2 p) (.vec 3 q), fSp L, vC X, vC Y]
  (.chk (ckCl [oSh (.vec 1 p) (.vec 2 q), vC X, vC Y] C) (.chk (eqSt (sT (prB X Y L p q) 4 (.dsl 1 m) C.length 0 C []) (sT (prB X Y L p q) 4 (.dsl 1 m) C.length 0 C [])) (.chk c1 (.chk (decide (m ≤ L.length ∧ m ≤ 1000)) (.br (wrgB L ks m) (.ret plE [oSh (.vec 2 p) (.vec 3 q), fSp L, vC X, vC Y]) (.chk (eqSt (sMof (prB X Y L p q) 4 m 0 ks [] []) (sMof (prB X Y L p q) 4 m 0 ks [] [])) (.chk c2 (.br bP (.br bB (.ret (plV .qzz .qzz) [oSh (.vec 2 p) (.vec 3 q), fSp L, vC X, vC Y]) (.ret (plV .qzz (.vec 4 b)) [oSh (.vec 2 p) (.vec 3 q), fSp L, vC X, vC Y, vA B])) (.br bB (.ret (plV (.vec 4 a) .qzz) [oSh (.vec 2 p) (.vec 3 q), fSp L, vC X, vC Y, vS P]) (.ret (plV (.vec 4 a) (.vec 5 b)) [oSh (.vec 2 p) (.vec 3 q), fSp L, vC X, vC Y, vS P, vA B])))))))))) := by unfold Comes; kernel_rfl
def pr0 : List (Option PObj) := [some (oSh .qzz .qzz), some (fSp L)]
noncomputable def lvP0 : FuncId → Lv := lvOf 14 (fun i => if i = 15 then some [9, 12, 13, 41, 42, 43] else none) (oneL 15 (eAt 2 (sMof (pr0 L) 2 m 0 [] [] []) (outC c2 (.exit 2) (sMX (pr0 L) .qzz 2 [some (oP1 .qzz 22)]))))
open Classical in
theorem pl_0 : Comes (tPz [oSh .qzz .qzz]) (lvP0 L m c2) 14 [bkW, .dsl 1 m] [oSh .qzz .qzz, fSp L]
  (.chk (ckClz [oSh .qzz .qzz]) (.chk (decide (m ≤ L.length ∧ m ≤ 1000)) (.br (wrgB L [] m) (.ret plE [oSh .qzz .qzz, fSp L]) (.chk (eqSt (sMof (pr0 L) 2 m 0 [] [] []) (sMof (pr0 L) 2 m 0 [] [] [])) (.chk c2 (.ret (plV .qzz .qzz) [oSh .qzz .qzz, fSp L])))))) := by unfold Comes; kernel_rfl
theorem q0 : code (ent Tryz.prog [] nolv 64 1 20) Tryz.prog {} 2 64 1 loopQ (sMof (pr0 L) 2 0 0 [] [] []) (endK 2 64 kM kMX) = some (.exit 2, sMX (pr0 L) .qzz 2 [some (oP1 .qzz 22)]) := by kernel_rfl
end
end Go.Proofs.YtphhepnldndbhaaGreatDoor.Dp
namespace Go.Proofs.YtphhepnldndbhaaGreatDoor.Dp
open Go Sx Go.Proofs.YtphhepnldndbhaaGreatDoor
def plP (C L : List (List CV)) (m : Nat) : List (List CV) := (plN L (tkN C C.length) m).P
def plB (C L : List (List CV)) (m : Nat) : List (List CV) := (plN L (tkN C C.length) m).B
theorem wrg_none {L : List (List CV)} {ks : List (List Int)} {m : Nat} (h : wrgB L ks m = false) {j : Nat} (hj : j < m) : badR L ks j = false := anyN_none h j hj
theorem bad_none {L : List (List CV)} {ks : List (List Int)} {j : Nat} (h : badR L ks j = false) : (1 ≤ c3 (Sx.rowAt L j) ∧ c3 (Sx.rowAt L j) ≤ 400) ∧ (1 ≤ c4 (Sx.rowAt L j) ∧ c4 (Sx.rowAt L j) ≤ 400) ∧ keyR (Sx.rowAt L j) ∈ ks ∧ ∀ k, j = k + 1 → cmP (c0 (Sx.rowAt L k)) (c1 (Sx.rowAt L k)) (c2 (Sx.rowAt L k)) (c0 (Sx.rowAt L j)) (c1 (Sx.rowAt L j)) (c2 (Sx.rowAt L j)) < 0 := by
  unfold badR at h
  by_cases h3 : c3 (Sx.rowAt L j) < 1
  · rw [bcT (decide_eq_true h3)] at h; cases h
  rw [bcF (decide_eq_false h3)] at h
  by_cases h4 : c4 (Sx.rowAt L j) < 1
  · rw [bcT (decide_eq_true h4)] at h; cases h
  rw [bcF (decide_eq_false h4)] at h
  by_cases h5 : c4 (Sx.rowAt L j) > w64 (Int.tdiv 400 (c3 (Sx.rowAt L j)))
  · rw [bcT (decide_eq_true h5)] at h; cases h
  rw [bcF (decide_eq_false h5)] at h
  have e : Int.tdiv 400 (c3 (Sx.rowAt L j)) = 400 / c3 (Sx.rowAt L j) := Int.tdiv_eq_ediv_of_nonneg (by decide)
  have b1 : 400 / c3 (Sx.rowAt L j) ≤ 400 := Int.ediv_le_self _ (by decide)
  have b0 : 0 ≤ 400 / c3 (Sx.rowAt L j) := Int.ediv_nonneg (by decide) (by omega)
  rw [e, qxy (by omega) (by omega)] at h5
  have b2 : c3 (Sx.rowAt L j) ≤ 400 := by
    by_cases hh : 400 < c3 (Sx.rowAt L j)
    · have := Int.ediv_eq_zero_of_lt (a := 400) (b := c3 (Sx.rowAt L j)) (by decide) hh
      omega
    · omega
  cases hm : memK ks [c0 (Sx.rowAt L j), c1 (Sx.rowAt L j), c2 (Sx.rowAt L j)] with
  | false => rw [hm] at h; cases h
  | true =>
    rw [hm, bcF (b := !true) rfl] at h
    refine ⟨⟨by omega, b2⟩, ⟨by omega, by omega⟩, memK_iff.1 hm, fun k hk => ?_⟩
    subst hk
    rw [bcT (decide_eq_true (Nat.succ_pos k)), show k + 1 - 1 = k by omega] at h
    have := of_decide_eq_false h
    omega
theorem lvP2_ok {K : Nat} {S6 S15 : qzw} {x6 x15 : LAns} (h6 : LAnsOK Tryz.prog loopT K S6 x6) (h15 : LAnsOK Tryz.prog loopQ K S15 x15) : LvOK Tryz.prog (lvP2 K S6 x6 S15 x15) := Go.Proofs.YtphhepnldndbhaaGreatDoor.lvP2_ok h6 h15
theorem okU_of {X Y L : List (List CV)} {m : Nat} (hb : okBk X Y) (h1 : m ≤ L.length) (h2 : m ≤ 400) (h : wrgB L (tkN (clL X Y) (clL X Y).length) m = false) : okU L m := by
  refine ⟨h1, h2, fun j hj => ?_⟩
  obtain ⟨k3, k4, hk, _⟩ := bad_none (wrg_none h hj)
  refine ⟨k3, k4, ?_⟩
  obtain ⟨i, hi, e⟩ := (mem_tkN _).1 hk
  have hin : ∃ s Z i', (Z = X ∨ Z = Y) ∧ i' < Z.length ∧ Sx.rowAt (clL X Y) i = mkA s (c0 (Sx.rowAt Z i')) (c1 (Sx.rowAt Z i')) := by
    have hmem : Sx.rowAt (clL X Y) i ∈ clL X Y := row_mem hi
    unfold clL at hmem
    rcases List.mem_append.1 hmem with h | h
    · obtain ⟨i', hi', e'⟩ := (mem_colL _).1 h
      exact ⟨_, X, i', .inl rfl, hi', e'⟩
    · obtain ⟨i', hi', e'⟩ := (mem_colL _).1 h
      exact ⟨_, Y, i', .inr rfl, hi', e'⟩
  obtain ⟨s, Z, i', hZ, hi', e'⟩ := hin
  have hw : okW Z := by
    rcases hZ with rfl | rfl
    · exact hb.1
    · exact hb.2.1
  have hcell := (hw.2 i' hi').1
  rw [e'] at e
  simp only [keyR, List.cons.injEq, and_true] at e
  have e1 : c1 (Sx.rowAt L j) = c0 (Sx.rowAt Z i') := e.2.1
  have e2 : c2 (Sx.rowAt L j) = c1 (Sx.rowAt Z i') := e.2.2
  have hh : hasB 0 0 0 200 52 0 (c0 (Sx.rowAt Z i')) (c1 (Sx.rowAt Z i')) = true := hcell
  unfold hasB hasC at hh
  rw [allB_iff] at hh
  simp only [List.mem_cons, List.not_mem_nil, or_false, forall_eq_or_imp, forall_eq, decide_eq_true_eq] at hh
  have q1 : w64 (0 + 200) = 200 := by decide
  have q2 : w64 (0 + 52) = 52 := by decide
  rw [q1, q2] at hh
  rw [e1, e2]
  exact ⟨inI_iff.2 ⟨by omega, by omega⟩, inI_iff.2 ⟨by omega, by omega⟩⟩
open Classical in
theorem pm_x {x : List CV} {X : List (List CV)} {L : List (List CV)} {m : Nat} (h : okBk (x :: X) ([])) (h1 : m ≤ L.length) (h2 : m ≤ 400) (hs : wrgB L (tkN (clL (x :: X) ([])) (clL (x :: X) ([])).length) m = false) : Meets Tryz.prog 14 [bkW, .dsl 1 m] ([oSh (.vec 2 (x :: X).length) .qzz, fSp L, vC (x :: X)].map PObj.toA) (plV (plR 3 (plP (clL (x :: X) ([])) L m)) (clR (3 + (plO (plP (clL (x :: X) ([])) L m)).length) (plB (clL (x :: X) ([])) L m))) (([oSh (.vec 2 (x :: X).length) .qzz, fSp L, vC (x :: X)] ++ plO (plP (clL (x :: X) ([])) L m) ++ clO (plB (clL (x :: X) ([])) L m)).map PObj.toA) := by
  have ht := okU_of h h1 h2 hs
  have hc := cm_x h
  have hl := clL_le h
  have lo := loop_x (X := x :: X) (p := (x :: X).length) (ks0 := tkN (clL (x :: X) ([])) (clL (x :: X) ([])).length) ht
  have lt := lt_tx1 (X := x :: X) (p := (x :: X).length) (m := m) (L := L) hl
  have e1 : (plN L (tkN (clL (x :: X) ([])) (clL (x :: X) ([])).length) m).P = plP (clL (x :: X) ([])) L m := rfl
  have e2 : (plN L (tkN (clL (x :: X) ([])) (clL (x :: X) ([])).length) m).B = plB (clL (x :: X) ([])) L m := rfl
  rw [e1, e2] at lo
  generalize plP (clL (x :: X) ([])) L m = P at *
  generalize plB (clL (x :: X) ([])) L m = B at *
  generalize (clL (x :: X) ([])) = C at *
  have key := pl_x (x :: X) L C P B (tkN C C.length) (x :: X).length m P.length B.length true true (isNil P) (isNil B)
  refine qyx (pre := [oSh (.vec 2 (x :: X).length) .qzz, fSp L, vC (x :: X)]) (post := [oSh (.vec 2 (x :: X).length) .qzz, fSp L, vC (x :: X)] ++ plO P ++ clO B) (tPc_ok [oSh (.vec 1 (x :: X).length) .qzz, vC (x :: X)] C) host (key.trans ?_) (lvP2_ok ⟨fun _ => lt, fun _ => trivial⟩ (outM_ok lo))
  have hck : ckCl [oSh (.vec 1 (x :: X).length) .qzz, vC (x :: X)] C = true := decide_eq_true ⟨⟨rfl, rfl⟩, hc⟩
  rw [chkT hck, chkT (qzt _), chkT rfl, chkT (decide_eq_true ⟨h1, by omega⟩), brF hs, chkT (qzt _), chkT rfl]
  cases P <;> cases B <;> rfl
open Classical in
theorem pe_x {x : List CV} {X : List (List CV)} {L : List (List CV)} {m : Nat} (h : okBk (x :: X) ([])) (h1 : m ≤ L.length) (h2 : m ≤ 400) (hs : wrgB L (tkN (clL (x :: X) ([])) (clL (x :: X) ([])).length) m = true) : Meets Tryz.prog 14 [bkW, .dsl 1 m] ([oSh (.vec 2 (x :: X).length) .qzz, fSp L, vC (x :: X)].map PObj.toA) plE ([oSh (.vec 2 (x :: X).length) .qzz, fSp L, vC (x :: X)].map PObj.toA) := by
  have hc := cm_x h
  have hl := clL_le h
  have lt := lt_tx1 (X := x :: X) (p := (x :: X).length) (m := m) (L := L) hl
  generalize (clL (x :: X) ([])) = C at *
  have key := pl_x (x :: X) L C [] [] (tkN C C.length) (x :: X).length m 0 0 true false true true
  refine qyx (pre := [oSh (.vec 2 (x :: X).length) .qzz, fSp L, vC (x :: X)]) (post := [oSh (.vec 2 (x :: X).length) .qzz, fSp L, vC (x :: X)]) (tPc_ok [oSh (.vec 1 (x :: X).length) .qzz, vC (x :: X)] C) host (key.trans ?_) (lvP2_ok ⟨fun _ => lt, fun _ => trivial⟩ ⟨(fun e => by cases e), fun _ => trivial⟩)
  have hck : ckCl [oSh (.vec 1 (x :: X).length) .qzz, vC (x :: X)] C = true := decide_eq_true ⟨⟨rfl, rfl⟩, hc⟩
  rw [chkT hck, chkT (qzt _), chkT rfl, chkT (decide_eq_true ⟨h1, by omega⟩), brT hs]; rfl
open Classical in
theorem pm_y {y : List CV} {Y : List (List CV)} {L : List (List CV)} {m : Nat} (h : okBk ([]) (y :: Y)) (h1 : m ≤ L.length) (h2 : m ≤ 400) (hs : wrgB L (tkN (clL ([]) (y :: Y)) (clL ([]) (y :: Y)).length) m = false) : Meets Tryz.prog 14 [bkW, .dsl 1 m] ([oSh .qzz (.vec 2 (y :: Y).length), fSp L, vC (y :: Y)].map PObj.toA) (plV (plR 3 (plP (clL ([]) (y :: Y)) L m)) (clR (3 + (plO (plP (clL ([]) (y :: Y)) L m)).length) (plB (clL ([]) (y :: Y)) L m))) (([oSh .qzz (.vec 2 (y :: Y).length), fSp L, vC (y :: Y)] ++ plO (plP (clL ([]) (y :: Y)) L m) ++ clO (plB (clL ([]) (y :: Y)) L m)).map PObj.toA) := by
  have ht := okU_of h h1 h2 hs
  have hc := cm_y h
  have hl := clL_le h
  have lo := loop_y (Y := y :: Y) (q := (y :: Y).length) (ks0 := tkN (clL ([]) (y :: Y)) (clL ([]) (y :: Y)).length) ht
  have lt := lt_ty1 (Y := y :: Y) (q := (y :: Y).length) (m := m) (L := L) hl
  have e1 : (plN L (tkN (clL ([]) (y :: Y)) (clL ([]) (y :: Y)).length) m).P = plP (clL ([]) (y :: Y)) L m := rfl
  have e2 : (plN L (tkN (clL ([]) (y :: Y)) (clL ([]) (y :: Y)).length) m).B = plB (clL ([]) (y :: Y)) L m := rfl
  rw [e1, e2] at lo
  generalize plP (clL ([]) (y :: Y)) L m = P at *
  generalize plB (clL ([]) (y :: Y)) L m = B at *
  generalize (clL ([]) (y :: Y)) = C at *
  have key := pl_y (y :: Y) L C P B (tkN C C.length) (y :: Y).length m P.length B.length true true (isNil P) (isNil B)
  refine qyx (pre := [oSh .qzz (.vec 2 (y :: Y).length), fSp L, vC (y :: Y)]) (post := [oSh .qzz (.vec 2 (y :: Y).length), fSp L, vC (y :: Y)] ++ plO P ++ clO B) (tPc_ok [oSh .qzz (.vec 1 (y :: Y).length), vC (y :: Y)] C) host (key.trans ?_) (lvP2_ok ⟨fun _ => lt, fun _ => trivial⟩ (outM_ok lo))
  have hck : ckCl [oSh .qzz (.vec 1 (y :: Y).length), vC (y :: Y)] C = true := decide_eq_true ⟨⟨rfl, rfl⟩, hc⟩
  rw [chkT hck, chkT (qzt _), chkT rfl, chkT (decide_eq_true ⟨h1, by omega⟩), brF hs, chkT (qzt _), chkT rfl]
  cases P <;> cases B <;> rfl
open Classical in
theorem pe_y {y : List CV} {Y : List (List CV)} {L : List (List CV)} {m : Nat} (h : okBk ([]) (y :: Y)) (h1 : m ≤ L.length) (h2 : m ≤ 400) (hs : wrgB L (tkN (clL ([]) (y :: Y)) (clL ([]) (y :: Y)).length) m = true) : Meets Tryz.prog 14 [bkW, .dsl 1 m] ([oSh .qzz (.vec 2 (y :: Y).length), fSp L, vC (y :: Y)].map PObj.toA) plE ([oSh .qzz (.vec 2 (y :: Y).length), fSp L, vC (y :: Y)].map PObj.toA) := by
  have hc := cm_y h
  have hl := clL_le h
  have lt := lt_ty1 (Y := y :: Y) (q := (y :: Y).length) (m := m) (L := L) hl
  generalize (clL ([]) (y :: Y)) = C at *
  have key := pl_y (y :: Y) L C [] [] (tkN C C.length) (y :: Y).length m 0 0 true false true true
  refine qyx (pre := [oSh .qzz (.vec 2 (y :: Y).length), fSp L, vC (y :: Y)]) (post := [oSh .qzz (.vec 2 (y :: Y).length), fSp L, vC (y :: Y)]) (tPc_ok [oSh .qzz (.vec 1 (y :: Y).length), vC (y :: Y)] C) host (key.trans ?_) (lvP2_ok ⟨fun _ => lt, fun _ => trivial⟩ ⟨(fun e => by cases e), fun _ => trivial⟩)
  have hck : ckCl [oSh .qzz (.vec 1 (y :: Y).length), vC (y :: Y)] C = true := decide_eq_true ⟨⟨rfl, rfl⟩, hc⟩
  rw [chkT hck, chkT (qzt _), chkT rfl, chkT (decide_eq_true ⟨h1, by omega⟩), brT hs]; rfl
open Classical in
theorem pm_b {x : List CV} {X : List (List CV)} {y : List CV} {Y : List (List CV)} {L : List (List CV)} {m : Nat} (h : okBk (x :: X) (y :: Y)) (h1 : m ≤ L.length) (h2 : m ≤ 400) (hs : wrgB L (tkN (clL (x :: X) (y :: Y)) (clL (x :: X) (y :: Y)).length) m = false) : Meets Tryz.prog 14 [bkW, .dsl 1 m] ([oSh (.vec 2 (x :: X).length) (.vec 3 (y :: Y).length), fSp L, vC (x :: X), vC (y :: Y)].map PObj.toA) (plV (plR 4 (plP (clL (x :: X) (y :: Y)) L m)) (clR (4 + (plO (plP (clL (x :: X) (y :: Y)) L m)).length) (plB (clL (x :: X) (y :: Y)) L m))) (([oSh (.vec 2 (x :: X).length) (.vec 3 (y :: Y).length), fSp L, vC (x :: X), vC (y :: Y)] ++ plO (plP (clL (x :: X) (y :: Y)) L m) ++ clO (plB (clL (x :: X) (y :: Y)) L m)).map PObj.toA) := by
  have ht := okU_of h h1 h2 hs
  have hc := cm_b h
  have hl := clL_le h
  have lo := loop_b (X := x :: X) (Y := y :: Y) (p := (x :: X).length) (q := (y :: Y).length) (ks0 := tkN (clL (x :: X) (y :: Y)) (clL (x :: X) (y :: Y)).length) ht
  have lt := lt_tb1 (X := x :: X) (Y := y :: Y) (p := (x :: X).length) (q := (y :: Y).length) (m := m) (L := L) hl
  have e1 : (plN L (tkN (clL (x :: X) (y :: Y)) (clL (x :: X) (y :: Y)).length) m).P = plP (clL (x :: X) (y :: Y)) L m := rfl
  have e2 : (plN L (tkN (clL (x :: X) (y :: Y)) (clL (x :: X) (y :: Y)).length) m).B = plB (clL (x :: X) (y :: Y)) L m := rfl
  rw [e1, e2] at lo
  generalize plP (clL (x :: X) (y :: Y)) L m = P at *
  generalize plB (clL (x :: X) (y :: Y)) L m = B at *
  generalize (clL (x :: X) (y :: Y)) = C at *
  have key := pl_b (x :: X) (y :: Y) L C P B (tkN C C.length) (x :: X).length (y :: Y).length m P.length B.length true true (isNil P) (isNil B)
  refine qyx (pre := [oSh (.vec 2 (x :: X).length) (.vec 3 (y :: Y).length), fSp L, vC (x :: X), vC (y :: Y)]) (post := [oSh (.vec 2 (x :: X).length) (.vec 3 (y :: Y).length), fSp L, vC (x :: X), vC (y :: Y)] ++ plO P ++ clO B) (tPc_ok [oSh (.vec 1 (x :: X).length) (.vec 2 (y :: Y).length), vC (x :: X), vC (y :: Y)] C) host (key.trans ?_) (lvP2_ok ⟨fun _ => lt, fun _ => trivial⟩ (outM_ok lo))
  have hck : ckCl [oSh (.vec 1 (x :: X).length) (.vec 2 (y :: Y).length), vC (x :: X), vC (y :: Y)] C = true := decide_eq_true ⟨⟨rfl, rfl⟩, hc⟩
  rw [chkT hck, chkT (qzt _), chkT rfl, chkT (decide_eq_true ⟨h1, by omega⟩), brF hs, chkT (qzt _), chkT rfl]
  cases P <;> cases B <;> rfl
open Classical in
theorem pe_b {x : List CV} {X : List (List CV)} {y : List CV} {Y : List (List CV)} {L : List (List CV)} {m : Nat} (h : okBk (x :: X) (y :: Y)) (h1 : m ≤ L.length) (h2 : m ≤ 400) (hs : wrgB L (tkN (clL (x :: X) (y :: Y)) (clL (x :: X) (y :: Y)).length) m = true) : Meets Tryz.prog 14 [bkW, .dsl 1 m] ([oSh (.vec 2 (x :: X).length) (.vec 3 (y :: Y).length), fSp L, vC (x :: X), vC (y :: Y)].map PObj.toA) plE ([oSh (.vec 2 (x :: X).length) (.vec 3 (y :: Y).length), fSp L, vC (x :: X), vC (y :: Y)].map PObj.toA) := by
  have hc := cm_b h
  have hl := clL_le h
  have lt := lt_tb1 (X := x :: X) (Y := y :: Y) (p := (x :: X).length) (q := (y :: Y).length) (m := m) (L := L) hl
  generalize (clL (x :: X) (y :: Y)) = C at *
  have key := pl_b (x :: X) (y :: Y) L C [] [] (tkN C C.length) (x :: X).length (y :: Y).length m 0 0 true false true true
  refine qyx (pre := [oSh (.vec 2 (x :: X).length) (.vec 3 (y :: Y).length), fSp L, vC (x :: X), vC (y :: Y)]) (post := [oSh (.vec 2 (x :: X).length) (.vec 3 (y :: Y).length), fSp L, vC (x :: X), vC (y :: Y)]) (tPc_ok [oSh (.vec 1 (x :: X).length) (.vec 2 (y :: Y).length), vC (x :: X), vC (y :: Y)] C) host (key.trans ?_) (lvP2_ok ⟨fun _ => lt, fun _ => trivial⟩ ⟨(fun e => by cases e), fun _ => trivial⟩)
  have hck : ckCl [oSh (.vec 1 (x :: X).length) (.vec 2 (y :: Y).length), vC (x :: X), vC (y :: Y)] C = true := decide_eq_true ⟨⟨rfl, rfl⟩, hc⟩
  rw [chkT hck, chkT (qzt _), chkT rfl, chkT (decide_eq_true ⟨h1, by omega⟩), brT hs]; rfl
theorem cells_0 : Meets Tryz.prog 20 [bkW] ([oSh .qzz .qzz].map PObj.toA) (clV .qzz) ([oSh .qzz .qzz].map PObj.toA) := by
  have hw : okW [] := ⟨by decide, fun j hj => absurd hj (Nat.not_lt_zero j)⟩
  exact cells_meets (X := []) (Y := []) ⟨hw, hw, by decide⟩
theorem lvP0_ok {L : List (List CV)} {m : Nat} {c2 : Bool} (h : c2 = true → m = 0) : LvOK Tryz.prog (lvP0 L m c2) := lvOf_ok Tryz.func14 fun y hy id en hid he => by
  obtain ⟨rfl, rfl⟩ := oneL_some he
  have e2 : qyu (bodyOf Tryz.f14) = [loopT, loopQ] := by kernel_rfl
  rw [e2] at hy
  rcases List.mem_cons.1 hy with rfl | hy
  · have h9 : (headReg loopT == some 15) = false := by kernel_rfl
    exact absurd hid (fun e => by rw [e] at h9; exact absurd h9 (by decide))
  · obtain rfl := List.mem_singleton.1 hy
    refine fun K' t => eAt_ok (outC_ok fun hc => ?_) K' t
    obtain rfl := h hc
    exact tri_up (body := loopQ) (fun _ => (sMof (pr0 L) 2 0 0 [] [] []).toA) (fun e => by cases e) 0 (fun j hj => absurd hj (Nat.not_lt_zero j)) (qzx (T := []) .nil (q0 L)) 0 (Nat.le_refl _)
theorem wrg_zero {L : List (List CV)} {m : Nat} (h : wrgB L [] m = false) : m = 0 := by
  rcases Nat.eq_zero_or_pos m with e | e
  · exact e
  · obtain ⟨_, _, h, _⟩ := bad_none (wrg_none h e)
    exact nomatch h
open Classical in
theorem pm_0 {L : List (List CV)} {m : Nat} (h1 : m ≤ L.length) (h2 : m ≤ 400) (hs : wrgB L [] m = false) : Meets Tryz.prog 14 [bkW, .dsl 1 m] ([oSh .qzz .qzz, fSp L].map PObj.toA) (plV .qzz .qzz) ([oSh .qzz .qzz, fSp L].map PObj.toA) := by
  refine qyx (pre := [oSh .qzz .qzz, fSp L]) (post := [oSh .qzz .qzz, fSp L]) (tPz_ok [oSh .qzz .qzz]) host ((pl_0 L m true).trans ?_) (lvP0_ok fun _ => wrg_zero hs)
  have hck : ckClz [oSh .qzz .qzz] = true := decide_eq_true ⟨⟨rfl, rfl⟩, cells_0⟩
  rw [chkT hck, chkT (decide_eq_true ⟨h1, by omega⟩), brF hs, chkT (qzt _), chkT rfl]; rfl
open Classical in
theorem pe_0 {L : List (List CV)} {m : Nat} (h1 : m ≤ L.length) (h2 : m ≤ 400) (hs : wrgB L [] m = true) : Meets Tryz.prog 14 [bkW, .dsl 1 m] ([oSh .qzz .qzz, fSp L].map PObj.toA) plE ([oSh .qzz .qzz, fSp L].map PObj.toA) := by
  refine qyx (pre := [oSh .qzz .qzz, fSp L]) (post := [oSh .qzz .qzz, fSp L]) (tPz_ok [oSh .qzz .qzz]) host ((pl_0 L m false).trans ?_) (lvP0_ok fun e => by cases e)
  have hck : ckClz [oSh .qzz .qzz] = true := decide_eq_true ⟨⟨rfl, rfl⟩, cells_0⟩
  rw [chkT hck, chkT (decide_eq_true ⟨h1, by omega⟩), brT hs]; rfl
end Go.Proofs.YtphhepnldndbhaaGreatDoor.Dp
namespace Go.Proofs.YtphhepnldndbhaaGreatDoor.Dp
open Go Sx Go.Proofs.YtphhepnldndbhaaGreatDoor
def rF : Ans := .ret (.bool false) []
theorem isD_comes (s r c h w : Int) : Comes [] nolv 50 [aA s r c h w] [] (.br (decide (s < 0)) rF (.br (decide (s > 7)) rF (.br (decide (r < 0)) rF (.br (decide (r > 199)) rF (.br (decide (c < 0)) rF (.br (decide (c > 51)) rF (andT [] [decide (h ≥ 1), decide (h ≤ w64 (200 - r)), decide (w ≥ 1), decide (w ≤ w64 (52 - c))]))))))) := by unfold Comes; kernel_rfl
def eIsD : Ent := fun args pre => match args, pre with
  | [.agg [.int .i64 s, .int .i64 r, .int .i64 c, .int .i64 h, .int .i64 w]], [] => .chk (inI r && inI c) (.ret (.bool (areaB s r c h w)) [])
  | _, _ => .fail
theorem eIsD_ok : EntOK Tryz.prog 50 eIsD := fun args pre => by
  unfold eIsD
  split
  · rename_i s r c h w
    refine of_run (ans_comes .nil (isD_comes s r c h w)) fun x hx => ?_
    obtain ⟨h1, hx⟩ := chk_run hx
    rw [Bool.and_eq_true] at h1
    have key := areaB_iff (s := s) (h := h) (w := w) h1.1 h1.2
    rw [← hx]
    unfold rF
    simp only [Ans.run]
    have no : ¬ (areaB s r c h w = true) → pure2 (.bool false) [] = pure2 (.bool (areaB s r c h w)) [] := fun e => by rw [Bool.eq_false_iff.2 e]
    by_cases k1 : s < 0
    · rw [bcT (decide_eq_true k1)]; exact no fun e => by have := key.1 e; omega
    rw [bcF (decide_eq_false k1)]
    by_cases k2 : s > 7
    · rw [bcT (decide_eq_true k2)]; exact no fun e => by have := key.1 e; omega
    rw [bcF (decide_eq_false k2)]
    by_cases k3 : r < 0
    · rw [bcT (decide_eq_true k3)]; exact no fun e => by have := key.1 e; omega
    rw [bcF (decide_eq_false k3)]
    by_cases k4 : r > 199
    · rw [bcT (decide_eq_true k4)]; exact no fun e => by have := key.1 e; omega
    rw [bcF (decide_eq_false k4)]
    by_cases k5 : c < 0
    · rw [bcT (decide_eq_true k5)]; exact no fun e => by have := key.1 e; omega
    rw [bcF (decide_eq_false k5)]
    by_cases k6 : c > 51
    · rw [bcT (decide_eq_true k6)]; exact no fun e => by have := key.1 e; omega
    rw [bcF (decide_eq_false k6), andT_run]
    congr 2
    rw [qxy (by omega) (by omega), qxy (by omega) (by omega), Bool.eq_iff_iff, key, allB_iff]
    simp only [List.mem_cons, List.not_mem_nil, or_false, forall_eq_or_imp, forall_eq, decide_eq_true_eq]
    omega
  · trivial
def tDa : Tab := [(50, eIsD)]
theorem tDa_ok : TabOK Tryz.prog tDa := .cons eIsD_ok .nil
theorem hasD_comes (s r c h w s' r' c' : Int) : Comes tDa nolv 34 [aA s r c h w, aP s' r' c'] [] (.chk (inI r && inI c) (andT [] [areaB s r c h w, s' == s, decide (r' ≥ r), decide (r' < w64 (r + h)), decide (c' ≥ c), decide (c' < w64 (c + w))])) := by unfold Comes; kernel_rfl
def eHasD : Ent := fun args pre => match args, pre with
  | [.agg [.int .i64 s, .int .i64 r, .int .i64 c, .int .i64 h, .int .i64 w], .agg [.int .i64 s', .int .i64 r', .int .i64 c']], [] => .chk (inI r && inI c) (.ret (.bool (hasB s r c h w s' r' c')) [])
  | _, _ => .fail
theorem eHasD_ok : EntOK Tryz.prog 34 eHasD := fun args pre => by
  unfold eHasD
  split
  · rename_i s r c h w s' r' c'
    refine of_run (ans_comes tDa_ok (hasD_comes s r c h w s' r' c')) fun x hx => ?_
    obtain ⟨h1, hx⟩ := chk_run hx
    rw [← hx]
    show qyw (inI r && inI c) _ _ = _
    rw [bcT h1, andT_run]
    have e : allB [areaB s r c h w, s' == s, decide (r' ≥ r), decide (r' < w64 (r + h)), decide (c' ≥ c), decide (c' < w64 (c + w))] = hasB s r c h w s' r' c' := by
      unfold hasB hasC
      rw [Bool.eq_iff_iff, allB_iff, allB_iff]
      simp only [List.mem_cons, List.not_mem_nil, or_false, forall_eq_or_imp, forall_eq, decide_eq_true_eq, Bool.not_eq_true', bne_eq_false_iff_eq, beq_iff_eq]
      constructor
      · rintro ⟨a, b, c⟩; exact ⟨a, b.symm, c⟩
      · rintro ⟨a, b, c⟩; exact ⟨a, b.symm, c⟩
    rw [e]; rfl
  · trivial
end Go.Proofs.YtphhepnldndbhaaGreatDoor.Dp
namespace Go.Proofs.YtphhepnldndbhaaGreatDoor.Dp
open Go Sx Go.Proofs.YtphhepnldndbhaaGreatDoor
abbrev fMt : FuncId := 51
noncomputable abbrev loopM1 : Code := (qyu (bodyOf Tryz.f51)).headD .skip
noncomputable abbrev loopM2 : Code := ((qyu (bodyOf Tryz.f51)).drop 1).headD .skip
section
variable (s r c h w s' r' c' h' w' p q : Int)
def sMt (p q : Int) : qzw := ⟨nn 2 ++ (some (.ptr 0 0) :: some (.ptr 1 0) :: some (.ptr 2 0) :: nn 3 ++ (some (.ptr 3 0) :: nn 83)), some (a5 s r c h w) :: some (a5 s' r' c' h' w') :: some (a5 0 0 0 0 0) :: some (a5 s (mxI r r') (mxI c c') p q) :: nn 64⟩
abbrev kMt : Nat → Bool := fun n => hasN [2, 3, 4, 8] n
theorem rM1 : code (ent Tryz.prog tDa nolv 64 1 20) Tryz.prog {} 0 64 1 loopM1 (sMt s r c h w s' r' c' h' w' p q) (endK 0 64 kMt kMt) = qyw (decide (w64 (mxI r r' + p) < mnI (w64 (r + h)) (w64 (r' + h')))) (some (.normal, sMt s r c h w s' r' c' h' w' (up1 p) q)) (some (.exit 0, sMt s r c h w s' r' c' h' w' p q)) := by kernel_rfl
theorem rM2 : code (ent Tryz.prog tDa nolv 64 1 20) Tryz.prog {} 0 64 1 loopM2 (sMt s r c h w s' r' c' h' w' p q) (endK 0 64 kMt kMt) = qyw (decide (w64 (mxI c c' + q) < mnI (w64 (c + w)) (w64 (c' + w')))) (some (.normal, sMt s r c h w s' r' c' h' w' p (up1 q))) (some (.exit 2, sMt s r c h w s' r' c' h' w' p q)) := by kernel_rfl
noncomputable def lvMt (o1 o2 : Bool) : FuncId → Lv := lvOf fMt (fun _ => some [2, 3, 4, 8]) (twoL 6 (eAt 0 (sMt s r c h w s' r' c' h' w' 0 0) (outC o1 (.exit 0) (sMt s r c h w s' r' c' h' w' p 0))) 8 (eAt 0 (sMt s r c h w s' r' c' h' w' p 0) (outC o2 (.exit 2) (sMt s r c h w s' r' c' h' w' p q))))
theorem mtD_comes (o1 o2 : Bool) : Comes tDa (lvMt s r c h w s' r' c' h' w' p q o1 o2) fMt [aA s r c h w, aA s' r' c' h' w'] [] (.chk (inI r && inI c) (.chk (inI r' && inI c') (.br (!areaB s r c h w) noMt (.br (!areaB s' r' c' h' w') noMt (.br (s != s') noMt
  (.chk (eqSt (sMt s r c h w s' r' c' h' w' 0 0) (sMt s r c h w s' r' c' h' w' 0 0)) (.chk o1 (.chk (eqSt (sMt s r c h w s' r' c' h' w' p 0) (sMt s r c h w s' r' c' h' w' p 0)) (.chk o2 (.br (p == 0) noMt (.br (q == 0) noMt (.ret (.tuple [aA s (mxI r r') (mxI c c') p q, .bool true]) [])))))))))))) := by unfold Comes; kernel_rfl
end
theorem upTo {body : Code} {ex : Ex} {K : Nat} {S : Nat → qzw} {n : Nat} (hex : ex ≠ .normal) (h1 : ∀ j, j < n → Tri Tryz.prog body (S j).toA .normal (S (j + 1)).toA K) (h2 : Tri Tryz.prog body (S n).toA ex (S n).toA K) : Tri Tryz.prog (.loop body) (S 0).toA ex (S n).toA K :=
  tri_up (body := body) (fun j => (S j).toA) hex n h1 h2 0 (Nat.zero_le _)
def eMtD : Ent := fun args pre => match args, pre with
  | [.agg [.int .i64 s, .int .i64 r, .int .i64 c, .int .i64 h, .int .i64 w], .agg [.int .i64 s', .int .i64 r', .int .i64 c', .int .i64 h', .int .i64 w']], [] => .chk (inI r && inI c && inI r' && inI c' && areaB s r c h w && areaB s' r' c' h' w') (.br (meetB s r c h w s' r' c' h' w') (yesMt s r c h w r' c' h' w') noMt)
  | _, _ => .fail
theorem eMtD_ok : EntOK Tryz.prog fMt eMtD := fun args pre => by
  unfold eMtD
  split
  · rename_i s r c h w s' r' c' h' w'
    refine ⟨fun g => ?_, fun _ => trivial⟩
    simp only [Bool.and_eq_true] at g
    obtain ⟨⟨⟨⟨⟨g1, g2⟩, g3⟩, g4⟩, ga⟩, gb⟩ := g
    have ax := (areaB_iff g1 g2).1 ga
    have ay := (areaB_iff g3 g4).1 gb
    have hmx : ∀ {a b : Int}, 0 ≤ a ∧ a ≤ 1000 → 0 ≤ b ∧ b ≤ 1000 → 0 ≤ mxI a b ∧ mxI a b ≤ 1000 := fun {a b} ha hb => by show 0 ≤ (if b > a then b else a) ∧ (if b > a then b else a) ≤ 1000; split <;> omega
    have m1 := hmx (a := r) (b := r') ⟨by omega, by omega⟩ ⟨by omega, by omega⟩
    have m2 := hmx (a := c) (b := c') ⟨by omega, by omega⟩ ⟨by omega, by omega⟩
    obtain ⟨T1, hT1⟩ : ∃ T, T = mnI (w64 (r + h)) (w64 (r' + h')) := ⟨_, rfl⟩
    obtain ⟨T2, hT2⟩ : ∃ T, T = mnI (w64 (c + w)) (w64 (c' + w')) := ⟨_, rfl⟩
    have eT1 : T1 = if r' + h' < r + h then r' + h' else r + h := by rw [hT1, qxy (a := r + h) (by omega) (by omega), qxy (a := r' + h') (by omega) (by omega)]
    have eT2 : T2 = if c' + w' < c + w then c' + w' else c + w := by rw [hT2, qxy (a := c + w) (by omega) (by omega), qxy (a := c' + w') (by omega) (by omega)]
    have b1 : T1 ≤ 1000 := by rw [eT1]; split <;> omega
    have b2 : T2 ≤ 1000 := by rw [eT2]; split <;> omega
    have lo1 := upTo (body := loopM1) (ex := .exit 0) (K := 0) (S := fun j => sMt s r c h w s' r' c' h' w' (j : Int) 0) (n := (T1 - mxI r r').toNat) (fun e => by cases e) (fun j hj => qzx tDa_ok ((rM1 s r c h w s' r' c' h' w' (j : Int) 0).trans (by rw [← hT1, qxy (by omega) (by omega), bcT (decide_eq_true (by omega)), up1_nat (by omega)])))
      (qzx tDa_ok ((rM1 s r c h w s' r' c' h' w' (((T1 - mxI r r').toNat : Nat) : Int) 0).trans (by rw [← hT1, qxy (by omega) (by omega), bcF (decide_eq_false (by omega))])))
    have lo2 := upTo (body := loopM2) (ex := .exit 2) (K := 0) (S := fun j => sMt s r c h w s' r' c' h' w' (((T1 - mxI r r').toNat : Nat) : Int) (j : Int)) (n := (T2 - mxI c c').toNat) (fun e => by cases e) (fun j hj => qzx tDa_ok ((rM2 s r c h w s' r' c' h' w' (((T1 - mxI r r').toNat : Nat) : Int) (j : Int)).trans (by rw [← hT2, qxy (by omega) (by omega), bcT (decide_eq_true (by omega)), up1_nat (by omega)])))
      (qzx tDa_ok ((rM2 s r c h w s' r' c' h' w' (((T1 - mxI r r').toNat : Nat) : Int) (((T2 - mxI c c').toNat : Nat) : Int)).trans (by rw [← hT2, qxy (by omega) (by omega), bcF (decide_eq_false (by omega))])))
    have hlv : LvOK Tryz.prog (lvMt s r c h w s' r' c' h' w' (((T1 - mxI r r').toNat : Nat) : Int) (((T2 - mxI c c').toNat : Nat) : Int) true true) := lvTwo_ok (x := loopM1) (y := loopM2) Tryz.func51 (by kernel_rfl) (by kernel_rfl) (by kernel_rfl) (by decide) (fun K t => eAt_ok (outC_ok fun _ => lo1) K t) (fun K t => eAt_ok (outC_ok fun _ => lo2) K t)
    have key := mtD_comes s r c h w s' r' c' h' w' (((T1 - mxI r r').toNat : Nat) : Int) (((T2 - mxI c c').toNat : Nat) : Int) true true
    have eH : mtH r h r' h' = w64 (T1 - mxI r r') := by unfold mtH; rw [hT1]
    have eW : mtW c w c' w' = w64 (T2 - mxI c c') := by unfold mtW; rw [hT2]
    have base : ∀ {x : Ans}, x.run pure2 = (.br (s != s') noMt (.br ((((T1 - mxI r r').toNat : Nat) : Int) == 0) noMt (.br ((((T2 - mxI c c').toNat : Nat) : Int) == 0) noMt (.ret (.tuple [aA s (mxI r r') (mxI c c') (((T1 - mxI r r').toNat : Nat) : Int) (((T2 - mxI c c').toNat : Nat) : Int), .bool true]) []))) : Ans).run pure2 → AnsOK Tryz.prog fMt [aA s r c h w, aA s' r' c' h' w'] [] x := fun {x} hx => by
      refine ans_comes (lv := lvMt s r c h w s' r' c' h' w' (((T1 - mxI r r').toNat : Nat) : Int) (((T2 - mxI c c').toNat : Nat) : Int) true true) tDa_ok (key.trans ?_) hlv
      rw [hx, chkT (by rw [g1, g2]; rfl), chkT (by rw [g3, g4]; rfl), ga, gb, brF (b := !true) rfl, brF (b := !true) rfl]
      simp only [Ans.run, Ans.chk]
      rw [bcT (qzt _), bcT rfl, bcT (qzt _), bcT rfl]
    have mt : meetB s r c h w s' r' c' h' w' = true ↔ s = s' ∧ mxI r r' < T1 ∧ mxI c c' < T2 := by
      unfold meetB meetC
      rw [allB_iff, ga, gb, eH, eW]
      simp only [List.mem_cons, List.not_mem_nil, or_false, forall_eq_or_imp, forall_eq, Bool.not_eq_true', bne_eq_false_iff_eq, true_and]
      have l1 : -1000 ≤ T1 := by rw [eT1]; split <;> omega
      have l2 : -1000 ≤ T2 := by rw [eT2]; split <;> omega
      have u1 : T1 ≤ 200 := by rw [eT1]; split <;> omega
      have u2 : T2 ≤ 52 := by rw [eT2]; split <;> omega
      unfold mtR mtC
      rw [areaB_iff (inI_iff.2 ⟨by omega, by omega⟩) (inI_iff.2 ⟨by omega, by omega⟩), qxy (by omega) (by omega), qxy (by omega) (by omega)]
      omega
    refine ⟨fun hb => ?_, fun hb => ?_⟩
    · obtain ⟨e1, e2, e3⟩ := mt.1 hb
      refine base (x := yesMt s r c h w r' c' h' w') ?_
      unfold yesMt mtR mtC
      rw [eH, eW, qxy (by omega) (by omega), qxy (by omega) (by omega)]
      simp only [Ans.run]
      rw [bcF (by rw [e1]; simp), bcF (beq_eq_false_iff_ne.2 (by omega)), bcF (beq_eq_false_iff_ne.2 (by omega)), show (((T1 - mxI r r').toNat : Nat) : Int) = T1 - mxI r r' by omega, show (((T2 - mxI c c').toNat : Nat) : Int) = T2 - mxI c c' by omega]
    · have hb : ¬ (s = s' ∧ mxI r r' < T1 ∧ mxI c c' < T2) := fun h => by rw [mt.2 h] at hb; cases hb
      refine base (x := noMt) ?_
      simp only [Ans.run]
      by_cases e1 : s = s'
      · rw [bcF (by rw [e1]; simp)]
        by_cases e2 : mxI r r' < T1
        · rw [bcF (beq_eq_false_iff_ne.2 (by omega)), bcT (beq_iff_eq.2 (by omega))]
        · rw [bcT (beq_iff_eq.2 (by omega))]
      · rw [bcT (bne_iff_ne.2 e1)]
  · trivial
end Go.Proofs.YtphhepnldndbhaaGreatDoor.Dp
namespace Go.Proofs.YtphhepnldndbhaaGreatDoor.Dp
open Go Sx Go.Proofs.YtphhepnldndbhaaGreatDoor
theorem inD : Comes [] nolv 113 [.str [49]] [] (.ret (.bool true) []) := by unfold Comes; kernel_rfl
theorem isS : Comes [] nolv 112 [.str [83]] [] (.ret (.bool true) []) := by unfold Comes; kernel_rfl
theorem isT : Comes [] nolv 112 [.str [84]] [] (.ret (.bool true) []) := by unfold Comes; kernel_rfl
theorem saST : Comes [] nolv 111 [.str [83], .str [84]] [] (.ret (.bool false) []) := by unfold Comes; kernel_rfl
def eInD : Ent := fun args pre => match args, pre with
  | [.str s], [] => .chk (s == [49]) (.ret (.bool true) [])
  | _, _ => .fail
theorem eInD_ok : EntOK Tryz.prog 113 eInD := fun args pre => by
  unfold eInD
  split
  · refine ⟨fun h => ?_, fun _ => trivial⟩
    obtain rfl := eq_of_beq h
    exact memo1 .nil inD
  · trivial
def eIsS : Ent := fun args pre => match args, pre with
  | [.str s], [] => .br (s == [83]) (.ret (.bool true) []) (.chk (s == [84]) (.ret (.bool true) []))
  | _, _ => .fail
theorem eIsS_ok : EntOK Tryz.prog 112 eIsS := fun args pre => by
  unfold eIsS
  split
  · refine ⟨fun h => ?_, fun _ => ⟨fun h => ?_, fun _ => trivial⟩⟩
    · obtain rfl := eq_of_beq h
      exact memo1 .nil isS
    · obtain rfl := eq_of_beq h
      exact memo1 .nil isT
  · trivial
def eSaD : Ent := fun args pre => match args, pre with
  | [.str s, .str t], [] => .chk (s == [83] && t == [84]) (.ret (.bool false) [])
  | _, _ => .fail
theorem eSaD_ok : EntOK Tryz.prog 111 eSaD := fun args pre => by
  unfold eSaD
  split
  · refine ⟨fun h => ?_, fun _ => trivial⟩
    rw [Bool.and_eq_true] at h
    obtain rfl := eq_of_beq h.1
    obtain rfl := eq_of_beq h.2
    exact memo1 .nil saST
  · trivial
def tCe : Tab := [(113, eInD)]
theorem tCe_ok : TabOK Tryz.prog tCe := .cons eInD_ok .nil
section
variable (X : List (List CV)) (n : Nat) (i : Int)
def prevI : Int := w64 (i - 1)
theorem ce_comes : Comes tCe nolv 84 [.vec 0 n, .int .i64 i] [vC X] (.chk (ixN i n) (.chk (inR i X) (.br (decide (c0 (Sx.rowAt X i.toNat) < 0)) (.ret (.bool false) [vC X]) (.br (decide (c0 (Sx.rowAt X i.toNat) > 199)) (.ret (.bool false) [vC X]) (.br (decide (c1 (Sx.rowAt X i.toNat) < 0)) (.ret (.bool false) [vC X]) (.br (decide (c1 (Sx.rowAt X i.toNat) > 51)) (.ret (.bool false) [vC X])
  (.chk ((rowCV (Sx.rowAt X i.toNat) 2).s == [49]) (.br (i == 0) (.ret (.bool true) [vC X]) (.chk (ixN (prevI i) n) (.chk (inR (prevI i) X) (.br (decide (c0 (Sx.rowAt X (prevI i).toNat) < c0 (Sx.rowAt X i.toNat))) (.ret (.bool true) [vC X]) (.chk (ixN (prevI i) n) (.chk (inR (prevI i) X) (.br (c0 (Sx.rowAt X (prevI i).toNat) == c0 (Sx.rowAt X i.toNat)) (.chk (ixN (prevI i) n) (.chk (inR (prevI i) X) (.ret (.bool (decide (c1 (Sx.rowAt X (prevI i).toNat) < c1 (Sx.rowAt X i.toNat)))) [vC X]))) (.ret (.bool false) [vC X]))))))))))))))) := by unfold Comes; kernel_rfl
end
end Go.Proofs.YtphhepnldndbhaaGreatDoor.Dp
namespace Go.Proofs.YtphhepnldndbhaaGreatDoor
open Go Sx
abbrev oBk (j : Nat) : PObj := .raw (.cells [.slice j 0 2 2, .qzz, .qzz, .qzz] 35)
section
variable (R Z : List (List CV))
end
section
variable (R Z P B P' B' X Y L : List (List CV)) (a z : Nat) (m k : Int)
end
end Go.Proofs.YtphhepnldndbhaaGreatDoor
namespace Go.Proofs.YtphhepnldndbhaaGreatDoor.Dp
open Go Sx Go.Proofs.YtphhepnldndbhaaGreatDoor
theorem cmP_inv {r c r' c' : Int} (h : cmP 0 r c 0 r' c' = -1) : r < r' ∨ r = r' ∧ c < c' := by
  unfold cmP cmI at h
  rw [decide_eq_false (show ¬ (0 : Int) < 0 by decide)] at h
  by_cases h1 : r < r'
  · exact .inl h1
  · rw [decide_eq_false h1] at h
    by_cases h2 : r > r'
    · rw [decide_eq_true h2] at h; exact absurd (show (1 : Int) = -1 from h) (by decide)
    · rw [decide_eq_false h2] at h
      refine .inr ⟨by omega, ?_⟩
      by_cases h3 : c < c'
      · exact h3
      · rw [decide_eq_false h3] at h
        by_cases h4 : c > c'
        · rw [decide_eq_true h4] at h; exact absurd (show (1 : Int) = -1 from h) (by decide)
        · rw [decide_eq_false h4] at h; exact absurd (show (0 : Int) = -1 from h) (by decide)
def celP (X : List (List CV)) (p : Nat) (i : Int) : Prop := p = X.length ∧ okW X ∧ 0 ≤ i ∧ i < (p : Int)
open Classical in
noncomputable def eCelD : Ent := fun args pre => match args, pre with
  | [.vec j p, .int .i64 i], [.vecR sh X ty] => .chk (Nat.beq j 0 && shEq sh shC && Nat.beq ty 63) (.chk (decide (celP X p i)) (.ret (.bool true) [.vecR sh X ty]))
  | _, _ => .fail
theorem cell_in {X : List (List CV)} (h : okW X) {j : Nat} (hj : j < X.length) : (0 ≤ c0 (Sx.rowAt X j) ∧ c0 (Sx.rowAt X j) < 200) ∧ 0 ≤ c1 (Sx.rowAt X j) ∧ c1 (Sx.rowAt X j) < 52 := by
  have hh := (h.2 j hj).1
  unfold hasB hasC at hh
  rw [allB_iff] at hh
  simp only [List.mem_cons, List.not_mem_nil, or_false, forall_eq_or_imp, forall_eq, decide_eq_true_eq] at hh
  have q1 : w64 (0 + 200) = 200 := by decide
  have q2 : w64 (0 + 52) = 52 := by decide
  rw [q1, q2] at hh
  omega
open Classical in
theorem eCelD_ok : EntOK Tryz.prog 84 eCelD := fun args pre => by
  unfold eCelD
  split
  · rename_i j p i sh X ty
    refine ⟨fun g0 => ⟨fun g1 => ?_, fun _ => trivial⟩, fun _ => trivial⟩
    simp only [Bool.and_eq_true, beqT] at g0
    obtain ⟨⟨rfl, g⟩, rfl⟩ := g0
    obtain rfl := shEq_of g
    obtain ⟨rfl, hw, h0, h1⟩ := of_decide_eq_true g1
    obtain ⟨k, rfl⟩ : ∃ k : Nat, i = (k : Int) := ⟨i.toNat, by omega⟩
    have hk : k < X.length := by omega
    have hl := hw.1
    have hc := cell_in hw hk
    obtain ⟨_, hs, hp⟩ := hw.2 k hk
    refine qyx (pre := [vC X]) (post := [vC X]) tCe_ok host ((ce_comes X X.length (k : Int)).trans ?_) qyz
    rw [Int.toNat_natCast, chkT (ixN_nat hk), chkT (inR_nat hk), brF (decide_eq_false (by omega)), brF (decide_eq_false (by omega)), brF (decide_eq_false (by omega)), brF (decide_eq_false (by omega)), chkT (by rw [hs]; rfl)]
    cases k with
    | zero => rw [brT (by rfl)]; rfl
    | succ m =>
      have e : prevI (((m + 1 : Nat)) : Int) = (m : Int) := by unfold prevI; rw [qxy (by omega) (by omega)]; omega
      have ho := cmP_inv (hp m rfl)
      rw [brF (by rw [beq_eq_false_iff_ne]; omega), e, Int.toNat_natCast]
      have i1 := ixN_nat (show m < X.length by omega)
      have i2 := inR_nat (show m < X.length by omega)
      rw [chkT i1, chkT i2]
      by_cases h5 : c0 (Sx.rowAt X m) < c0 (Sx.rowAt X (m + 1))
      · rw [brT (decide_eq_true h5)]; rfl
      · rw [brF (decide_eq_false h5), chkT i1, chkT i2, brT (by rw [beq_iff_eq]; omega), chkT i1, chkT i2, decide_eq_true (show c1 (Sx.rowAt X m) < c1 (Sx.rowAt X (m + 1)) by omega)]; rfl
  · trivial
noncomputable def tChk : Tab := [(84, eCelD), (112, eIsS), (111, eSaD)]
theorem tChk_ok : TabOK Tryz.prog tChk := .cons eCelD_ok (.cons eIsS_ok (.cons eSaD_ok .nil))
abbrev fCk : FuncId := 48
abbrev fCe : FuncId := 31
noncomputable abbrev loopK : Code := ((qyu (bodyOf Tryz.f48)).drop 2).headD .skip
noncomputable abbrev loopE : Code := ((qyu (bodyOf Tryz.f31)).drop 1).headD .skip
def sK (pre : List (Option PObj)) (K : Nat) (s : Int) (src : AV) (k : Int) : qzw := ⟨none :: some (.ptr K 0) :: some (.ptr (K + 1) 0) :: nn 2 ++ (some (.int .i64 s) :: some src :: some (.int .i64 k) :: nn 129), pre ++ (some (oBk 0) :: some (oA3 0 0 0) :: nn 64)⟩
def sKX (pre : List (Option PObj)) (K : Nat) (s : Int) : qzw := ⟨none :: some (.ptr K 0) :: some (.ptr (K + 1) 0) :: nn 2 ++ (some (.int .i64 s) :: nn 131), pre ++ (some (oBk 0) :: some (oA3 0 0 0) :: nn 64)⟩
def sE (pre : List (Option PObj)) (K : Nat) (out : AV) (s : Int) (src : AV) (k : Int) (t : List (Option PObj)) : qzw := ⟨none :: some (.ptr K 0) :: nn 4 ++ (some out :: some (.int .i64 s) :: some src :: some (.int .i64 k) :: nn 43), pre ++ (some (oBk 0) :: (t ++ nn 64))⟩
def sEX (pre : List (Option PObj)) (K : Nat) (out : AV) (s : Int) (t : List (Option PObj)) : qzw := ⟨none :: some (.ptr K 0) :: nn 4 ++ (some out :: some (.int .i64 s) :: nn 45), pre ++ (some (oBk 0) :: (t ++ nn 64))⟩
abbrev kK : Nat → Bool := fun n => hasN [1, 2, 5, 6, 7] n
abbrev kKX : Nat → Bool := fun n => hasN [1, 2, 5] n
abbrev kE : Nat → Bool := fun n => hasN [1, 6, 7, 8, 9] n
abbrev kEX : Nat → Bool := fun n => hasN [1, 6, 7] n
section
variable (X Y L : List (List CV)) (p q n m : Nat) (s k : Int)
def ckE : List Bool := [ixN k n, inR k X, ixN k n, inR k X]
def ckEv : List Bool := [ixN k n, inR k X, ixN k n, inR k X, decide ((vA L).len = m * 3) && roomB (m + 1) 24]
open Classical in
theorem rKx : code (ent Tryz.prog tChk nolv 64 1 20) Tryz.prog {} 2 64 1 loopK (sK (pX X p) 2 s (.vec 1 n) k) (endK 2 64 kK kKX) = qyw (decide (k < (n : Int))) (chks (some (.normal, sK (pX X p) 2 s (.vec 1 n) (up1 k))) [decide (celP X n k)]) (some (.exit 4, sKX (pX X p) 2 s)) := by kernel_rfl
theorem rEnx : code (ent Tryz.prog [] nolv 64 1 20) Tryz.prog {} 2 64 1 loopE (sE (pX X p) 2 .qzz s (.vec 1 n) k []) (endK 2 64 kE kEX) = qyw (decide (k < (n : Int))) (chks (some (.normal, sE (pX X p) 2 (.vec 3 1) s (.vec 1 n) (up1 k) [some (vA [atC X s k])])) (ckE X n k)) (some (.exit 2, sEX (pX X p) 2 .qzz s [])) := by kernel_rfl
theorem rEvx : code (ent Tryz.prog [] nolv 64 1 20) Tryz.prog {} 2 64 1 loopE (sE (pX X p) 2 (.vec 3 m) s (.vec 1 n) k [some (vA L)]) (endK 2 64 kE kEX) = qyw (decide (k < (n : Int))) (chks (some (.normal, sE (pX X p) 2 (.vec 3 (m + 1)) s (.vec 1 n) (up1 k) [some (vA (L ++ [atC X s k]))])) (ckEv X L n m k)) (some (.exit 2, sEX (pX X p) 2 (.vec 3 m) s [some (vA L)])) := by kernel_rfl
open Classical in
theorem rKy : code (ent Tryz.prog tChk nolv 64 1 20) Tryz.prog {} 2 64 1 loopK (sK (pY Y q) 2 s (.vec 1 n) k) (endK 2 64 kK kKX) = qyw (decide (k < (n : Int))) (chks (some (.normal, sK (pY Y q) 2 s (.vec 1 n) (up1 k))) [decide (celP Y n k)]) (some (.exit 4, sKX (pY Y q) 2 s)) := by kernel_rfl
theorem rEny : code (ent Tryz.prog [] nolv 64 1 20) Tryz.prog {} 2 64 1 loopE (sE (pY Y q) 2 .qzz s (.vec 1 n) k []) (endK 2 64 kE kEX) = qyw (decide (k < (n : Int))) (chks (some (.normal, sE (pY Y q) 2 (.vec 3 1) s (.vec 1 n) (up1 k) [some (vA [atC Y s k])])) (ckE Y n k)) (some (.exit 2, sEX (pY Y q) 2 .qzz s [])) := by kernel_rfl
theorem rEvy : code (ent Tryz.prog [] nolv 64 1 20) Tryz.prog {} 2 64 1 loopE (sE (pY Y q) 2 (.vec 3 m) s (.vec 1 n) k [some (vA L)]) (endK 2 64 kE kEX) = qyw (decide (k < (n : Int))) (chks (some (.normal, sE (pY Y q) 2 (.vec 3 (m + 1)) s (.vec 1 n) (up1 k) [some (vA (L ++ [atC Y s k]))])) (ckEv Y L n m k)) (some (.exit 2, sEX (pY Y q) 2 (.vec 3 m) s [some (vA L)])) := by kernel_rfl
open Classical in
theorem rKb : code (ent Tryz.prog tChk nolv 64 1 20) Tryz.prog {} 3 64 1 loopK (sK (pXY X Y p q) 3 s (.vec 1 n) k) (endK 3 64 kK kKX) = qyw (decide (k < (n : Int))) (chks (some (.normal, sK (pXY X Y p q) 3 s (.vec 1 n) (up1 k))) [decide (celP X n k)]) (some (.exit 4, sKX (pXY X Y p q) 3 s)) := by kernel_rfl
theorem rEnb : code (ent Tryz.prog [] nolv 64 1 20) Tryz.prog {} 3 64 1 loopE (sE (pXY X Y p q) 3 .qzz s (.vec 1 n) k []) (endK 3 64 kE kEX) = qyw (decide (k < (n : Int))) (chks (some (.normal, sE (pXY X Y p q) 3 (.vec 4 1) s (.vec 1 n) (up1 k) [some (vA [atC X s k])])) (ckE X n k)) (some (.exit 2, sEX (pXY X Y p q) 3 .qzz s [])) := by kernel_rfl
theorem rEvb : code (ent Tryz.prog [] nolv 64 1 20) Tryz.prog {} 3 64 1 loopE (sE (pXY X Y p q) 3 (.vec 4 m) s (.vec 1 n) k [some (vA L)]) (endK 3 64 kE kEX) = qyw (decide (k < (n : Int))) (chks (some (.normal, sE (pXY X Y p q) 3 (.vec 4 (m + 1)) s (.vec 1 n) (up1 k) [some (vA (L ++ [atC X s k]))])) (ckEv X L n m k)) (some (.exit 2, sEX (pXY X Y p q) 3 (.vec 4 m) s [some (vA L)])) := by kernel_rfl
open Classical in
theorem rKc : code (ent Tryz.prog tChk nolv 64 1 20) Tryz.prog {} 3 64 1 loopK (sK (pXY X Y p q) 3 s (.vec 2 n) k) (endK 3 64 kK kKX) = qyw (decide (k < (n : Int))) (chks (some (.normal, sK (pXY X Y p q) 3 s (.vec 2 n) (up1 k))) [decide (celP Y n k)]) (some (.exit 4, sKX (pXY X Y p q) 3 s)) := by kernel_rfl
theorem rEvc : code (ent Tryz.prog [] nolv 64 1 20) Tryz.prog {} 3 64 1 loopE (sE (pXY X Y p q) 3 (.vec 4 m) s (.vec 2 n) k [some (vA L)]) (endK 3 64 kE kEX) = qyw (decide (k < (n : Int))) (chks (some (.normal, sE (pXY X Y p q) 3 (.vec 4 (m + 1)) s (.vec 2 n) (up1 k) [some (vA (L ++ [atC Y s k]))])) (ckEv Y L n m k)) (some (.exit 2, sEX (pXY X Y p q) 3 (.vec 4 m) s [some (vA L)])) := by kernel_rfl
end
end Go.Proofs.YtphhepnldndbhaaGreatDoor.Dp
namespace Go.Proofs.YtphhepnldndbhaaGreatDoor.Dp
open Go Sx Go.Proofs.YtphhepnldndbhaaGreatDoor
theorem ckE_ok {X : List (List CV)} {j : Nat} (hj : j < X.length) : ∀ b ∈ ckE X X.length (j : Int), b = true := by
  intro b hb
  unfold ckE at hb
  simp only [List.mem_cons, List.not_mem_nil, or_false] at hb
  rcases hb with rfl | rfl | rfl | rfl
  · exact ixN_nat hj
  · exact inR_nat hj
  · exact ixN_nat hj
  · exact inR_nat hj
theorem ckEv_ok {X L : List (List CV)} {j : Nat} (hj : j < X.length) (hl : L.length ≤ 1000) : ∀ b ∈ ckEv X L X.length L.length (j : Int), b = true := by
  intro b hb
  unfold ckEv at hb
  simp only [List.mem_cons, List.not_mem_nil, or_false] at hb
  rcases hb with rfl | rfl | rfl | rfl | rfl
  · exact ixN_nat hj
  · exact inR_nat hj
  · exact ixN_nat hj
  · exact inR_nat hj
  · rw [decide_eq_true (show (vA L).len = L.length * 3 from rfl)]; unfold roomB; exact decide_eq_true ⟨by omega, by omega⟩
def EN (pre : List (Option PObj)) (K : Nat) (s : Int) (X : List (List CV)) (src : AV) : Nat → qzw
  | 0 => sE pre K .qzz s src 0 []
  | j + 1 => sE pre K (.vec (K + 1) (j + 1)) s src ((j + 1 : Nat) : Int) [some (vA (colL s X (j + 1)))]
section
variable {X Y L : List (List CV)} {p q : Nat} {s : Int}
open Classical in
theorem loopKx (h : okW X) : Tri Tryz.prog (.loop loopK) (sK (pX X p) 2 s (.vec 1 X.length) 0).toA (.exit 4) (sKX (pX X p) 2 s).toA 2 := by
  have hl := h.1
  refine tri_up (body := loopK) (fun j => (sK (pX X p) 2 s (.vec 1 X.length) (j : Int)).toA) (fun e => by cases e) X.length (fun j hj => ?_) ?_ 0 (Nat.zero_le _)
  · refine qzx tChk_ok ((rKx (X := X) (p := p) (n := X.length) (s := s) (k := (j : Int))).trans ?_)
    rw [bcT (decide_eq_true (by omega)), qzy (all1 (decide_eq_true ⟨rfl, h, by omega, by omega⟩)), up1_nat (by omega)]
  · exact qzx tChk_ok ((rKx (X := X) (p := p) (n := X.length) (s := s) (k := (X.length : Int))).trans (by rw [bcF (decide_eq_false (by omega))]))
theorem loopEnx (h0 : 0 < X.length) (h : X.length ≤ 400) : Tri Tryz.prog (.loop loopE) (sE (pX X p) 2 .qzz s (.vec 1 X.length) 0 []).toA (.exit 2) (sEX (pX X p) 2 (.vec 3 X.length) s [some (vA (colL s X X.length))]).toA 2 := by
  refine tri_up (body := loopE) (fun j => (EN (pX X p) 2 s X (.vec 1 X.length) j).toA) (fun e => by cases e) X.length (fun j hj => ?_) ?_ 0 (Nat.zero_le _)
  · cases j with
    | zero =>
      refine qzx (T := []) .nil ((rEnx (X := X) (p := p) (n := X.length) (s := s) (k := ((0 : Nat) : Int))).trans ?_)
      rw [bcT (decide_eq_true (by omega)), qzy (ckE_ok hj), up1_nat (by omega), atC_nat]; rfl
    | succ i =>
      have hn := colL_len s X (i + 1)
      have key := rEvx (X := X) (p := p) (L := colL s X (i + 1)) (n := X.length) (m := (colL s X (i + 1)).length) (s := s) (k := ((i + 1 : Nat) : Int))
      rw [bcT (decide_eq_true (by omega)), qzy (ckEv_ok hj (by omega)), up1_nat (by omega), atC_nat, hn] at key
      exact qzx (T := []) .nil key
  · obtain ⟨i, hi⟩ : ∃ i, X.length = i + 1 := ⟨X.length - 1, by omega⟩
    have key := rEvx (X := X) (p := p) (L := colL s X (i + 1)) (n := X.length) (m := i + 1) (s := s) (k := ((i + 1 : Nat) : Int))
    rw [bcF (decide_eq_false (by omega))] at key
    have e : EN (pX X p) 2 s X (.vec 1 X.length) X.length = sE (pX X p) 2 (.vec 3 (i + 1)) s (.vec 1 X.length) ((i + 1 : Nat) : Int) [some (vA (colL s X (i + 1)))] := by rw [hi]; rfl
    show Tri _ _ (EN (pX X p) 2 s X (.vec 1 X.length) X.length).toA _ _ _
    rw [e]
    have e2 : sEX (pX X p) 2 (.vec 3 X.length) s [some (vA (colL s X X.length))] = sEX (pX X p) 2 (.vec 3 (i + 1)) s [some (vA (colL s X (i + 1)))] := by rw [← hi]
    rw [e2]
    exact qzx (T := []) .nil key
open Classical in
theorem loopKy (h : okW Y) : Tri Tryz.prog (.loop loopK) (sK (pY Y q) 2 s (.vec 1 Y.length) 0).toA (.exit 4) (sKX (pY Y q) 2 s).toA 2 := by
  have hl := h.1
  refine tri_up (body := loopK) (fun j => (sK (pY Y q) 2 s (.vec 1 Y.length) (j : Int)).toA) (fun e => by cases e) Y.length (fun j hj => ?_) ?_ 0 (Nat.zero_le _)
  · refine qzx tChk_ok ((rKy (Y := Y) (q := q) (n := Y.length) (s := s) (k := (j : Int))).trans ?_)
    rw [bcT (decide_eq_true (by omega)), qzy (all1 (decide_eq_true ⟨rfl, h, by omega, by omega⟩)), up1_nat (by omega)]
  · exact qzx tChk_ok ((rKy (Y := Y) (q := q) (n := Y.length) (s := s) (k := (Y.length : Int))).trans (by rw [bcF (decide_eq_false (by omega))]))
theorem loopEny (h0 : 0 < Y.length) (h : Y.length ≤ 400) : Tri Tryz.prog (.loop loopE) (sE (pY Y q) 2 .qzz s (.vec 1 Y.length) 0 []).toA (.exit 2) (sEX (pY Y q) 2 (.vec 3 Y.length) s [some (vA (colL s Y Y.length))]).toA 2 := by
  refine tri_up (body := loopE) (fun j => (EN (pY Y q) 2 s Y (.vec 1 Y.length) j).toA) (fun e => by cases e) Y.length (fun j hj => ?_) ?_ 0 (Nat.zero_le _)
  · cases j with
    | zero =>
      refine qzx (T := []) .nil ((rEny (Y := Y) (q := q) (n := Y.length) (s := s) (k := ((0 : Nat) : Int))).trans ?_)
      rw [bcT (decide_eq_true (by omega)), qzy (ckE_ok hj), up1_nat (by omega), atC_nat]; rfl
    | succ i =>
      have hn := colL_len s Y (i + 1)
      have key := rEvy (Y := Y) (q := q) (L := colL s Y (i + 1)) (n := Y.length) (m := (colL s Y (i + 1)).length) (s := s) (k := ((i + 1 : Nat) : Int))
      rw [bcT (decide_eq_true (by omega)), qzy (ckEv_ok hj (by omega)), up1_nat (by omega), atC_nat, hn] at key
      exact qzx (T := []) .nil key
  · obtain ⟨i, hi⟩ : ∃ i, Y.length = i + 1 := ⟨Y.length - 1, by omega⟩
    have key := rEvy (Y := Y) (q := q) (L := colL s Y (i + 1)) (n := Y.length) (m := i + 1) (s := s) (k := ((i + 1 : Nat) : Int))
    rw [bcF (decide_eq_false (by omega))] at key
    have e : EN (pY Y q) 2 s Y (.vec 1 Y.length) Y.length = sE (pY Y q) 2 (.vec 3 (i + 1)) s (.vec 1 Y.length) ((i + 1 : Nat) : Int) [some (vA (colL s Y (i + 1)))] := by rw [hi]; rfl
    show Tri _ _ (EN (pY Y q) 2 s Y (.vec 1 Y.length) Y.length).toA _ _ _
    rw [e]
    have e2 : sEX (pY Y q) 2 (.vec 3 Y.length) s [some (vA (colL s Y Y.length))] = sEX (pY Y q) 2 (.vec 3 (i + 1)) s [some (vA (colL s Y (i + 1)))] := by rw [← hi]
    rw [e2]
    exact qzx (T := []) .nil key
open Classical in
theorem loopKb (h : okW X) : Tri Tryz.prog (.loop loopK) (sK (pXY X Y p q) 3 s (.vec 1 X.length) 0).toA (.exit 4) (sKX (pXY X Y p q) 3 s).toA 3 := by
  have hl := h.1
  refine tri_up (body := loopK) (fun j => (sK (pXY X Y p q) 3 s (.vec 1 X.length) (j : Int)).toA) (fun e => by cases e) X.length (fun j hj => ?_) ?_ 0 (Nat.zero_le _)
  · refine qzx tChk_ok ((rKb (X := X) (Y := Y) (p := p) (q := q) (n := X.length) (s := s) (k := (j : Int))).trans ?_)
    rw [bcT (decide_eq_true (by omega)), qzy (all1 (decide_eq_true ⟨rfl, h, by omega, by omega⟩)), up1_nat (by omega)]
  · exact qzx tChk_ok ((rKb (X := X) (Y := Y) (p := p) (q := q) (n := X.length) (s := s) (k := (X.length : Int))).trans (by rw [bcF (decide_eq_false (by omega))]))
theorem loopEnb (h0 : 0 < X.length) (h : X.length ≤ 400) : Tri Tryz.prog (.loop loopE) (sE (pXY X Y p q) 3 .qzz s (.vec 1 X.length) 0 []).toA (.exit 2) (sEX (pXY X Y p q) 3 (.vec 4 X.length) s [some (vA (colL s X X.length))]).toA 3 := by
  refine tri_up (body := loopE) (fun j => (EN (pXY X Y p q) 3 s X (.vec 1 X.length) j).toA) (fun e => by cases e) X.length (fun j hj => ?_) ?_ 0 (Nat.zero_le _)
  · cases j with
    | zero =>
      refine qzx (T := []) .nil ((rEnb (X := X) (Y := Y) (p := p) (q := q) (n := X.length) (s := s) (k := ((0 : Nat) : Int))).trans ?_)
      rw [bcT (decide_eq_true (by omega)), qzy (ckE_ok hj), up1_nat (by omega), atC_nat]; rfl
    | succ i =>
      have hn := colL_len s X (i + 1)
      have key := rEvb (X := X) (Y := Y) (p := p) (q := q) (L := colL s X (i + 1)) (n := X.length) (m := (colL s X (i + 1)).length) (s := s) (k := ((i + 1 : Nat) : Int))
      rw [bcT (decide_eq_true (by omega)), qzy (ckEv_ok hj (by omega)), up1_nat (by omega), atC_nat, hn] at key
      exact qzx (T := []) .nil key
  · obtain ⟨i, hi⟩ : ∃ i, X.length = i + 1 := ⟨X.length - 1, by omega⟩
    have key := rEvb (X := X) (Y := Y) (p := p) (q := q) (L := colL s X (i + 1)) (n := X.length) (m := i + 1) (s := s) (k := ((i + 1 : Nat) : Int))
    rw [bcF (decide_eq_false (by omega))] at key
    have e : EN (pXY X Y p q) 3 s X (.vec 1 X.length) X.length = sE (pXY X Y p q) 3 (.vec 4 (i + 1)) s (.vec 1 X.length) ((i + 1 : Nat) : Int) [some (vA (colL s X (i + 1)))] := by rw [hi]; rfl
    show Tri _ _ (EN (pXY X Y p q) 3 s X (.vec 1 X.length) X.length).toA _ _ _
    rw [e]
    have e2 : sEX (pXY X Y p q) 3 (.vec 4 X.length) s [some (vA (colL s X X.length))] = sEX (pXY X Y p q) 3 (.vec 4 (i + 1)) s [some (vA (colL s X (i + 1)))] := by rw [← hi]
    rw [e2]
    exact qzx (T := []) .nil key
open Classical in
theorem loopKc (h : okW Y) : Tri Tryz.prog (.loop loopK) (sK (pXY X Y p q) 3 s (.vec 2 Y.length) 0).toA (.exit 4) (sKX (pXY X Y p q) 3 s).toA 3 := by
  have hl := h.1
  refine tri_up (body := loopK) (fun j => (sK (pXY X Y p q) 3 s (.vec 2 Y.length) (j : Int)).toA) (fun e => by cases e) Y.length (fun j hj => ?_) ?_ 0 (Nat.zero_le _)
  · refine qzx tChk_ok ((rKc (X := X) (Y := Y) (p := p) (q := q) (n := Y.length) (s := s) (k := (j : Int))).trans ?_)
    rw [bcT (decide_eq_true (by omega)), qzy (all1 (decide_eq_true ⟨rfl, h, by omega, by omega⟩)), up1_nat (by omega)]
  · exact qzx tChk_ok ((rKc (X := X) (Y := Y) (p := p) (q := q) (n := Y.length) (s := s) (k := (Y.length : Int))).trans (by rw [bcF (decide_eq_false (by omega))]))
theorem rKxz : code (ent Tryz.prog tChk nolv 64 1 20) Tryz.prog {} 2 64 1 loopK (sK (pX X p) 2 s .qzz 0) (endK 2 64 kK kKX) = some (.exit 4, sKX (pX X p) 2 s) := by kernel_rfl
theorem rKyz : code (ent Tryz.prog tChk nolv 64 1 20) Tryz.prog {} 2 64 1 loopK (sK (pY Y q) 2 s .qzz 0) (endK 2 64 kK kKX) = some (.exit 4, sKX (pY Y q) 2 s) := by kernel_rfl
theorem rExz {m : Nat} : code (ent Tryz.prog [] nolv 64 1 20) Tryz.prog {} 2 64 1 loopE (sE (pX X p) 2 (.vec 3 m) s .qzz 0 [some (vA L)]) (endK 2 64 kE kEX) = some (.exit 2, sEX (pX X p) 2 (.vec 3 m) s [some (vA L)]) := by kernel_rfl
theorem rEyz : code (ent Tryz.prog [] nolv 64 1 20) Tryz.prog {} 2 64 1 loopE (sE (pY Y q) 2 .qzz s .qzz 0 []) (endK 2 64 kE kEX) = some (.exit 2, sEX (pY Y q) 2 .qzz s []) := by kernel_rfl
theorem atOnce {x : Code} {K : Nat} {S E : qzw} {ex : Ex} (hex : ex ≠ .normal) (h : Tri Tryz.prog x S.toA ex E.toA K) : Tri Tryz.prog (.loop x) S.toA ex E.toA K := tri_up (body := x) (fun _ => S.toA) hex 0 (fun j hj => absurd hj (Nat.not_lt_zero j)) h 0 (Nat.le_refl _)
theorem loopEvc (hL : L.length ≤ 400) (h : Y.length ≤ 400) : Tri Tryz.prog (.loop loopE) (sE (pXY X Y p q) 3 (.vec 4 L.length) s (.vec 2 Y.length) 0 [some (vA L)]).toA (.exit 2) (sEX (pXY X Y p q) 3 (.vec 4 (L.length + Y.length)) s [some (vA (L ++ colL s Y Y.length))]).toA 3 := by
  have h0 : sE (pXY X Y p q) 3 (.vec 4 L.length) s (.vec 2 Y.length) 0 [some (vA L)] = sE (pXY X Y p q) 3 (.vec 4 (L.length + 0)) s (.vec 2 Y.length) ((0 : Nat) : Int) [some (vA (L ++ colL s Y 0))] := by
    rw [show colL s Y 0 = [] from rfl, List.append_nil]; rfl
  rw [h0]
  refine tri_up (body := loopE) (fun j => (sE (pXY X Y p q) 3 (.vec 4 (L.length + j)) s (.vec 2 Y.length) (j : Int) [some (vA (L ++ colL s Y j))]).toA) (fun e => by cases e) Y.length (fun j hj => ?_) ?_ 0 (Nat.zero_le _)
  · have hn : (L ++ colL s Y j).length = L.length + j := by rw [List.length_append, colL_len]
    have key := rEvc (X := X) (Y := Y) (p := p) (q := q) (L := L ++ colL s Y j) (n := Y.length) (m := (L ++ colL s Y j).length) (s := s) (k := (j : Int))
    rw [bcT (decide_eq_true (by omega)), qzy (ckEv_ok hj (by omega)), up1_nat (by omega), atC_nat, hn, List.append_assoc] at key
    exact qzx (T := []) .nil key
  · have key := rEvc (X := X) (Y := Y) (p := p) (q := q) (L := L ++ colL s Y Y.length) (n := Y.length) (m := L.length + Y.length) (s := s) (k := (Y.length : Int))
    rw [bcF (decide_eq_false (by omega))] at key
    exact qzx (T := []) .nil key
end
abbrev ckV0 : AV := .tuple [aP 0 0 0, .int .i64 0]
abbrev ckVE : AV := .tuple [aP 0 0 0, .int .i64 96]
noncomputable def eKs (K : Nat) (S0 : qzw) (x0 : LAns) (S1 : qzw) (x1 : LAns) : Nat → qzw → LAns := fun k st => match st.slots with
  | _ :: _ :: _ :: _ :: _ :: some (.int _ s) :: _ => cond (s == 0) (eAt K S0 x0 k st) (eAt K S1 x1 k st)
  | _ => .fail
noncomputable def lvK (K : Nat) (S0 : qzw) (x0 : LAns) (S1 : qzw) (x1 : LAns) : FuncId → Lv := lvOf fCk (fun i => if i = 13 then some [1, 2, 5, 6, 7] else none) (oneL 13 (eKs K S0 x0 S1 x1))
noncomputable def eEs (K : Nat) (S0 : qzw) (x0 : LAns) (S1 : qzw) (x1 : LAns) : Nat → qzw → LAns := fun k st => match st.slots with
  | _ :: _ :: _ :: _ :: _ :: _ :: _ :: some (.int _ s) :: _ => cond (s == 0) (eAt K S0 x0 k st) (eAt K S1 x1 k st)
  | _ => .fail
noncomputable def lvE (K : Nat) (S0 : qzw) (x0 : LAns) (S1 : qzw) (x1 : LAns) : FuncId → Lv := lvOf fCe (fun i => if i = 10 then some [1, 6, 7, 8, 9] else none) (oneL 10 (eEs K S0 x0 S1 x1))
theorem lvK_ok {K : Nat} {S0 S1 : qzw} {x0 x1 : LAns} (h0 : LAnsOK Tryz.prog loopK K S0 x0) (h1 : LAnsOK Tryz.prog loopK K S1 x1) : LvOK Tryz.prog (lvK K S0 x0 S1 x1) := lvOf_ok Tryz.func48 fun y hy id en hid he => by
  obtain ⟨rfl, rfl⟩ := oneL_some he
  have hall : (qyu (bodyOf Tryz.f48)).map headReg = [some 4, some 9, some 13, some 18, some 23, some 28] := by kernel_rfl
  obtain ⟨i, hi, e⟩ := List.mem_iff_getElem.1 hy
  have hlen : (qyu (bodyOf Tryz.f48)).length = 6 := by have := congrArg List.length hall; simpa using this
  have hg : headReg y = ([some 4, some 9, some 13, some 18, some 23, some 28] : List (Option Nat))[i]'(by simpa using (by omega : i < 6)) := by
    have := congrArg (fun l => l[i]?) hall
    simp only [List.getElem?_map, List.getElem?_eq_getElem hi, Option.map_some, e] at this
    rw [List.getElem?_eq_getElem (by simpa using (by omega : i < 6))] at this
    exact Option.some.inj this
  have hi2 : i = 2 := by
    rw [hg] at hid
    rcases (show i = 0 ∨ i = 1 ∨ i = 2 ∨ i = 3 ∨ i = 4 ∨ i = 5 by omega) with rfl | rfl | rfl | rfl | rfl | rfl
    · simp at hid
    · simp at hid
    · rfl
    · simp at hid
    · simp at hid
    · simp at hid
  subst hi2
  have ey : y = loopK := by
    rw [← e]
    show _ = ((qyu (bodyOf Tryz.f48)).drop 2).headD .skip
    rw [List.headD_eq_head?_getD, List.head?_drop, List.getElem?_eq_getElem hi]; rfl
  subst ey
  intro K' t
  unfold eKs
  split
  · rename_i s _ _
    cases s == 0 with
    | true => exact eAt_ok h0 K' t
    | false => exact eAt_ok h1 K' t
  · trivial
theorem lvE_ok {K : Nat} {S0 S1 : qzw} {x0 x1 : LAns} (h0 : LAnsOK Tryz.prog loopE K S0 x0) (h1 : LAnsOK Tryz.prog loopE K S1 x1) : LvOK Tryz.prog (lvE K S0 x0 S1 x1) := lvOf_ok Tryz.func31 fun y hy id en hid he => by
  obtain ⟨rfl, rfl⟩ := oneL_some he
  have e2 : qyu (bodyOf Tryz.f31) = [(qyu (bodyOf Tryz.f31)).headD .skip, loopE] := by kernel_rfl
  rw [e2] at hy
  rcases List.mem_cons.1 hy with rfl | hy
  · have h9 : (headReg ((qyu (bodyOf Tryz.f31)).headD .skip) == some 10) = false := by kernel_rfl
    exact absurd hid (fun e => by rw [e] at h9; exact absurd h9 (by decide))
  · obtain rfl := List.mem_singleton.1 hy
    intro K' t
    unfold eEs
    split
    · rename_i s _ _
      cases s == 0 with
      | true => exact eAt_ok h0 K' t
      | false => exact eAt_ok h1 K' t
    · trivial
open Classical in
noncomputable def eCkM : Ent := fun args pre => .chk (decide (Meets Tryz.prog fCk args (pre.map PObj.toA) ckV0 (pre.map PObj.toA))) (.ret ckV0 pre)
open Classical in
theorem eCkM_ok : EntOK Tryz.prog fCk eCkM := fun args pre => by
  unfold eCkM
  exact ⟨fun g => of_decide_eq_true g, fun _ => trivial⟩
open Classical in
noncomputable def ckCkM (pre : List PObj) : Bool := decide (Meets Tryz.prog fCk [bkW] (pre.map PObj.toA) ckV0 (pre.map PObj.toA))
noncomputable def tCeM : Tab := [(fCk, eCkM)]
theorem tCeM_ok : TabOK Tryz.prog tCeM := .cons eCkM_ok .nil
section
variable (X Y L L2 : List (List CV)) (p q k : Nat) (o0 o1 : Bool)
theorem ck_0 : Comes tChk nolv fCk [bkW] [oSh .qzz .qzz] (.ret ckV0 [oSh .qzz .qzz]) := by unfold Comes; kernel_rfl
theorem ck_x : Comes tChk (lvK 2 (sK (pX X X.length) 2 0 (.vec 1 X.length) 0) (outC o0 (.exit 4) (sKX (pX X X.length) 2 0)) (sK (pX X X.length) 2 1 .qzz 0) (outC o1 (.exit 4) (sKX (pX X X.length) 2 1))) fCk [bkW] [oSh (.vec 1 X.length) .qzz, vC X] (.br (decide (w64 (w64 (0 + (X.length : Int)) + 0) > 400)) (.ret ckVE [oSh (.vec 1 X.length) .qzz, vC X]) (.chk (eqSt (sK (pX X X.length) 2 0 (.vec 1 X.length) 0) (sK (pX X X.length) 2 0 (.vec 1 X.length) 0)) (.chk o0 (.chk (eqSt (sK (pX X X.length) 2 1 .qzz 0) (sK (pX X X.length) 2 1 .qzz 0)) (.chk o1 (.ret ckV0 [oSh (.vec 1 X.length) .qzz, vC X])))))) := by unfold Comes; kernel_rfl
theorem ck_y : Comes tChk (lvK 2 (sK (pY Y Y.length) 2 0 .qzz 0) (outC o0 (.exit 4) (sKX (pY Y Y.length) 2 0)) (sK (pY Y Y.length) 2 1 (.vec 1 Y.length) 0) (outC o1 (.exit 4) (sKX (pY Y Y.length) 2 1))) fCk [bkW] [oSh .qzz (.vec 1 Y.length), vC Y] (.br (decide (w64 (w64 (0 + 0) + (Y.length : Int)) > 400)) (.ret ckVE [oSh .qzz (.vec 1 Y.length), vC Y]) (.chk (eqSt (sK (pY Y Y.length) 2 0 .qzz 0) (sK (pY Y Y.length) 2 0 .qzz 0)) (.chk o0 (.chk (eqSt (sK (pY Y Y.length) 2 1 (.vec 1 Y.length) 0) (sK (pY Y Y.length) 2 1 (.vec 1 Y.length) 0)) (.chk o1 (.ret ckV0 [oSh .qzz (.vec 1 Y.length), vC Y])))))) := by unfold Comes; kernel_rfl
theorem ck_b : Comes tChk (lvK 3 (sK (pXY X Y X.length Y.length) 3 0 (.vec 1 X.length) 0) (outC o0 (.exit 4) (sKX (pXY X Y X.length Y.length) 3 0)) (sK (pXY X Y X.length Y.length) 3 1 (.vec 2 Y.length) 0) (outC o1 (.exit 4) (sKX (pXY X Y X.length Y.length) 3 1))) fCk [bkW] [oSh (.vec 1 X.length) (.vec 2 Y.length), vC X, vC Y] (.br (decide (w64 (w64 (0 + (X.length : Int)) + (Y.length : Int)) > 400)) (.ret ckVE [oSh (.vec 1 X.length) (.vec 2 Y.length), vC X, vC Y]) (.chk (eqSt (sK (pXY X Y X.length Y.length) 3 0 (.vec 1 X.length) 0) (sK (pXY X Y X.length Y.length) 3 0 (.vec 1 X.length) 0)) (.chk o0 (.chk (eqSt (sK (pXY X Y X.length Y.length) 3 1 (.vec 2 Y.length) 0) (sK (pXY X Y X.length Y.length) 3 1 (.vec 2 Y.length) 0)) (.chk o1 (.ret ckV0 [oSh (.vec 1 X.length) (.vec 2 Y.length), vC X, vC Y])))))) := by unfold Comes; kernel_rfl
open Classical in
theorem ce_0 : Comes tCeM nolv fCe [bkW] [oSh .qzz .qzz] (.chk (ckCkM [oSh .qzz .qzz]) (.ret (clV .qzz) [oSh .qzz .qzz])) := by unfold Comes; kernel_rfl
open Classical in
theorem ce_x : Comes tCeM (lvE 2 (sE (pX X X.length) 2 .qzz 0 (.vec 1 X.length) 0 []) (outC o0 (.exit 2) (sEX (pX X X.length) 2 (.vec 3 X.length) 0 [some (vA L)])) (sE (pX X X.length) 2 (.vec 3 X.length) 1 .qzz 0 [some (vA L)]) (outC o1 (.exit 2) (sEX (pX X X.length) 2 (.vec 3 X.length) 1 [some (vA L)]))) fCe [bkW] [oSh (.vec 1 X.length) .qzz, vC X] (.chk (ckCkM [oSh (.vec 1 X.length) .qzz, vC X]) (.chk (eqSt (sE (pX X X.length) 2 .qzz 0 (.vec 1 X.length) 0 []) (sE (pX X X.length) 2 .qzz 0 (.vec 1 X.length) 0 [])) (.chk o0 (.chk (eqSt (sE (pX X X.length) 2 (.vec 3 X.length) 1 .qzz 0 [some (vA L)]) (sE (pX X X.length) 2 (.vec 3 X.length) 1 .qzz 0 [some (vA L)])) (.chk o1 (.ret (clV (.vec 2 X.length)) [oSh (.vec 1 X.length) .qzz, vC X, vA L])))))) := by unfold Comes; kernel_rfl
open Classical in
theorem ce_y : Comes tCeM (lvE 2 (sE (pY Y Y.length) 2 .qzz 0 .qzz 0 []) (outC o0 (.exit 2) (sEX (pY Y Y.length) 2 .qzz 0 [])) (sE (pY Y Y.length) 2 .qzz 1 (.vec 1 Y.length) 0 []) (outC o1 (.exit 2) (sEX (pY Y Y.length) 2 (.vec 3 Y.length) 1 [some (vA L)]))) fCe [bkW] [oSh .qzz (.vec 1 Y.length), vC Y] (.chk (ckCkM [oSh .qzz (.vec 1 Y.length), vC Y]) (.chk (eqSt (sE (pY Y Y.length) 2 .qzz 0 .qzz 0 []) (sE (pY Y Y.length) 2 .qzz 0 .qzz 0 [])) (.chk o0 (.chk (eqSt (sE (pY Y Y.length) 2 .qzz 1 (.vec 1 Y.length) 0 []) (sE (pY Y Y.length) 2 .qzz 1 (.vec 1 Y.length) 0 [])) (.chk o1 (.ret (clV (.vec 2 Y.length)) [oSh .qzz (.vec 1 Y.length), vC Y, vA L])))))) := by unfold Comes; kernel_rfl
open Classical in
theorem ce_b : Comes tCeM (lvE 3 (sE (pXY X Y X.length Y.length) 3 .qzz 0 (.vec 1 X.length) 0 []) (outC o0 (.exit 2) (sEX (pXY X Y X.length Y.length) 3 (.vec 4 X.length) 0 [some (vA L)])) (sE (pXY X Y X.length Y.length) 3 (.vec 4 X.length) 1 (.vec 2 Y.length) 0 [some (vA L)]) (outC o1 (.exit 2) (sEX (pXY X Y X.length Y.length) 3 (.vec 4 k) 1 [some (vA L2)]))) fCe [bkW] [oSh (.vec 1 X.length) (.vec 2 Y.length), vC X, vC Y] (.chk (ckCkM [oSh (.vec 1 X.length) (.vec 2 Y.length), vC X, vC Y]) (.chk (eqSt (sE (pXY X Y X.length Y.length) 3 .qzz 0 (.vec 1 X.length) 0 []) (sE (pXY X Y X.length Y.length) 3 .qzz 0 (.vec 1 X.length) 0 [])) (.chk o0 (.chk (eqSt (sE (pXY X Y X.length Y.length) 3 (.vec 4 X.length) 1 (.vec 2 Y.length) 0 [some (vA L)]) (sE (pXY X Y X.length Y.length) 3 (.vec 4 X.length) 1 (.vec 2 Y.length) 0 [some (vA L)])) (.chk o1 (.ret (clV (.vec 3 k)) [oSh (.vec 1 X.length) (.vec 2 Y.length), vC X, vC Y, vA L2])))))) := by unfold Comes; kernel_rfl
end
end Go.Proofs.YtphhepnldndbhaaGreatDoor.Dp
