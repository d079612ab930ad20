/- Layer 2: what is known of the program ahead of all: functions without a text, whole numbers that are picked, the examples. -/
import Derived.Test.YtebieapmoaaahaaGreatDoorGr04
import Derived.Test.YtebieapmoaaahaaGreatDoorProg
import Derived.KernelRfl
import Derived.Lib.IndexLaws
import Derived.Test.YtebieapmoaaahaaGreatDoorRows
import Derived.Shelf.Lays
import Derived.Shelf.Unicode.ValidAny
import Derived.Lib.LaidU8T
import Derived.MakeChecks
import Derived.Lib.LaidTab
import Derived.Stop.LaidErr
import Derived.Shelf.Vars
import Derived.Lib.TrimU
import Derived.Lib.DecodeN
import Derived.Laws.RangeString
import Derived.Shelf.Strconv.AtoiAll
import Init
set_option linter.unusedVariables false
set_option linter.unusedSimpArgs false
namespace Go.Proofs.YtebieapmoaaahaaGreatDoor
open Go Sx

theorem host : ∀ (f : Nat) (fn : Func), Tryz.prog.funcs[f]? = some fn → (fn.name == "runtime.NumGoroutine") = false := by
  have h : (Tryz.prog.funcs.all fun fn => !(fn.name == "runtime.NumGoroutine")) = true := by kernel_rfl
  intro f fn hf
  have := Array.all_eq_true'.1 h fn (Array.mem_of_getElem? hf)
  simpa using this

/-- What a call comes to. -/
def Comes (T : Tab) (lv : FuncId → Lv) (f : FuncId) (args : List AV) (pre : List PObj) (x : Ans) : Prop :=
  ent (R := AV × List PObj) Tryz.prog T lv 64 18446744073709551616 30 f args pre pure2 = x.run pure2
theorem ans_comes {T : Tab} {lv : FuncId → Lv} {f : FuncId} {args : List AV} {pre : List PObj} {x : Ans} (hT : TabOK Tryz.prog T) (h : Comes T lv f args pre x) (hL : LvOK Tryz.prog lv := by exact nolv_ok) : AnsOK Tryz.prog f args pre x :=
  ans_of x fun res post k => meets_ent hT host (h.trans k) hL

def tab0 : Tab := [(86, eSame), (148, eIndexByte)]
theorem tab0_ok : TabOK Tryz.prog tab0 :=
  .cons (eSame_ok Tryz.func86 (by kernel_rfl) (by kernel_rfl) (by kernel_rfl) (by kernel_rfl))
  (.cons (eIndexByte_ok Tryz.func148 (by kernel_rfl) (by kernel_rfl) (by kernel_rfl) (by kernel_rfl)) .nil)

/-- Answers that come to the same. -/
theorem of_run {f : FuncId} {args : List AV} {pre : List PObj} {x y : Ans} (h : AnsOK Tryz.prog f args pre x) (e : ∀ r, y.run pure2 = some r → x.run pure2 = some r) : AnsOK Tryz.prog f args pre y :=
  ans_of y fun res post k => by
    obtain ⟨a, b, h1, h2⟩ := Ans.sound x h (e _ k)
    cases h2; exact h1
theorem bcT {α : Type} {b : Bool} {x y : α} (h : b = true) : bcond b x y = x := by rw [h]; rfl
theorem bcF {α : Type} {b : Bool} {x y : α} (h : b = false) : bcond b x y = y := by rw [h]; rfl
theorem chk_run {b : Bool} {x : Ans} {r : AV × List PObj} (h : (Ans.chk b x).run pure2 = some r) : b = true ∧ x.run pure2 = some r := by
  cases b
  · cases h
  · exact ⟨rfl, h⟩

/-- The examples. -/
def eTrue : Ent := fun args pre => match args, pre with | [], [] => .ret (.bool true) [] | _, _ => .fail
end Go.Proofs.YtebieapmoaaahaaGreatDoor

/- Layer 2: apostrophes that are doubled. -/
set_option linter.unusedVariables false
set_option linter.unusedSimpArgs false
namespace Go.Proofs.YtebieapmoaaahaaGreatDoor
open Go Sx

def roomB (acc : List UInt8) (m k : Nat) : Bool := true && decide ((PObj.vecB acc 5).len = m * 1) && decide (2 * (m + k) * 1 ≤ 281474976710656 ∧ 2 * (m + k) < 9223372036854775808)
end Go.Proofs.YtebieapmoaaahaaGreatDoor

/- Layer 2: apostrophes that are doubled. -/
set_option linter.unusedVariables false
set_option linter.unusedSimpArgs false
namespace Go.Proofs.YtebieapmoaaahaaGreatDoor
open Go Sx

end Go.Proofs.YtebieapmoaaahaaGreatDoor

/- Nothing more. -/
namespace Go.Proofs.YtebieapmoaaahaaGreatDoor
end Go.Proofs.YtebieapmoaaahaaGreatDoor

/- The tables that the program reads, out of what the row lists; utf8.ValidString by the library's own contract, laid over this program in plain words. -/
set_option linter.unusedVariables false
set_option linter.unusedSimpArgs false
namespace Go.Proofs.YtebieapmoaaahaaGreatDoor
open Go Sx Go.Shelf

def layRen : Ren := ⟨fun | 196 => 129 | 259 => 151 | n => n, fun | 9 => 9 | 4 => 4 | 3 => 3 | 5 => 5 | 12 => 12 | 119 => 144 | 0 => 0 | 46 => 123 | 139 => 147 | 138 => 146 | 53 => 149 | n => n, fun | 3 => 2 | 4 => 3 | n => n⟩
theorem layValid : Lays.n196 Tryz.prog layRen := {
  mixed := by kernel_rfl,
  f196 := Tryz.func129.trans (congrArg some (by kernel_rfl)),
  f259 := Tryz.func151.trans (congrArg some (by kernel_rfl)),
  t0 := Tryz.underlying0,
  a0 := Tryz.isAgg0,
  z0 := Tryz.sizeOf0,
  v0 := Tryz.zeroValue0,
  t3 := Tryz.underlying3,
  a3 := Tryz.isAgg3,
  z3 := Tryz.sizeOf3,
  v3 := Tryz.zeroValue3,
  t4 := Tryz.underlying4,
  a4 := Tryz.isAgg4,
  z4 := Tryz.sizeOf4,
  v4 := Tryz.zeroValue4,
  t5 := Tryz.underlying5,
  a5 := Tryz.isAgg5,
  z5 := Tryz.sizeOf5,
  v5 := Tryz.zeroValue5,
  t9 := Tryz.underlying9,
  a9 := Tryz.isAgg9,
  z9 := Tryz.sizeOf9,
  v9 := Tryz.zeroValue9,
  t12 := Tryz.underlying12,
  a12 := Tryz.isAgg12,
  z12 := Tryz.sizeOf12,
  v12 := Tryz.zeroValue12,
  t46 := Tryz.underlying123,
  a46 := Tryz.isAgg123,
  z46 := Tryz.sizeOf123,
  v46 := Tryz.zeroValue123,
  t53 := Tryz.underlying149,
  a53 := Tryz.isAgg149,
  z53 := Tryz.sizeOf149,
  v53 := Tryz.zeroValue149,
  t119 := Tryz.underlying144,
  a119 := Tryz.isAgg144,
  z119 := Tryz.sizeOf144,
  t138 := Tryz.underlying146,
  a138 := Tryz.isAgg146,
  z138 := Tryz.sizeOf146,
  v138 := Tryz.zeroValue146,
  t139 := Tryz.underlying147,
  a139 := Tryz.isAgg147,
  z139 := Tryz.sizeOf147,
  v139 := Tryz.zeroValue147,
  g3 := by kernel_rfl,
  g4 := by kernel_rfl }
theorem layExtra : U8Extra Tryz.prog layRen := { n3 := by kernel_rfl, n4 := by kernel_rfl, y3 := by kernel_rfl, y4 := by kernel_rfl, c5 := by kernel_rfl, c119 := by kernel_rfl, c138 := by kernel_rfl }

theorem tabs_of_glob {w : World} {M : Nat → Prop} (h : GlobOK w M) : Lib.Utf8Tabs 2 3 w := by
  obtain ⟨_, _, h0⟩ := h.tab (g := 2) rfl
  obtain ⟨_, _, h1⟩ := h.tab (g := 3) rfl
  refine ⟨fun c hc => h0 c _ (by simp [gvals, List.getElem?_range hc]), fun i hi => ⟨h1 (2 * i) _ ?_, h1 (2 * i + 1) _ ?_⟩⟩
  · simp only [gvals, List.getElem?_map, List.getElem?_range (show 2 * i < 32 by omega), Option.map_some]
    simp
  · simp only [gvals, List.getElem?_map, List.getElem?_range (show 2 * i + 1 < 32 by omega), Option.map_some]
    rw [if_neg (by omega), show (2 * i + 1) / 2 = i by omega]
theorem tabs_part {w : World} (h : Lib.Utf8Tabs 2 3 w) (ht : Lib.TabIs Tryz.prog w "internal/strconv.uint64pow10" .u64 Lib.pow10Tab) : ∀ g l, gtab g = some l → g < w.heap.size ∧ ¬ (fun _ : Nat => False) g ∧ ∀ (i : Nat) x, (gvals l)[i]? = some x → w.cell? ⟨g, i, none⟩ = some x := by
  intro g l hg
  have big : ∀ {b i : Nat} {x : Value}, w.cell? ⟨b, i, none⟩ = some x → b < w.heap.size := fun {b i x} e => by
    rcases Nat.lt_or_ge b w.heap.size with h' | h'
    · exact h'
    · simp [World.cell?, Array.getElem?_eq_none h'] at e
  unfold gtab at hg
  split at hg
  · cases hg
    refine ⟨big (h.1 0 (by omega)), fun e => e, fun i x hx => ?_⟩
    have hi : i < 256 := by have := (List.getElem?_eq_some_iff.1 hx).1; simpa [gvals] using this
    simp only [gvals, List.getElem?_map, List.getElem?_range hi, Option.map_some, Option.some.injEq] at hx
    rw [← hx]; exact h.1 i hi
  · cases hg
    refine ⟨big (h.2 0 (by omega)).1, fun e => e, fun i x hx => ?_⟩
    have hi : i < 32 := by have := (List.getElem?_eq_some_iff.1 hx).1; simpa [gvals] using this
    simp only [gvals, List.getElem?_map, List.getElem?_range hi, Option.map_some, Option.some.injEq] at hx
    rw [← hx]
    by_cases c : i % 2 = 0
    · rw [if_pos c]
      have := (h.2 (i / 2) (by omega)).1
      rwa [show 2 * (i / 2) = i by omega] at this
    · rw [if_neg c]
      have := (h.2 (i / 2) (by omega)).2
      rwa [show 2 * (i / 2) + 1 = i by omega] at this
  · cases hg
    refine ⟨big (ht.cell (g := 6) (by kernel_rfl) 0 (by decide)), fun e => e, fun i x hx => ?_⟩
    have hi : i < 20 := by have := (List.getElem?_eq_some_iff.1 hx).1; simpa [gvals, Lib.pow10Tab] using this
    rw [ht.cell (g := 6) (by kernel_rfl) i (by simpa [Lib.pow10Tab] using hi)]
    simp only [gvals, List.map_map, List.getElem?_map, Option.map_eq_some_iff, Function.comp] at hx
    obtain ⟨z, hz, rfl⟩ := hx
    simp [List.getD, hz]
  · cases hg
theorem strs_part {w : World} (hf : ∀ (i : Nat) x, (gvalsS ((gstr 0).getD []))[i]? = some x → w.cell? ⟨0, i, none⟩ = some x) : ∀ g l, gtab g = none → gstr g = some l → g < w.heap.size ∧ ∀ (i : Nat) x, (gvalsS l)[i]? = some x → w.cell? ⟨g, i, none⟩ = some x := by
  intro g l _ hg
  unfold gstr at hg
  split at hg
  · cases hg
    refine ⟨?_, hf⟩
    have e := hf 0 _ rfl
    rcases Nat.lt_or_ge 0 w.heap.size with h' | h'
    · exact h'
    · simp [World.cell?, Array.getElem?_eq_none h'] at e
  · cases hg
theorem glob_of_tabs {w : World} (h : Lib.Utf8Tabs 2 3 w) (ht : Lib.TabIs Tryz.prog w "internal/strconv.uint64pow10" .u64 Lib.pow10Tab) (h4 : ∃ t v, w.cell? ⟨4, 0, none⟩ = some (.iface t v)) (h5 : ∃ t v, w.cell? ⟨5, 0, none⟩ = some (.iface t v))
    (hf : ∀ (i : Nat) x, (gvalsS ((gstr 0).getD []))[i]? = some x → w.cell? ⟨0, i, none⟩ = some x) (hm : ∃ n, w.cell? ⟨1, 0, none⟩ = some (.int .i64 n)) : GlobOK w fun _ => False := by
  intro g hg
  have big : ∀ {b : Nat} {x : Value}, w.cell? ⟨b, 0, none⟩ = some x → b < w.heap.size := fun {b x} e => by
    rcases Nat.lt_or_ge b w.heap.size with h' | h'
    · exact h'
    · simp [World.cell?, Array.getElem?_eq_none h'] at e
  have her : gerr g = true → g < w.heap.size ∧ ∃ t v, w.cell? ⟨g, 0, none⟩ = some (.iface t v) := fun he => by
    have : g = 4 ∨ g = 5 := by
      unfold gerr at he
      split at he
      · exact .inl rfl
      · exact .inr rfl
      · cases he
    rcases this with rfl | rfl
    · obtain ⟨t, v, e⟩ := h4; exact ⟨big e, t, v, e⟩
    · obtain ⟨t, v, e⟩ := h5; exact ⟨big e, t, v, e⟩
  have hin : gint g = true → g < w.heap.size ∧ ∃ n, w.cell? ⟨g, 0, none⟩ = some (.int .i64 n) := fun he => by
    have : g = 1 := by
      unfold gint at he
      split at he
      · rfl
      · cases he
    subst this
    obtain ⟨n, e⟩ := hm; exact ⟨big e, n, e⟩
  have hal : ∀ p, gAll g = some p → g < w.heap.size ∧ ∀ (i : Nat) x, p.2[i]? = some x → w.cell? ⟨g, i, none⟩ = some x := fun p hp => by
    unfold gAll at hp
    split at hp
    · rename_i l hl; cases hp; have := tabs_part h ht g l hl; exact ⟨this.1, this.2.2⟩
    · rename_i hn
      split at hp
      · rename_i l hl; cases hp; exact strs_part hf g l hn hl
      · cases hp
  refine ⟨?_, fun e => e, fun p hp => (hal p hp).2, fun he => (her he).2, fun he => (hin he).2⟩
  cases hgt : gAll g with
  | some p => exact (hal p hgt).1
  | none =>
    unfold gAny at hg
    rw [hgt] at hg
    cases he : gerr g with
    | true => exact (her he).1
    | false => rw [he] at hg; exact (hin (by simpa using hg)).1
/-- A table of texts, out of what the row lists. -/
theorem cells_of_strs {H : Type} {enc : TypeId × Value → H} {P : Program} {w : World} {base : Nat} {sp : Nat → Bool} {held : Bool} {fuel : Nat} {t e : TypeId} {n : Nat} {cs : List Value} {zs : List (List UInt8)} {p : List MemPlace}
    (ht : P.underlying t = some (.array n e)) (he : P.underlying e = some .string) (hce : P.cellsOf e = 1) (hct : P.cellsOf t = n)
    (h : DataW.trod enc P w base sp held fuel t cs = some (.agg (zs.map fun z => .lit (.string z)), p)) : cs = gvalsS zs := by
  cases fuel with
  | zero => simp [DataW.trod] at h
  | succ fuel =>
    simp only [DataW.trod, ht, hce, hct, Nat.mul_one] at h
    split at h
    · rename_i hl
      obtain ⟨xs, hm, hx⟩ := Option.map_eq_some_iff.1 h
      have hxs : xs.map (·.1) = zs.map fun z => (DataW.lit (.string z) : DataW H) := by
        have := congrArg Prod.fst hx
        simpa using this
      have hxl : xs.length = n := by simpa using Lib.mapM_length hm
      have hzl : zs.length = n := by
        have := congrArg List.length hxs
        simp at this
        omega
      apply List.ext_getElem?
      intro i
      by_cases hi : i < n
      · obtain ⟨b, hb, hf⟩ := Lib.mapM_at hm i i (by simp [hi])
        obtain ⟨z, hc, rfl, _⟩ := DataW.trod_string he hf
        have h1 : cs[i]? = some (.string z) := by
          have := congrArg (·[0]?) hc
          simpa [List.getElem?_take, List.getElem?_drop] using this
        have h2 : (xs.map (·.1))[i]? = some (DataW.lit (.string z.data.toList) : DataW H) := by simp [hb]
        rw [hxs] at h2
        simp only [List.getElem?_map, Option.map_eq_some_iff, DataW.lit.injEq, Lit.string.injEq] at h2
        obtain ⟨z', hz', rfl⟩ := h2
        simp [h1, gvalsS, hz']
      · rw [List.getElem?_eq_none (by omega), List.getElem?_eq_none (by simp [gvalsS]; omega)]
    · cases h
theorem faults_of_laid {rest : List (String × DataW Unit)} {W : World} (h : laidMet Tryz.prog (("tabula/lex.faults", Rows.laid_tabula_lex_faults) :: rest) W) : ∀ (i : Nat) x, (gvalsS ((gstr 0).getD []))[i]? = some x → W.cell? ⟨0, i, none⟩ = some x := by
  have hg : Tryz.prog.globalNamed "tabula/lex.faults" = some 0 := by kernel_rfl
  have hty : (Tryz.prog.globals[0]?).map (·.type) = some 112 := by kernel_rfl
  obtain ⟨ps, ⟨g', t', cs, fuel, p, q, hg', ht', hvar, hd, _, _⟩, _⟩ := h
  obtain rfl := Option.some.inj (hg.symm.trans hg')
  obtain rfl := Option.some.inj (hty.symm.trans ht')
  have he : (Rows.laid_tabula_lex_faults : DataW Unit) = .agg (((gstr 0).getD []).map fun z => .lit (.string z)) := by kernel_rfl
  rw [he] at hd
  have hc := cells_of_strs Tryz.underlying112 Tryz.underlying9 (by kernel_rfl) (by kernel_rfl) hd
  intro i x hx
  have := World.var?_cell hg hvar i
  rw [this, ← hx, ← hc]
  simp
theorem maxlen_of_shape {W : World} (h : W.ShapedOpen Tryz.prog) : ∃ n, W.cell? ⟨1, 0, none⟩ = some (.int .i64 n) :=
  cell_of_shapedOpen_int (t := 3) (zero := #[.int .i64 0]) h (of_decide_eq_true (by kernel_rfl)) (by kernel_rfl) rfl (by kernel_rfl) (by kernel_rfl) Tryz.underlying3
theorem tab_of_laid {W : World} (h : laidMet Tryz.prog Rows.lexWordsRow.laid W) : Lib.TabIs Tryz.prog W "internal/strconv.uint64pow10" .u64 Lib.pow10Tab := by
  have h2 : laidMet Tryz.prog (("internal/strconv.uint64pow10", Lib.tabData .u64 Lib.pow10Tab) :: Rows.lexWordsRow.laid.drop 3) W := by
    have e : (Rows.laid_internal_strconv_uint64pow10 : DataW Unit) = Lib.tabData .u64 Lib.pow10Tab := by kernel_rfl
    rw [← e]; exact h.tail.tail
  exact Lib.tabIs_of_head (g := 6) (t := 172) (e := 149) (n := 20) (by kernel_rfl) (by kernel_rfl) Tryz.underlying172 Tryz.underlying149 (by kernel_rfl) (by kernel_rfl) h2
theorem star_err : "*" ++ "errors.errorString" = "*errors.errorString" := by decide
theorem row_err (u : TypeId) (h : Tryz.prog.typeName? 3 u = some "*errors.errorString") : u = 162 := by
  exact typeName_ptr_named (nm := "errors.errorString") (by rw [star_err]; kernel_rfl) (by kernel_rfl) (by decide) u (by rw [star_err]; exact h)
theorem err_cell {n : String} {g : Nat} {text : List UInt8} {r : List (String × DataW Unit)} {W : World} (h : laidMet Tryz.prog ((n, .iface "*errors.errorString" (.ptr (.agg [.lit (.string text)]))) :: r) W) (hg : Tryz.prog.globalNamed n = some g) (ht : (Tryz.prog.globals[g]?).map (·.type) = some 56) : ∃ t v, W.cell? ⟨g, 0, none⟩ = some (.iface t v) := by
  obtain ⟨a, s, hv, _, _, _⟩ := laid_sentinel h hg ht Tryz.underlying56 row_err Tryz.underlying162 Tryz.underlying164 rfl rfl Tryz.underlying9 (by kernel_rfl) (by kernel_rfl)
  exact ⟨_, _, by rw [World.var?_cell hg hv 0]; rfl⟩
theorem glob_of_laid {W : World} (h : laidMetH Tryz.prog Rows.lexWordsRow.laid W) (hs : W.ShapedOpen Tryz.prog) : GlobOK W fun _ => False := by
  rw [MakeChecks.laidMetH_plain _ _ _ (by kernel_rfl)] at h
  have ht := tab_of_laid h
  have hall := h
  obtain ⟨ps, hv, _⟩ := h
  have h3 := Lib.LaidVars_reads hv "unicode/utf8.first" Pinned.utf8First (by simp [Rows.lexWordsRow, Rows.laid_unicode_utf8_first])
  have h4 := Lib.LaidVars_reads hv "unicode/utf8.acceptRanges" Rows.laid_unicode_utf8_acceptRanges (by simp [Rows.lexWordsRow])
  have e3 : (Pinned.utf8First : DataW Unit) = Lib.firstData := by kernel_rfl
  rw [e3] at h3
  have e4 : (Rows.laid_unicode_utf8_acceptRanges : DataW Unit) = Lib.acceptData := by kernel_rfl
  rw [e4] at h4
  exact glob_of_tabs (utf8Tabs_of_readsT (U8Types.of196 layValid) layExtra h3 h4) ht
    (err_cell (r := Rows.lexWordsRow.laid.drop 6) (text := [105, 110, 118, 97, 108, 105, 100, 32, 115, 121, 110, 116, 97, 120]) hall.tail.tail.tail.tail.tail (by kernel_rfl) (by kernel_rfl))
    (err_cell (r := Rows.lexWordsRow.laid.drop 5) (text := [118, 97, 108, 117, 101, 32, 111, 117, 116, 32, 111, 102, 32, 114, 97, 110, 103, 101]) hall.tail.tail.tail.tail (by kernel_rfl) (by kernel_rfl))
    (faults_of_laid (rest := Rows.lexWordsRow.laid.drop 7) hall.tail.tail.tail.tail.tail.tail) (maxlen_of_shape hs)

/-- utf8.ValidString. -/
def eValid : Ent := fun args pre => match args, pre with
  | [.str l], [] => .chk (decide (l.length ≤ 9223372036854775807)) (.ret (.bool (Lib.validD l)) [])
  | _, _ => .fail
theorem valid_ok : EntOK Tryz.prog 129 eValid := fun args pre => by
  unfold eValid
  split
  · rename_i l
    refine ⟨fun hb => ?_, fun _ => trivial⟩
    have hl : l.length ≤ 9223372036854775807 := by simpa using hb
    intro w E vs hvs hp
    obtain ⟨x, zs, hx, hz, rfl⟩ := denL_cons.1 hvs
    simp only [denL, Option.some.injEq] at hz
    subst hz
    have hx : x = .string ⟨l.toArray⟩ := by simpa [den] using hx.symm
    subst hx
    have hc := Any.utf8_ValidString layValid ⟨l.toArray⟩ w (by simpa [ByteArray.size] using hl) (tabs_of_glob hp.glob)
    refine .inl ⟨129, _, Tryz.call129 _ _, hc.mono ?_⟩
    rintro e w' ⟨rfl, hb'⟩
    refine ⟨E, _, rfl, rfl, ⟨.refl _, hp.fresh, fun n o h => by simp at h, fun n b c o _ h => by simp at h, fun k hk _ => hb'.block k hk, fun n m o o' b c b' c' _ _ h => by simp at h, hb'.size, hb'.os, hb'.tape, hb'.output⟩⟩
  · trivial

end Go.Proofs.YtebieapmoaaahaaGreatDoor

/- What the texts of layer 2 share. -/
set_option linter.unusedVariables false
namespace Go.Proofs.YtebieapmoaaahaaGreatDoor.Sx
open Go
/-- So many empty places, and no more. -/
def nonesB : Nat → List (Option PObj) → Bool
  | 0, [] => true
  | n + 1, none :: r => nonesB n r
  | _, _ => false
theorem nonesB_eq : ∀ (n : Nat) (l : List (Option PObj)), nonesB n l = true → l = List.replicate n none
  | 0, [], _ => rfl
  | 0, _ :: _, h => by cases h
  | n + 1, [], h => by cases h
  | n + 1, none :: r, h => by rw [List.replicate_succ, ← nonesB_eq n r h]
  | n + 1, some _ :: r, h => by cases h
end Go.Proofs.YtebieapmoaaahaaGreatDoor.Sx
namespace Go.Proofs.YtebieapmoaaahaaGreatDoor
open Go Sx
abbrev tab1 : Tab := tab0
theorem tab1_ok : TabOK Tryz.prog tab1 := tab0_ok
end Go.Proofs.YtebieapmoaaahaaGreatDoor

/- Layer 2: letters and digits ahead. -/
set_option linter.unusedVariables false
set_option linter.unusedSimpArgs false
namespace Go.Proofs.YtebieapmoaaahaaGreatDoor
open Go Sx

def letB (c : Int) : Bool := decide ((65 ≤ c ∧ c ≤ 90) ∨ (97 ≤ c ∧ c ≤ 122))
def digB (c : Int) : Bool := decide (48 ≤ c ∧ c ≤ 57)
def eRune (f : Int → Bool) : Ent := fun args pre => match args, pre with
  | [.int .i32 c], [] => .ret (.bool (f c)) []
  | _, _ => .fail
theorem letter_ok : EntOK Tryz.prog 54 (eRune letB) := fun args pre => by
  unfold eRune
  split
  · rename_i c
    have e : Comes tab0 nolv 54 [.int .i32 c] [] (.br (decide (c ≥ 65)) (.br (decide (c ≤ 90)) (.ret (.bool true) []) (.br (decide (c ≥ 97)) (.ret (.bool (decide (c ≤ 122))) []) (.ret (.bool false) [])))
      (.br (decide (c ≥ 97)) (.ret (.bool (decide (c ≤ 122))) []) (.ret (.bool false) []))) := by unfold Comes; kernel_rfl
    refine of_run (ans_comes tab0_ok e) fun x h => ?_
    rw [← h]
    simp only [Ans.run, letB]
    have key : ∀ b c : Bool, b = c → pure2 (.bool b) [] = pure2 (.bool c) [] := fun b c e => by rw [e]
    have rest : ¬ (65 ≤ c ∧ c ≤ 90) → bcond (decide (c ≥ 97)) (pure2 (.bool (decide (c ≤ 122))) []) (pure2 (.bool false) []) = pure2 (.bool (decide ((65 ≤ c ∧ c ≤ 90) ∨ (97 ≤ c ∧ c ≤ 122)))) [] := fun hn => by
      by_cases h3 : c ≥ 97
      · rw [bcT (b := decide (c ≥ 97)) (decide_eq_true h3)]; exact key _ _ (by rw [decide_eq_decide]; omega)
      · rw [bcF (b := decide (c ≥ 97)) (decide_eq_false h3)]; exact key _ _ (by symm; rw [decide_eq_false_iff_not]; omega)
    by_cases h1 : c ≥ 65
    · rw [bcT (b := decide (c ≥ 65)) (decide_eq_true h1)]
      by_cases h2 : c ≤ 90
      · rw [bcT (b := decide (c ≤ 90)) (decide_eq_true h2)]; exact key _ _ (by symm; rw [decide_eq_true_eq]; omega)
      · rw [bcF (b := decide (c ≤ 90)) (decide_eq_false h2)]; exact rest (by omega)
    · rw [bcF (b := decide (c ≥ 65)) (decide_eq_false h1)]; exact rest (by omega)
  · trivial
theorem digit_ok : EntOK Tryz.prog 56 (eRune digB) := fun args pre => by
  unfold eRune
  split
  · rename_i c
    have e : Comes tab0 nolv 56 [.int .i32 c] [] (.br (decide (c ≥ 48)) (.ret (.bool (decide (c ≤ 57))) []) (.ret (.bool false) [])) := by unfold Comes; kernel_rfl
    refine of_run (ans_comes tab0_ok e) fun x h => ?_
    rw [← h]
    simp only [Ans.run, digB]
    have key : ∀ b c : Bool, b = c → pure2 (.bool b) [] = pure2 (.bool c) [] := fun b c e => by rw [e]
    by_cases h1 : c ≥ 48
    · rw [bcT (b := decide (c ≥ 48)) (decide_eq_true h1)]; exact key _ _ (by rw [decide_eq_decide]; omega)
    · rw [bcF (b := decide (c ≥ 48)) (decide_eq_false h1)]; exact key _ _ (by symm; rw [decide_eq_false_iff_not]; omega)
  · trivial
def tabL : Tab := (54, eRune letB) :: (56, eRune digB) :: tab0
theorem tabL_ok : TabOK Tryz.prog tabL := .cons letter_ok (.cons digit_ok tab0_ok)

/-- Where the first sign is that is not so. -/
def runeAt (l : List UInt8) (p : Nat) : Int := ((Utf8.decode ⟨l.toArray⟩ p).1 : Int)
def scanF (f : Int → Bool) (l : List UInt8) : Nat → Nat → Option Nat
  | 0, _ => none
  | n + 1, p => bcond (decide (p < l.length)) (bcond (f (runeAt l p) == false) (some p) (scanF f l n (p + (Utf8.decode ⟨l.toArray⟩ p).2))) none
def st53 (k : Nat) (l : List UInt8) (p : Nat) : PState :=
  ⟨none :: some (.func k [] []) :: some (.bool false) :: none :: none :: none :: some (.int .i64 0) :: none :: none :: none :: some (.ptr 0 0) :: List.replicate 10 none, some (.raw (.iter l p)) :: List.replicate 64 none⟩
def fin53 (z : Int) : PState := ⟨none :: none :: none :: none :: none :: none :: some (.int .i64 z) :: List.replicate 14 none, List.replicate 64 none⟩
def rnd53 (f : Int → Bool) (k : Nat) (l : List UInt8) (p : Nat) : Option (Ex × PState) :=
  bcond (decide (p < l.length)) (bcond (f (runeAt l p) == false) (some (.ret, fin53 (p : Int))) (some (.normal, st53 k l (p + (Utf8.decode ⟨l.toArray⟩ p).2)))) (some (.exit 0, fin53 0))
theorem round53a (l : List UInt8) (p : Nat) : code (ent Tryz.prog tabL nolv 64 1 1) Tryz.prog {} 0 64 1 ((loopBodies (bodyOf Tryz.f83)).headD .skip) (st53 54 l p) (endK 0 64 (fun n => hasN [1, 2, 6, 10] n) (fun n => hasN [6] n)) = rnd53 letB 54 l p := by kernel_rfl
theorem round53b (l : List UInt8) (p : Nat) : code (ent Tryz.prog tabL nolv 64 1 1) Tryz.prog {} 0 64 1 ((loopBodies (bodyOf Tryz.f83)).headD .skip) (st53 56 l p) (endK 0 64 (fun n => hasN [1, 2, 6, 10] n) (fun n => hasN [6] n)) = rnd53 digB 56 l p := by kernel_rfl
theorem scan_lt {f : Int → Bool} {l : List UInt8} : ∀ (n p q : Nat), scanF f l n p = some q → q < l.length
  | 0, p, q, h => by cases h
  | n + 1, p, q, h => by
    simp only [scanF] at h
    by_cases h1 : p < l.length
    · rw [bcT (b := decide (p < l.length)) (decide_eq_true h1)] at h
      cases h2 : (f (runeAt l p) == false) with
      | true => rw [h2] at h; cases h; exact h1
      | false => rw [h2] at h; exact scan_lt n _ q h
    · rw [bcF (b := decide (p < l.length)) (decide_eq_false h1)] at h; cases h
def res53 (o : Option Nat) : Ex × PState := (bcond o.isNone (.exit 0) .ret, fin53 ((o.getD 0 : Nat) : Int))
theorem loop53 (f : Int → Bool) (k : Nat) (l : List UInt8) (hr : ∀ p, code (ent Tryz.prog tabL nolv 64 1 1) Tryz.prog {} 0 64 1 ((loopBodies (bodyOf Tryz.f83)).headD .skip) (st53 k l p) (endK 0 64 (fun n => hasN [1, 2, 6, 10] n) (fun n => hasN [6] n)) = rnd53 f k l p) :
    Tri Tryz.prog (.loop ((loopBodies (bodyOf Tryz.f83)).headD .skip)) (st53 k l 0).toA (res53 (scanF f l l.length 0)).1 (res53 (scanF f l l.length 0)).2.toA 0 := by
  refine loop_rounds (ι := { q : Nat × Nat // l.length ≤ q.1 + q.2 }) (ent_sound (NF := 64) (m := 1) tabL_ok host nolv_ok 1) (lv := {}) (NF := 64) (m := 1) (fun x hx id e h1 h2 => by cases h2) (fun n => hasN [1, 2, 6, 10] n) (fun n => hasN [6] n) (fun q => st53 k l q.1.1) (fun q => q.1.2) (fun q => res53 (scanF f l q.1.2 q.1.1)) ?_ (fun q => by simp only [res53]; cases (scanF f l q.1.2 q.1.1).isNone <;> simp [bcond]) ⟨(0, l.length), by simp⟩
  rintro ⟨⟨p, n⟩, hq⟩
  simp only at hq ⊢
  rw [hr]
  unfold rnd53
  cases n with
  | zero => exact .inr (by rw [bcF (b := decide (p < l.length)) (decide_eq_false (by omega))]; rfl)
  | succ n =>
    simp only [scanF]
    by_cases h1 : p < l.length
    · rw [bcT (b := decide (p < l.length)) (decide_eq_true h1)]
      rw [bcT (b := decide (p < l.length)) (decide_eq_true h1)]
      cases h2 : (f (runeAt l p) == false) with
      | true => exact .inr rfl
      | false =>
        have hd : 1 ≤ (Utf8.decode ⟨l.toArray⟩ p).2 := Lib.width_pos _ _
        exact .inl ⟨⟨(p + (Utf8.decode ⟨l.toArray⟩ p).2, n), by simp only; omega⟩, by simp, rfl, rfl⟩
    · rw [bcF (b := decide (p < l.length)) (decide_eq_false h1)]
      rw [bcF (b := decide (p < l.length)) (decide_eq_false h1)]
      exact .inr rfl

def nonesV : Nat → List (Option AV) → Bool
  | 0, [] => true
  | n + 1, none :: r => nonesV n r
  | _, _ => false
theorem nonesV_eq : ∀ (n : Nat) (l : List (Option AV)), nonesV n l = true → l = List.replicate n none
  | 0, [], _ => rfl
  | 0, _ :: _, h => by cases h
  | n + 1, [], h => by cases h
  | n + 1, none :: r, h => by rw [List.replicate_succ, ← nonesV_eq n r h]
  | n + 1, some _ :: r, h => by cases h
def ans53 (o : Option Nat) : LAns := .br o.isNone (.out (.exit 0) (fin53 0)) (.out .ret (fin53 ((o.getD 0 : Nat) : Int)))
def e53 : Nat → PState → LAns := fun K t => match K, t with
  | 0, ⟨none :: some (.func 54 [] []) :: some (.bool false) :: none :: none :: none :: some (.int .i64 z) :: none :: none :: none :: some (.ptr 0 0) :: rs, some (.raw (.iter l 0)) :: rm⟩ =>
    .chk (nonesV 10 rs) (.chk (nonesB 64 rm) (.chk (decide (z = 0)) (ans53 (scanF letB l l.length 0))))
  | 0, ⟨none :: some (.func 56 [] []) :: some (.bool false) :: none :: none :: none :: some (.int .i64 z) :: none :: none :: none :: some (.ptr 0 0) :: rs, some (.raw (.iter l 0)) :: rm⟩ =>
    .chk (nonesV 10 rs) (.chk (nonesB 64 rm) (.chk (decide (z = 0)) (ans53 (scanF digB l l.length 0))))
  | _, _ => .fail
def lv53 : FuncId → Lv := fun f => match f with
  | 83 => { keep := fun _ => some [1, 2, 6, 10], ent := fun i => match i with | 2 => some e53 | _ => none }
  | _ => {}
theorem ans53_ok {s : PState} {o : Option Nat} (h : Tri Tryz.prog (.loop ((loopBodies (bodyOf Tryz.f83)).headD .skip)) s.toA (res53 o).1 (res53 o).2.toA 0) : LAnsOK Tryz.prog ((loopBodies (bodyOf Tryz.f83)).headD .skip) 0 s (ans53 o) := by
  unfold ans53
  cases o with
  | none => exact ⟨fun _ => h, fun e => by cases e⟩
  | some q => exact ⟨fun e => (by cases e), fun _ => h⟩
theorem lv53_ok : LvOK Tryz.prog lv53 := by
  intro f fn body hf hb K x hx id e hid he t
  by_cases h : f = 83
  · subst h
    obtain rfl : fn = Tryz.f83 := (Option.some.inj (Tryz.func83.symm.trans hf)).symm
    have hbody : body = bodyOf Tryz.f83 := by unfold bodyOf; rw [hb]; rfl
    subst hbody
    have h1 : loopBodies (bodyOf Tryz.f83) = [(loopBodies (bodyOf Tryz.f83)).headD .skip] := by kernel_rfl
    rw [h1] at hx
    have hx' := List.mem_singleton.1 hx
    have h2 : id = 2 := by
      have h3 : headReg ((loopBodies (bodyOf Tryz.f83)).headD .skip) = some 2 := by kernel_rfl
      rw [hx', h3] at hid; exact (Option.some.inj hid).symm
    subst h2
    have he' : e53 = e := Option.some.inj he
    subst he'
    rw [hx']
    clear hx hx' hid he hb hf h1
    unfold e53
    split
    · rename_i z rs l rm
      refine ⟨fun g1 => ⟨fun g2 => ⟨fun g3 => ?_, fun _ => trivial⟩, fun _ => trivial⟩, fun _ => trivial⟩
      rw [nonesV_eq _ _ g1, nonesB_eq _ _ g2, of_decide_eq_true g3]
      exact ans53_ok (loop53 letB 54 l (round53a l))
    · rename_i z rs l rm
      refine ⟨fun g1 => ⟨fun g2 => ⟨fun g3 => ?_, fun _ => trivial⟩, fun _ => trivial⟩, fun _ => trivial⟩
      rw [nonesV_eq _ _ g1, nonesB_eq _ _ g2, of_decide_eq_true g3]
      exact ans53_ok (loop53 digB 56 l (round53b l))
    · trivial
  · exfalso
    have : (lv53 f).ent id = none := by
      unfold lv53
      split
      · exact absurd rfl h
      · rfl
    rw [this] at he; cases he

/-- What is left behind the signs that are so. -/
def trimF (f : Int → Bool) (l : List UInt8) : List UInt8 := bcond (scanF f l l.length 0).isNone [] (l.drop ((scanF f l l.length 0).getD 0))
def eTrim : Ent := fun args pre => match args, pre with
  | [.str l, .func 54 [] []], [] => .chk (decide (l.length ≤ 9223372036854775807)) (.ret (.str (trimF letB l)) [])
  | [.str l, .func 56 [] []], [] => .chk (decide (l.length ≤ 9223372036854775807)) (.ret (.str (trimF digB l)) [])
  | _, _ => .fail
end Go.Proofs.YtebieapmoaaahaaGreatDoor

/- Layer 2: plain names. -/
set_option linter.unusedVariables false
set_option linter.unusedSimpArgs false
namespace Go.Proofs.YtebieapmoaaahaaGreatDoor
open Go Sx

theorem trim_run (f : Int → Bool) (l : List UInt8) (r : AV × List PObj) (h : (Ans.chk (decide (l.length ≤ 9223372036854775807)) (.ret (.str (trimF f l)) [])).run pure2 = some r) :
    (Ans.br (scanF f l l.length 0).isNone (.ret (.str []) []) (.br (decide (0 ≤ (((scanF f l l.length 0).getD 0 : Nat) : Int) ∧ (((scanF f l l.length 0).getD 0 : Nat) : Int).toNat ≤ l.length)) (.ret (.str (List.take (l.length - (((scanF f l l.length 0).getD 0 : Nat) : Int).toNat) (List.drop (((scanF f l l.length 0).getD 0 : Nat) : Int).toNat l))) []) .fail)).run pure2 = some r := by
  obtain ⟨_, h⟩ := chk_run h
  rw [← h]
  simp only [Ans.run, trimF]
  cases hs : scanF f l l.length 0 with
  | none => rfl
  | some q =>
    have hq := scan_lt _ _ _ hs
    simp only [Option.isNone_some, Option.getD_some, bcond]
    rw [decide_eq_true (show 0 ≤ (q : Int) ∧ (q : Int).toNat ≤ l.length by omega), Int.toNat_natCast, List.take_of_length_le (by simp)]
theorem trim_ok : EntOK Tryz.prog 52 eTrim := fun args pre => by
  unfold eTrim
  split
  · rename_i l
    have e : Comes tabL lv53 52 [.str l, .func 54 [] []] [] (.br (scanF letB l l.length 0).isNone (.ret (.str []) []) (.br (decide (0 ≤ (((scanF letB l l.length 0).getD 0 : Nat) : Int) ∧ (((scanF letB l l.length 0).getD 0 : Nat) : Int).toNat ≤ l.length)) (.ret (.str (List.take (l.length - (((scanF letB l l.length 0).getD 0 : Nat) : Int).toNat) (List.drop (((scanF letB l l.length 0).getD 0 : Nat) : Int).toNat l))) []) .fail)) := by unfold Comes; kernel_rfl
    exact of_run (ans_comes tabL_ok e lv53_ok) fun r h => trim_run letB l r h
  · rename_i l
    have e : Comes tabL lv53 52 [.str l, .func 56 [] []] [] (.br (scanF digB l l.length 0).isNone (.ret (.str []) []) (.br (decide (0 ≤ (((scanF digB l l.length 0).getD 0 : Nat) : Int) ∧ (((scanF digB l l.length 0).getD 0 : Nat) : Int).toNat ≤ l.length)) (.ret (.str (List.take (l.length - (((scanF digB l l.length 0).getD 0 : Nat) : Int).toNat) (List.drop (((scanF digB l l.length 0).getD 0 : Nat) : Int).toNat l))) []) .fail)) := by unfold Comes; kernel_rfl
    exact of_run (ans_comes tabL_ok e lv53_ok) fun r h => trim_run digB l r h
  · trivial

/-- Is each sign one of a plain name? -/
def plainAt (l : List UInt8) (p : Nat) : Bool := bcond (letB (runeAt l p)) true (bcond (runeAt l p == 95) true (bcond (digB (runeAt l p)) (decide ((p : Int) > 0)) false))
def plainF (l : List UInt8) : Nat → Nat → Bool
  | 0, _ => true
  | n + 1, p => bcond (decide (p < l.length)) (bcond (plainAt l p) (plainF l n (p + (Utf8.decode ⟨l.toArray⟩ p).2)) false) true
def st47 (l : List UInt8) (p : Nat) : PState :=
  ⟨none :: none :: some (.bool false) :: none :: none :: none :: some (.ptr 0 0) :: List.replicate 16 none, some (.raw (.iter l p)) :: List.replicate 64 none⟩
def fin47 : PState := ⟨none :: none :: some (.bool false) :: List.replicate 20 none, List.replicate 64 none⟩
theorem round47 (l : List UInt8) (p : Nat) : code (ent Tryz.prog tabL nolv 64 1 1) Tryz.prog {} 0 64 1 ((loopBodies (bodyOf Tryz.f80)).headD .skip) (st47 l p) (endK 0 64 (fun n => hasN [2, 6] n) (fun n => hasN [2] n)) =
    bcond (decide (p < l.length)) (bcond (letB (runeAt l p)) (some (.normal, st47 l (p + (Utf8.decode ⟨l.toArray⟩ p).2))) (bcond (runeAt l p == 95) (some (.normal, st47 l (p + (Utf8.decode ⟨l.toArray⟩ p).2)))
      (bcond (digB (runeAt l p)) (bcond (decide ((p : Int) > 0)) (some (.normal, st47 l (p + (Utf8.decode ⟨l.toArray⟩ p).2))) (some (.ret, fin47))) (some (.ret, fin47))))) (some (.exit 0, fin47)) := by kernel_rfl
theorem loop47 (l : List UInt8) : Tri Tryz.prog (.loop ((loopBodies (bodyOf Tryz.f80)).headD .skip)) (st47 l 0).toA (bcond (plainF l l.length 0) (.exit 0) .ret) fin47.toA 0 := by
  refine loop_rounds (ι := { q : Nat × Nat // l.length ≤ q.1 + q.2 }) (ent_sound (NF := 64) (m := 1) tabL_ok host nolv_ok 1) (lv := {}) (NF := 64) (m := 1) (fun x hx id e h1 h2 => by cases h2) (fun n => hasN [2, 6] n) (fun n => hasN [2] n) (fun q => st47 l q.1.1) (fun q => q.1.2) (fun q => (bcond (plainF l q.1.2 q.1.1) (.exit 0) .ret, fin47)) ?_ (fun q => by simp only; cases plainF l q.1.2 q.1.1 <;> simp [bcond]) ⟨(0, l.length), by simp⟩
  rintro ⟨⟨p, n⟩, hq⟩
  simp only at hq ⊢
  rw [round47]
  have split : ∀ (x y : Option (Ex × PState)), bcond (letB (runeAt l p)) x (bcond (runeAt l p == 95) x (bcond (digB (runeAt l p)) (bcond (decide ((p : Int) > 0)) x y) y)) = bcond (plainAt l p) x y := fun x y => by
    unfold plainAt
    cases letB (runeAt l p) <;> cases (runeAt l p == 95) <;> cases digB (runeAt l p) <;> rfl
  rw [split]
  cases n with
  | zero => exact .inr (by rw [bcF (b := decide (p < l.length)) (decide_eq_false (by omega))]; rfl)
  | succ n =>
    simp only [plainF]
    by_cases h1 : p < l.length
    · rw [bcT (b := decide (p < l.length)) (decide_eq_true h1)]
      rw [bcT (b := decide (p < l.length)) (decide_eq_true h1)]
      cases h2 : plainAt l p with
      | false => exact .inr rfl
      | true =>
        have hd : 1 ≤ (Utf8.decode ⟨l.toArray⟩ p).2 := Lib.width_pos _ _
        exact .inl ⟨⟨(p + (Utf8.decode ⟨l.toArray⟩ p).2, n), by simp only; omega⟩, by simp, rfl, rfl⟩
    · rw [bcF (b := decide (p < l.length)) (decide_eq_false h1)]
      rw [bcF (b := decide (p < l.length)) (decide_eq_false h1)]
      exact .inr rfl
def e47 : Nat → PState → LAns := fun K t => match K, t with
  | 0, ⟨none :: none :: some (.bool false) :: none :: none :: none :: some (.ptr 0 0) :: rs, some (.raw (.iter l 0)) :: rm⟩ =>
    .chk (nonesV 16 rs) (.chk (nonesB 64 rm) (.br (plainF l l.length 0) (.out (.exit 0) fin47) (.out .ret fin47)))
  | _, _ => .fail
def lv47 : FuncId → Lv := fun f => match f with
  | 80 => { keep := fun _ => some [2, 6], ent := fun i => match i with | 2 => some e47 | _ => none }
  | _ => {}
theorem lv47_ok : LvOK Tryz.prog lv47 := by
  intro f fn body hf hb K x hx id e hid he t
  by_cases h : f = 80
  · subst h
    obtain rfl : fn = Tryz.f80 := (Option.some.inj (Tryz.func80.symm.trans hf)).symm
    have hbody : body = bodyOf Tryz.f80 := by unfold bodyOf; rw [hb]; rfl
    subst hbody
    have h1 : loopBodies (bodyOf Tryz.f80) = [(loopBodies (bodyOf Tryz.f80)).headD .skip] := by kernel_rfl
    rw [h1] at hx
    have hx' := List.mem_singleton.1 hx
    have h2 : id = 2 := by
      have h3 : headReg ((loopBodies (bodyOf Tryz.f80)).headD .skip) = some 2 := by kernel_rfl
      rw [hx', h3] at hid; exact (Option.some.inj hid).symm
    subst h2
    have he' : e47 = e := Option.some.inj he
    subst he'
    rw [hx']
    clear hx hx' hid he hb hf h1
    unfold e47
    split
    · rename_i rs l rm
      refine ⟨fun g1 => ⟨fun g2 => ?_, fun _ => trivial⟩, fun _ => trivial⟩
      rw [nonesV_eq _ _ g1, nonesB_eq _ _ g2]
      have := loop47 l
      refine ⟨fun hc => ?_, fun hc => ?_⟩
      · rw [bcT hc] at this; exact this
      · rw [bcF hc] at this; exact this
    · trivial
  · exfalso
    have : (lv47 f).ent id = none := by
      unfold lv47
      split
      · exact absurd rfl h
      · rfl
    rw [this] at he; cases he
def ePlain : Ent := fun args pre => match args, pre with
  | [.str l], [] => .ret (.bool (plainF l l.length 0)) []
  | _, _ => .fail
theorem plain_ok : EntOK Tryz.prog 80 ePlain := fun args pre => by
  unfold ePlain
  split
  · rename_i l
    have e : Comes tabL lv47 80 [.str l] [] (.br (plainF l l.length 0) (.ret (.bool true) []) (.ret (.bool false) [])) := by unfold Comes; kernel_rfl
    refine of_run (ans_comes tabL_ok e lv47_ok) fun r h => ?_
    rw [← h]
    simp only [Ans.run]
    cases plainF l l.length 0 <;> rfl
  · trivial
end Go.Proofs.YtebieapmoaaahaaGreatDoor

/- Layer 2: names as they are written. -/
set_option linter.unusedVariables false
set_option linter.unusedSimpArgs false
namespace Go.Proofs.YtebieapmoaaahaaGreatDoor
open Go Sx
end Go.Proofs.YtebieapmoaaahaaGreatDoor

/- Layer 2: texts that are built. -/
set_option linter.unusedVariables false
set_option linter.unusedSimpArgs false
namespace Go.Proofs.YtebieapmoaaahaaGreatDoor
open Go Sx

def bNew : PObj := .raw (.cells [.nilptr, .nilslice] 51)
def bOn (k m : Nat) : PObj := .raw (.cells [.ptr 0 0, .vec k m] 51)
theorem room_ok {a : List UInt8} {m k : Nat} (h1 : a.length = m) (h2 : m + k ≤ 1000000) : roomB a m k = true := by
  unfold roomB
  rw [Bool.true_and, Bool.and_eq_true, decide_eq_true_eq, decide_eq_true_eq]
  exact ⟨by show a.length = m * 1; omega, by omega⟩
def eWS : Ent := fun args pre => match args, pre with
  | [.ptr 0 0, .str x], [.raw (.cells [.nilptr, .nilslice] 51)] => .chk (decide (0 < x.length ∧ x.length ≤ 1000000)) (.ret (.tuple [.int .i64 (x.length : Int), .niliface]) [bOn 1 x.length, .vecB x 5])
  | [.ptr 0 0, .str x], [.raw (.cells [.ptr 0 0, .vec 1 m] 51), .vecB acc 5] => .chk (decide (acc.length = m ∧ m + x.length ≤ 1000000)) (.ret (.tuple [.int .i64 (x.length : Int), .niliface]) [bOn 2 (m + x.length), .raw .dead, .vecB (acc ++ x) 5])
  | _, _ => .fail
theorem ws_ok : EntOK Tryz.prog 25 eWS := fun args pre => by
  unfold eWS
  split
  · rename_i x
    have e : Comes tab0 nolv 25 [.ptr 0 0, .str x] [bNew] (.br (decide (0 < x.length)) (.br (true && decide (2 * x.length * 1 ≤ 281474976710656 ∧ 2 * x.length < 9223372036854775808)) (.ret (.tuple [.int .i64 (x.length : Int), .niliface]) [bOn 1 x.length, .vecB x 5]) .fail)
      (.ret (.tuple [.int .i64 (x.length : Int), .niliface]) [.raw (.cells [.ptr 0 0, .nilslice] 51)])) := by unfold Comes; kernel_rfl
    refine of_run (ans_comes tab0_ok e) fun r h => ?_
    obtain ⟨h1, h⟩ := chk_run h
    have h1 := of_decide_eq_true h1
    rw [← h]
    simp only [Ans.run]
    rw [bcT (b := decide (0 < x.length)) (decide_eq_true h1.1), bcT (b := true && _) (by rw [Bool.true_and, decide_eq_true_eq]; omega)]
  · rename_i x m acc
    have e : Comes tab0 nolv 25 [.ptr 0 0, .str x] [bOn 1 m, .vecB acc 5] (.br (roomB acc m x.length) (.ret (.tuple [.int .i64 (x.length : Int), .niliface]) [bOn 2 (m + x.length), .raw .dead, .vecB (acc ++ x) 5]) .fail) := by unfold Comes; kernel_rfl
    refine of_run (ans_comes tab0_ok e) fun r h => ?_
    obtain ⟨h1, h⟩ := chk_run h
    have h1 := of_decide_eq_true h1
    rw [← h]
    simp only [Ans.run]
    rw [bcT (b := roomB acc m x.length) (room_ok h1.1 h1.2)]
  · trivial
def eWB : Ent := fun args pre => match args, pre with
  | [.ptr 0 0, .int .u8 36], [.raw (.cells [.nilptr, .nilslice] 51)] => .ret .niliface [bOn 1 1, .vecB [36] 5]
  | [.ptr 0 0, .int .u8 36], [.raw (.cells [.ptr 0 0, .vec 1 m] 51), .vecB acc 5] => .chk (decide (acc.length = m ∧ m + 1 ≤ 1000000)) (.ret .niliface [bOn 2 (m + 1), .raw .dead, .vecB (acc ++ [36]) 5])
  | [.ptr 0 0, .int .u8 33], [.raw (.cells [.ptr 0 0, .vec 1 m] 51), .vecB acc 5] => .chk (decide (acc.length = m ∧ m + 1 ≤ 1000000)) (.ret .niliface [bOn 2 (m + 1), .raw .dead, .vecB (acc ++ [33]) 5])
  | _, _ => .fail
theorem wb_ok : EntOK Tryz.prog 24 eWB := fun args pre => by
  unfold eWB
  split
  · have e : Comes tab0 nolv 24 [.ptr 0 0, .int .u8 36] [bNew] (.ret .niliface [bOn 1 1, .vecB [36] 5]) := by unfold Comes; kernel_rfl
    exact of_run (ans_comes tab0_ok e) fun r h => h
  · rename_i m acc
    have e : Comes tab0 nolv 24 [.ptr 0 0, .int .u8 36] [bOn 1 m, .vecB acc 5] (.br (roomB acc m 1) (.ret .niliface [bOn 2 (m + 1), .raw .dead, .vecB (acc ++ [36]) 5]) .fail) := by unfold Comes; kernel_rfl
    refine of_run (ans_comes tab0_ok e) fun r h => ?_
    obtain ⟨h1, h⟩ := chk_run h
    have h1 := of_decide_eq_true h1
    rw [← h]
    simp only [Ans.run]
    rw [bcT (b := roomB acc m 1) (room_ok h1.1 h1.2)]
  · rename_i m acc
    have e : Comes tab0 nolv 24 [.ptr 0 0, .int .u8 33] [bOn 1 m, .vecB acc 5] (.br (roomB acc m 1) (.ret .niliface [bOn 2 (m + 1), .raw .dead, .vecB (acc ++ [33]) 5]) .fail) := by unfold Comes; kernel_rfl
    refine of_run (ans_comes tab0_ok e) fun r h => ?_
    obtain ⟨h1, h⟩ := chk_run h
    have h1 := of_decide_eq_true h1
    rw [← h]
    simp only [Ans.run]
    rw [bcT (b := roomB acc m 1) (room_ok h1.1 h1.2)]
  · trivial
def eBS : Ent := fun args pre => match args, pre with
  | [.ptr 0 0], [.raw (.cells [.ptr 0 0, .vec 1 m] 51), .vecB acc 5] => .chk (decide (0 < acc.length ∧ acc.length = m ∧ m ≤ 1000000)) (.ret (.str acc) [bOn 1 m, .shutB acc 5])
  | [.ptr 0 0], [.raw (.cells [.ptr 0 0, .vec 1 m] 51), .shutB acc 5] => .chk (decide (0 < acc.length ∧ acc.length = m ∧ m ≤ 1000000)) (.ret (.str acc) [bOn 1 m, .shutB acc 5])
  | _, _ => .fail
theorem bs_ok : EntOK Tryz.prog 28 eBS := fun args pre => by
  unfold eBS
  split
  · rename_i m acc
    have e : Comes tab0 nolv 28 [.ptr 0 0] [bOn 1 m, .vecB acc 5] (.br (decide (0 < acc.length)) (.br (((m : Int) == (acc.length : Int)) && !acc.isEmpty && decide (acc.length < 9223372036854775808)) (.ret (.str acc) [bOn 1 m, .shutB acc 5]) .fail) .fail) := by unfold Comes; kernel_rfl
    refine of_run (ans_comes tab0_ok e) fun r h => ?_
    obtain ⟨h1, h⟩ := chk_run h
    obtain ⟨h1, h2, h3⟩ := of_decide_eq_true h1
    rw [← h]
    simp only [Ans.run]
    have hne : acc.isEmpty = false := by cases acc with | nil => simp at h1 | cons a b => rfl
    rw [bcT (b := decide (0 < acc.length)) (decide_eq_true h1), bcT (b := _ && _ && _) (by rw [hne, h2, beq_self_eq_true, decide_eq_true (by omega)]; rfl)]
  · rename_i m acc
    have e : Comes tab0 nolv 28 [.ptr 0 0] [bOn 1 m, .shutB acc 5] (.br (decide (0 < acc.length)) (.br (((m : Int) == (acc.length : Int)) && !acc.isEmpty && decide (acc.length < 9223372036854775808)) (.ret (.str acc) [bOn 1 m, .shutB acc 5]) .fail) .fail) := by unfold Comes; kernel_rfl
    refine of_run (ans_comes tab0_ok e) fun r h => ?_
    obtain ⟨h1, h⟩ := chk_run h
    obtain ⟨h1, h2, h3⟩ := of_decide_eq_true h1
    rw [← h]
    simp only [Ans.run]
    have hne : acc.isEmpty = false := by cases acc with | nil => simp at h1 | cons a b => rfl
    rw [bcT (b := decide (0 < acc.length)) (decide_eq_true h1), bcT (b := _ && _ && _) (by rw [hne, h2, beq_self_eq_true, decide_eq_true (by omega)]; rfl)]
  · trivial
end Go.Proofs.YtebieapmoaaahaaGreatDoor

/- Layer 2: texts that are cut. -/
set_option linter.unusedVariables false
set_option linter.unusedSimpArgs false
namespace Go.Proofs.YtebieapmoaaahaaGreatDoor
open Go Sx

/-- Does a text begin with a byte? -/
def cpB (c : UInt8) (x : List UInt8) : Bool := x.take 1 == [c]
def cpAns (c : UInt8) (x : List UInt8) : Ans := .br (cpB c x) (.ret (.tuple [.str (x.drop 1), .bool true]) []) (.ret (.tuple [.str x, .bool false]) [])
def eCutP : Ent := fun args pre => match args, pre with
  | [.str x, .str [33]], [] => cpAns 33 x
  | [.str x, .str [36]], [] => cpAns 36 x
  | [.str x, .str [39]], [] => cpAns 39 x
  | _, _ => .fail
def cpT (c : UInt8) (x : List UInt8) : Ans :=
  .br (decide ((x.length : Int) ≥ ((1 : Nat) : Int))) (.br (decide (0 ≤ ((1 : Nat) : Int) ∧ ((1 : Nat) : Int).toNat ≤ x.length)) (.br (!(List.take (((1 : Nat) : Int).toNat - 0) (List.drop 0 x) == [c])) (.ret (.tuple [.str x, .bool false]) [])
    (.br (decide (0 ≤ ((1 : Nat) : Int) ∧ ((1 : Nat) : Int).toNat ≤ x.length)) (.ret (.tuple [.str (List.take (x.length - ((1 : Nat) : Int).toNat) (List.drop ((1 : Nat) : Int).toNat x)), .bool true]) []) .fail)) .fail) (.ret (.tuple [.str x, .bool false]) [])
theorem cp_run (c : UInt8) (x : List UInt8) (r : AV × List PObj) (h : (cpAns c x).run pure2 = some r) : (cpT c x).run pure2 = some r := by
  rw [← h]
  simp only [cpT, cpAns, Ans.run, cpB]
  cases x with
  | nil => rfl
  | cons a l =>
    have h1 : ((a :: l).length : Int) ≥ ((1 : Nat) : Int) := by simp only [List.length_cons]; omega
    have h2 : 0 ≤ ((1 : Nat) : Int) ∧ ((1 : Nat) : Int).toNat ≤ (a :: l).length := by simp only [List.length_cons]; omega
    rw [bcT (b := decide (((a :: l).length : Int) ≥ ((1 : Nat) : Int))) (decide_eq_true h1), bcT (b := decide (0 ≤ ((1 : Nat) : Int) ∧ _)) (decide_eq_true h2), bcT (b := decide (0 ≤ ((1 : Nat) : Int) ∧ _)) (decide_eq_true h2)]
    have e : List.take ((a :: l).length - ((1 : Nat) : Int).toNat) (List.drop ((1 : Nat) : Int).toNat (a :: l)) = List.drop 1 (a :: l) := List.take_of_length_le (by simp)
    rw [e]
    show bcond (!(List.take 1 (a :: l) == [c])) _ _ = _
    cases (List.take 1 (a :: l) == [c]) <;> rfl
theorem cutP_ok : EntOK Tryz.prog 50 eCutP := fun args pre => by
  unfold eCutP
  split
  · rename_i x
    have e : Comes tab0 nolv 50 [.str x, .str [33]] [] (cpT 33 x) := by unfold Comes; kernel_rfl
    exact of_run (ans_comes tab0_ok e) fun r h => cp_run 33 x r h
  · rename_i x
    have e : Comes tab0 nolv 50 [.str x, .str [36]] [] (cpT 36 x) := by unfold Comes; kernel_rfl
    exact of_run (ans_comes tab0_ok e) fun r h => cp_run 36 x r h
  · rename_i x
    have e : Comes tab0 nolv 50 [.str x, .str [39]] [] (cpT 39 x) := by unfold Comes; kernel_rfl
    exact of_run (ans_comes tab0_ok e) fun r h => cp_run 39 x r h
  · trivial

/-- A text in two, at a byte. -/
def ixC (c : UInt8) (x : List UInt8) : Int := Lib.indexByte x c
def ctAns (c : UInt8) (x : List UInt8) : Ans := .chk (decide (x.length ≤ 1000000)) (.br (decide (ixC c x ≥ 0)) (.ret (.tuple [.str (x.take (ixC c x).toNat), .str (x.drop ((ixC c x).toNat + 1)), .bool true]) []) (.ret (.tuple [.str x, .str [], .bool false]) []))
def eCut : Ent := fun args pre => match args, pre with
  | [.str x, .str [33]], [] => ctAns 33 x
  | [.str x, .str [39]], [] => ctAns 39 x
  | _, _ => .fail
def w1 (a : Int) : Int := IntKind.i64.wrap (a + ((1 : Nat) : Int))
def ctT (c : UInt8) (x : List UInt8) : Ans :=
  .br ([c] == x) (.br (decide (0 ≤ w1 0 ∧ (w1 0).toNat ≤ x.length)) (.ret (.tuple [.str (List.take (Int.toNat 0 - 0) (List.drop 0 x)), .str (List.take (x.length - (w1 0).toNat) (List.drop (w1 0).toNat x)), .bool true]) []) .fail)
    (.br (decide (ixC c x ≥ 0)) (.br (decide (0 ≤ ixC c x ∧ (ixC c x).toNat ≤ x.length)) (.br (decide (0 ≤ w1 (ixC c x) ∧ (w1 (ixC c x)).toNat ≤ x.length))
      (.ret (.tuple [.str (List.take ((ixC c x).toNat - 0) (List.drop 0 x)), .str (List.take (x.length - (w1 (ixC c x)).toNat) (List.drop (w1 (ixC c x)).toNat x)), .bool true]) []) .fail) .fail) (.ret (.tuple [.str x, .str [], .bool false]) []))
theorem ct_run (c : UInt8) (x : List UInt8) (r : AV × List PObj) (h : (ctAns c x).run pure2 = some r) : (ctT c x).run pure2 = some r := by
  obtain ⟨hl, h⟩ := chk_run h
  have hl := of_decide_eq_true hl
  rw [← h]
  simp only [ctT, Ans.run]
  have w0 : w1 0 = 1 := rfl
  cases he : ([c] == x) with
  | true =>
    have : x = [c] := (beq_iff_eq.1 he).symm
    subst this
    have hi : ixC c [c] = 0 := by unfold ixC Lib.indexByte; simp
    rw [hi, w0]
    rfl
  | false =>
    by_cases h0 : ixC c x ≥ 0
    · obtain ⟨o, ho⟩ : ∃ o : Nat, ixC c x = o := ⟨(ixC c x).toNat, by omega⟩
      obtain ⟨h1, _⟩ := Lib.indexByte_some ho
      have hlt := (List.getElem?_eq_some_iff.1 h1).1
      have hw : w1 (ixC c x) = ((o + 1 : Nat) : Int) := by unfold w1; rw [ho, i64_in (by omega) (by omega)]; push_cast; rfl
      rw [hw, ho]
      refine (bcF (b := false) rfl).trans ?_
      rw [bcT (b := decide ((o : Int) ≥ 0)) (decide_eq_true (by omega)), bcT (b := decide (0 ≤ (o : Int) ∧ _)) (decide_eq_true (by omega)), bcT (b := decide (0 ≤ ((o + 1 : Nat) : Int) ∧ _)) (decide_eq_true (by omega)), bcT (b := decide ((o : Int) ≥ 0)) (decide_eq_true (by omega))]
      rw [Int.toNat_natCast, Int.toNat_natCast, List.take_of_length_le (l := List.drop (o + 1) x) (by rw [List.length_drop]; exact Nat.le_refl _)]
      rfl
    · refine (bcF (b := false) rfl).trans ?_
      rw [bcF (b := decide (ixC c x ≥ 0)) (decide_eq_false h0), bcF (b := decide (ixC c x ≥ 0)) (decide_eq_false h0)]
theorem cut_ok : EntOK Tryz.prog 74 eCut := fun args pre => by
  unfold eCut
  split
  · rename_i x
    have e : Comes tab0 nolv 74 [.str x, .str [33]] [] (ctT 33 x) := by unfold Comes; kernel_rfl
    exact of_run (ans_comes tab0_ok e) fun r h => ct_run 33 x r h
  · rename_i x
    have e : Comes tab0 nolv 74 [.str x, .str [39]] [] (ctT 39 x) := by unfold Comes; kernel_rfl
    exact of_run (ans_comes tab0_ok e) fun r h => ct_run 39 x r h
  · trivial
end Go.Proofs.YtebieapmoaaahaaGreatDoor

/- Layer 2: texts that are built, also of nothing. -/
set_option linter.unusedVariables false
set_option linter.unusedSimpArgs false
namespace Go.Proofs.YtebieapmoaaahaaGreatDoor
open Go Sx

def bNil : PObj := .raw (.cells [.ptr 0 0, .nilslice] 51)
def eWS2 : Ent := fun args pre => match args, pre with
  | [.ptr 0 0, .str x], [.raw (.cells [.nilptr, .nilslice] 51)] => .chk (decide (x.length ≤ 1000000)) (.br (decide (0 < x.length)) (.ret (.tuple [.int .i64 (x.length : Int), .niliface]) [bOn 1 x.length, .vecB x 5]) (.ret (.tuple [.int .i64 (x.length : Int), .niliface]) [bNil]))
  | args, pre => eWS args pre
theorem ws2_ok : EntOK Tryz.prog 25 eWS2 := fun args pre => by
  unfold eWS2
  split
  · rename_i x
    have e : Comes tab0 nolv 25 [.ptr 0 0, .str x] [bNew] (.br (decide (0 < x.length)) (.br (true && decide (2 * x.length * 1 ≤ 281474976710656 ∧ 2 * x.length < 9223372036854775808)) (.ret (.tuple [.int .i64 (x.length : Int), .niliface]) [bOn 1 x.length, .vecB x 5]) .fail)
      (.ret (.tuple [.int .i64 (x.length : Int), .niliface]) [bNil])) := by unfold Comes; kernel_rfl
    refine of_run (ans_comes tab0_ok e) fun r h => ?_
    obtain ⟨h1, h⟩ := chk_run h
    have h1 := of_decide_eq_true h1
    rw [← h]
    simp only [Ans.run]
    rw [bcT (b := true && _) (by rw [Bool.true_and, decide_eq_true_eq]; omega)]
  · exact ws_ok _ _
def eWB2 : Ent := fun args pre => match args, pre with
  | [.ptr 0 0, .int .u8 39], [.raw (.cells [.ptr 0 0, .nilslice] 51)] => .ret .niliface [bOn 1 1, .vecB [39] 5]
  | [.ptr 0 0, .int .u8 39], [.raw (.cells [.ptr 0 0, .vec 1 m] 51), .vecB acc 5] => .chk (decide (acc.length = m ∧ m + 1 ≤ 1000000)) (.ret .niliface [bOn 2 (m + 1), .raw .dead, .vecB (acc ++ [39]) 5])
  | args, pre => eWB args pre
theorem wb2_ok : EntOK Tryz.prog 24 eWB2 := fun args pre => by
  unfold eWB2
  split
  · have e : Comes tab0 nolv 24 [.ptr 0 0, .int .u8 39] [bNil] (.ret .niliface [bOn 1 1, .vecB [39] 5]) := by unfold Comes; kernel_rfl
    exact of_run (ans_comes tab0_ok e) fun r h => h
  · rename_i m acc
    have e : Comes tab0 nolv 24 [.ptr 0 0, .int .u8 39] [bOn 1 m, .vecB acc 5] (.br (roomB acc m 1) (.ret .niliface [bOn 2 (m + 1), .raw .dead, .vecB (acc ++ [39]) 5]) .fail) := by unfold Comes; kernel_rfl
    refine of_run (ans_comes tab0_ok e) fun r h => ?_
    obtain ⟨h1, h⟩ := chk_run h
    have h1 := of_decide_eq_true h1
    rw [← h]
    simp only [Ans.run]
    rw [bcT (b := roomB acc m 1) (room_ok h1.1 h1.2)]
  · exact wb_ok _ _
def eBS2 : Ent := fun args pre => match args, pre with
  | [.ptr 0 0], [.raw (.cells [.ptr 0 0, .nilslice] 51)] => .ret (.str []) [bNil]
  | args, pre => eBS args pre
theorem bs2_ok : EntOK Tryz.prog 28 eBS2 := fun args pre => by
  unfold eBS2
  split
  · have e : Comes tab0 nolv 28 [.ptr 0 0] [bNil] (.ret (.str []) [bNil]) := by unfold Comes; kernel_rfl
    exact of_run (ans_comes tab0_ok e) fun r h => h
  · exact bs_ok _ _
/-- What cutQuoted calls; is it a sheet's name: by a function that is not looked into. -/
def eBoolF (f : List UInt8 → Bool) : Ent := fun args pre => match args, pre with
  | [.str l], [] => .ret (.bool (f l)) []
  | _, _ => .fail
def tabC (f : List UInt8 → Bool) : Tab := (81, eBoolF f) :: (25, eWS2) :: (24, eWB2) :: (28, eBS2) :: (50, eCutP) :: (74, eCut) :: tab0
end Go.Proofs.YtebieapmoaaahaaGreatDoor

/- Layer 2: names between apostrophes, read. -/
set_option linter.unusedVariables false
set_option linter.unusedSimpArgs false
namespace Go.Proofs.YtebieapmoaaahaaGreatDoor
open Go Sx

def st50a (l : List UInt8) : PState :=
  ⟨some (.str l) :: none :: some (.str []) :: some (.str []) :: some (.bool false) :: some (.ptr 0 0) :: List.replicate 34 none, some (.raw (.cells [.nilptr, .nilslice] 51)) :: List.replicate 64 none⟩
def st50b (l acc : List UInt8) (m : Nat) : PState :=
  ⟨some (.str l) :: none :: some (.str []) :: some (.str []) :: some (.bool false) :: some (.ptr 0 0) :: List.replicate 34 none, some (.raw (.cells [.ptr 0 0, .vec 1 m] 51)) :: some (.vecB acc 5) :: List.replicate 64 none⟩
def fin50 (a b : List UInt8) (c : Bool) : PState := ⟨none :: none :: some (.str a) :: some (.str b) :: some (.bool c) :: List.replicate 35 none, List.replicate 64 none⟩
def bsB (a : List UInt8) (m : Nat) : Bool := decide (0 < a.length ∧ a.length = m ∧ m ≤ 1000000)
def on50 (f : List UInt8 → Bool) (acc : List UInt8) (m : Nat) (beh : List UInt8) : Option (Ex × PState) :=
  bcond (cpB 33 beh) (bcond (bsB acc m) (bcond (bsB acc m) (some (.ret, fin50 acc (beh.drop 1) (f acc))) none) none)
    (bcond (cpB 39 beh) (bcond (decide (acc.length = m ∧ m + 1 ≤ 1000000)) (some (.normal, st50b (beh.drop 1) (acc ++ [39]) (m + 1))) none) (some (.ret, fin50 [] [] false)))
def nil50 (f : List UInt8 → Bool) (beh : List UInt8) : Option (Ex × PState) :=
  bcond (cpB 33 beh) (some (.ret, fin50 [] (beh.drop 1) (f []))) (bcond (cpB 39 beh) (some (.normal, st50b (beh.drop 1) [39] 1)) (some (.ret, fin50 [] [] false)))
theorem round50a (f : List UInt8 → Bool) (l : List UInt8) : code (ent (R := Ex × PState) Tryz.prog (tabC f) nolv 64 18446744073709551616 30) Tryz.prog {} 0 64 18446744073709551616 ((loopBodies (bodyOf Tryz.f79)).headD .skip) (st50a l) (endK 0 64 (fun n => hasN [0, 2, 3, 4, 5] n) (fun n => hasN [2, 3, 4] n)) =
    bcond (decide (l.length ≤ 1000000)) (bcond (decide (ixC 39 l ≥ 0)) (bcond (decide ((l.take (ixC 39 l).toNat).length ≤ 1000000)) (bcond (decide (0 < (l.take (ixC 39 l).toNat).length)) (on50 f (l.take (ixC 39 l).toNat) (l.take (ixC 39 l).toNat).length (l.drop ((ixC 39 l).toNat + 1))) (nil50 f (l.drop ((ixC 39 l).toNat + 1)))) none)
      (bcond (decide (l.length ≤ 1000000)) (bcond (decide (0 < l.length)) (some (.ret, fin50 [] [] false)) (some (.ret, fin50 [] [] false))) none)) none := by kernel_rfl
theorem round50b (f : List UInt8 → Bool) (l acc : List UInt8) (m : Nat) : code (ent (R := Ex × PState) Tryz.prog (tabC f) nolv 64 18446744073709551616 30) Tryz.prog {} 0 64 18446744073709551616 ((loopBodies (bodyOf Tryz.f79)).headD .skip) (st50b l acc m) (endK 0 64 (fun n => hasN [0, 2, 3, 4, 5] n) (fun n => hasN [2, 3, 4] n)) =
    bcond (decide (l.length ≤ 1000000)) (bcond (decide (ixC 39 l ≥ 0)) (bcond (decide (acc.length = m ∧ m + (l.take (ixC 39 l).toNat).length ≤ 1000000)) (on50 f (acc ++ l.take (ixC 39 l).toNat) (m + (l.take (ixC 39 l).toNat).length) (l.drop ((ixC 39 l).toNat + 1))) none)
      (bcond (decide (acc.length = m ∧ m + l.length ≤ 1000000)) (some (.ret, fin50 [] [] false)) none)) none := by kernel_rfl
end Go.Proofs.YtebieapmoaaahaaGreatDoor

/- Layer 2: what a text is, by the program's own test. -/
set_option linter.unusedVariables false
set_option linter.unusedSimpArgs false
namespace Go.Proofs.YtebieapmoaaahaaGreatDoor
open Go Sx

/-- No sign from p on is below 32, and none is 127. -/
def ctlB (l : List UInt8) : Nat → Nat → Bool
  | 0, _ => true
  | n + 1, p => bcond (decide (p < l.length)) (bcond (decide (((Utf8.decode ⟨l.toArray⟩ p).1 : Int) < 32)) false (bcond (((Utf8.decode ⟨l.toArray⟩ p).1 : Int) == 127) false (ctlB l n (p + (Utf8.decode ⟨l.toArray⟩ p).2)))) true

def st56 (u l : List UInt8) (p : Nat) : PState :=
  ⟨[some (.str u), none, some (.bool false), none, none, none, some (.ptr 0 0), none, none, none, none, none, none, none, none, none, none, none], some (.raw (.iter l p)) :: List.replicate 64 none⟩
def fin56 (u : List UInt8) : PState :=
  ⟨[some (.str u), none, some (.bool false), none, none, none, none, none, none, none, none, none, none, none, none, none, none, none], List.replicate 64 none⟩

theorem round56 (u l : List UInt8) (p : Nat) : code noH Tryz.prog {} 0 64 1 ((loopBodies (bodyOf Tryz.f103)).headD .skip) (st56 u l p) (endK 0 64 (fun n => hasN [0, 2, 6] n) (fun n => hasN [0, 2] n)) =
    bcond (decide (p < l.length)) (bcond (decide (((Utf8.decode ⟨l.toArray⟩ p).1 : Int) < 32)) (some (.ret, fin56 u)) (bcond (((Utf8.decode ⟨l.toArray⟩ p).1 : Int) == 127) (some (.ret, fin56 u)) (some (.normal, st56 u l (p + (Utf8.decode ⟨l.toArray⟩ p).2))))) (some (.exit 0, fin56 u)) := by kernel_rfl

theorem loop56 (u l : List UInt8) : Tri Tryz.prog (.loop ((loopBodies (bodyOf Tryz.f103)).headD .skip)) (st56 u l 0).toA (bcond (ctlB l l.length 0) (.exit 0) .ret) (fin56 u).toA 0 := by
  refine loop_rounds (ι := { q : Nat × Nat // l.length ≤ q.1 + q.2 }) noH_ok (lv := {}) (NF := 64) (m := 1) (fun x hx id e h1 h2 => by cases h2) (fun n => hasN [0, 2, 6] n) (fun n => hasN [0, 2] n) (fun q => st56 u l q.1.1) (fun q => q.1.2) (fun q => (bcond (ctlB l q.1.2 q.1.1) (.exit 0) .ret, fin56 u)) ?_ (fun q => by simp only; cases ctlB l q.1.2 q.1.1 <;> simp [bcond]) ⟨(0, l.length), by simp⟩
  rintro ⟨⟨p, n⟩, hq⟩
  simp only at hq ⊢
  rw [round56]
  cases n with
  | zero => exact .inr (by rw [bcF (by simp; omega)]; rfl)
  | succ n =>
    simp only [ctlB]
    by_cases h1 : p < l.length
    · have e1 : decide (p < l.length) = true := by simpa using h1
      rw [e1]
      cases e2 : decide (((Utf8.decode ⟨l.toArray⟩ p).1 : Int) < 32) with
      | true => exact .inr rfl
      | false =>
        cases e3 : (((Utf8.decode ⟨l.toArray⟩ p).1 : Int) == 127) with
        | true => exact .inr rfl
        | false =>
          have hd : 1 ≤ (Utf8.decode ⟨l.toArray⟩ p).2 := Lib.width_pos _ _
          exact .inl ⟨⟨(p + (Utf8.decode ⟨l.toArray⟩ p).2, n), by simp only; omega⟩, by simp, rfl, rfl⟩
    · have e1 : decide (p < l.length) = false := by simpa using h1
      rw [e1]; exact .inr rfl

def e56 : Nat → PState → LAns := fun K t => match K, t with
  | 0, ⟨[some (.str u), none, some (.bool false), none, none, none, some (.ptr 0 0), none, none, none, none, none, none, none, none, none, none, none], some (.raw (.iter l 0)) :: rest⟩ =>
    .chk (nonesB 64 rest) (.br (ctlB l l.length 0) (.out (.exit 0) (fin56 u)) (.out .ret (fin56 u)))
  | _, _ => .fail
def lv56 : FuncId → Lv := fun f => match f with
  | 103 => { keep := fun _ => some [0, 2, 6], ent := fun i => match i with | 2 => some e56 | _ => none }
  | _ => {}
theorem lv56_ok : LvOK Tryz.prog lv56 := by
  intro f fn body hf hb K x hx id e hid he t
  by_cases h : f = 103
  · subst h
    obtain rfl : fn = Tryz.f103 := (Option.some.inj (Tryz.func103.symm.trans hf)).symm
    have hbody : body = bodyOf Tryz.f103 := by unfold bodyOf; rw [hb]; rfl
    subst hbody
    have h1 : loopBodies (bodyOf Tryz.f103) = [(loopBodies (bodyOf Tryz.f103)).headD .skip] := by kernel_rfl
    rw [h1] at hx
    have hx' := List.mem_singleton.1 hx
    have h2 : id = 2 := by
      have h3 : headReg ((loopBodies (bodyOf Tryz.f103)).headD .skip) = some 2 := by kernel_rfl
      rw [hx', h3] at hid; exact (Option.some.inj hid).symm
    subst h2
    have he' : e56 = e := Option.some.inj he
    subst he'
    rw [hx']
    clear hx hx' hid he hb hf h1
    unfold e56
    split
    · rename_i u l rest
      refine ⟨fun hn => ?_, fun _ => trivial⟩
      rw [nonesB_eq _ _ hn]
      have := loop56 u l
      refine ⟨fun hc => ?_, fun hc => ?_⟩
      · rw [bcT hc] at this; exact this
      · rw [bcF hc] at this; exact this
    · trivial
  · exfalso
    have : (lv56 f).ent id = none := by
      unfold lv56
      split
      · exact absurd rfl h
      · rfl
    rw [this] at he; cases he

def textB (l : List UInt8) : Bool := ctlB l l.length 0 && Lib.validD l
def eIsText : Ent := fun args pre => match args, pre with
  | [.str l], [] => .chk (decide (l.length ≤ 9223372036854775807)) (.ret (.bool (textB l)) [])
  | _, _ => .fail
def tab4 : Tab := (129, eValid) :: tab1
theorem tab4_ok : TabOK Tryz.prog tab4 := .cons valid_ok tab1_ok
theorem isText_ok : EntOK Tryz.prog 103 eIsText := fun args pre => by
  unfold eIsText
  split
  · rename_i l
    have e : Comes tab4 lv56 103 [.str l] [] (.br (ctlB l l.length 0) (.chk (decide (l.length ≤ 9223372036854775807)) (.ret (.bool (Lib.validD l)) [])) (.ret (.bool false) [])) := by unfold Comes; kernel_rfl
    refine of_run (ans_comes tab4_ok e lv56_ok) fun r h => ?_
    obtain ⟨h1, h⟩ := chk_run h
    rw [← h]
    simp only [Ans.run, Ans.chk, h1, textB]
    cases ctlB l l.length 0 with
    | true => rfl
    | false => rfl
  · trivial

end Go.Proofs.YtebieapmoaaahaaGreatDoor

/- Layer 2: sheets' names, by the program. -/
set_option linter.unusedVariables false
set_option linter.unusedSimpArgs false
namespace Go.Proofs.YtebieapmoaaahaaGreatDoor
open Go Sx

def tab5 : Tab := (103, eIsText) :: tab4
theorem tab5_ok : TabOK Tryz.prog tab5 := .cons isText_ok tab4_ok
/-- May a text be a sheet's name? -/
def sheetB (l : List UInt8) : Bool := !(l == []) && decide (l.length ≤ 30) && textB l
def eIsSheetP : Ent := fun args pre => match args, pre with
  | [.str l], [] => .ret (.bool (sheetB l)) []
  | _, _ => .fail
theorem isSheetP_ok : EntOK Tryz.prog 81 eIsSheetP := fun args pre => by
  unfold eIsSheetP
  split
  · rename_i l
    have e : Comes tab5 nolv 81 [.str l] [] (.br (!(l == [])) (.br (decide ((l.length : Int) ≤ 30)) (.chk (decide (l.length ≤ 9223372036854775807)) (.ret (.bool (textB l)) [])) (.ret (.bool false) [])) (.ret (.bool false) [])) := by unfold Comes; kernel_rfl
    refine of_run (ans_comes tab5_ok e) fun r h => ?_
    rw [← h]
    simp only [Ans.run, Ans.chk, sheetB]
    cases h1 : !(l == [])
    · rfl
    · by_cases h2 : l.length ≤ 30
      · rw [bcT rfl, bcT (by simpa using (by omega : (l.length : Int) ≤ 30)), bcT (by simpa using (by omega : l.length ≤ 9223372036854775807))]
        simp [h2]
      · rw [bcT rfl, bcF (by simpa using (by omega : ¬ (l.length : Int) ≤ 30))]
        simp [h2]
  · trivial

end Go.Proofs.YtebieapmoaaahaaGreatDoor

/- Layer 2: names between apostrophes, read: the loop. -/
set_option linter.unusedVariables false
set_option linter.unusedSimpArgs false
namespace Go.Proofs.YtebieapmoaaahaaGreatDoor
open Go Sx

def prt (l : List UInt8) : List UInt8 := l.take (ixC 39 l).toNat
def bhd (l : List UInt8) : List UInt8 := l.drop ((ixC 39 l).toNat + 1)
def inv50 (l acc : List UInt8) : PState := bcond acc.isEmpty (st50a l) (st50b l acc acc.length)
def rnd50 (f : List UInt8 → Bool) (l acc : List UInt8) : Option (Ex × PState) :=
  bcond (decide (ixC 39 l ≥ 0)) (bcond (cpB 33 (bhd l)) (some (.ret, fin50 (acc ++ prt l) ((bhd l).drop 1) (f (acc ++ prt l))))
    (bcond (cpB 39 (bhd l)) (some (.normal, inv50 ((bhd l).drop 1) (acc ++ prt l ++ [39]))) (some (.ret, fin50 [] [] false)))) (some (.ret, fin50 [] [] false))
theorem on50_eq (f : List UInt8 → Bool) (a beh : List UInt8) (h0 : 0 < a.length) (h1 : a.length + beh.length ≤ 1000000) : on50 f a a.length beh =
    bcond (cpB 33 beh) (some (.ret, fin50 a (beh.drop 1) (f a))) (bcond (cpB 39 beh) (some (.normal, inv50 (beh.drop 1) (a ++ [39]))) (some (.ret, fin50 [] [] false))) := by
  unfold on50
  rw [bcT (b := bsB a a.length) (by unfold bsB; rw [decide_eq_true_eq]; omega)]
  rw [bcT (b := bsB a a.length) (by unfold bsB; rw [decide_eq_true_eq]; omega)]
  cases cpB 33 beh with
  | true => rfl
  | false =>
    rw [bcF rfl, bcF rfl]
    cases h39 : cpB 39 beh with
    | false => rfl
    | true =>
      have hb : 1 ≤ beh.length := by
        cases beh with
        | nil => cases h39
        | cons c r => simp
      rw [bcT (b := true) rfl, bcT (b := true) rfl, bcT (b := decide (a.length = a.length ∧ a.length + 1 ≤ 1000000)) (by rw [decide_eq_true_eq]; omega)]
      unfold inv50
      have he : (a ++ [39]).isEmpty = false := by cases a <;> rfl
      rw [he, List.length_append]; rfl
theorem round50 (f : List UInt8 → Bool) (l acc : List UInt8) (h : acc.length + l.length ≤ 1000000) : code (ent (R := Ex × PState) Tryz.prog (tabC f) nolv 64 18446744073709551616 30) Tryz.prog {} 0 64 18446744073709551616 ((loopBodies (bodyOf Tryz.f79)).headD .skip) (inv50 l acc) (endK 0 64 (fun n => hasN [0, 2, 3, 4, 5] n) (fun n => hasN [2, 3, 4] n)) = rnd50 f l acc := by
  have hp : (prt l).length + (bhd l).length ≤ l.length := by unfold prt bhd; rw [List.length_take, List.length_drop]; omega
  unfold rnd50
  cases acc with
  | nil =>
    show code _ _ _ _ _ _ _ (st50a l) _ = _
    rw [round50a]
    simp only [List.length_nil, Nat.zero_add] at h
    rw [bcT (b := decide (l.length ≤ 1000000)) (decide_eq_true h), bcT (b := decide (l.length ≤ 1000000)) (decide_eq_true h), List.nil_append]
    by_cases h1 : ixC 39 l ≥ 0
    · rw [bcT (b := decide (ixC 39 l ≥ 0)) (decide_eq_true h1), bcT (b := decide (ixC 39 l ≥ 0)) (decide_eq_true h1)]
      show bcond (decide ((prt l).length ≤ 1000000)) (bcond (decide (0 < (prt l).length)) (on50 f (prt l) (prt l).length (bhd l)) (nil50 f (bhd l))) none = _
      rw [bcT (b := decide ((prt l).length ≤ 1000000)) (decide_eq_true (by omega))]
      by_cases h2 : 0 < (prt l).length
      · rw [bcT (b := decide (0 < (prt l).length)) (decide_eq_true h2), on50_eq f _ _ h2 (by omega)]
      · rw [bcF (b := decide (0 < (prt l).length)) (decide_eq_false h2)]
        have h3 : prt l = [] := List.eq_nil_of_length_eq_zero (by omega)
        rw [h3]; rfl
    · rw [bcF (b := decide (ixC 39 l ≥ 0)) (decide_eq_false h1), bcF (b := decide (ixC 39 l ≥ 0)) (decide_eq_false h1)]
      cases decide (0 < l.length) <;> rfl
  | cons c r =>
    show code _ _ _ _ _ _ _ (st50b l (c :: r) (c :: r).length) _ = _
    rw [round50b]
    generalize hA : c :: r = a at *
    have ha : 0 < a.length := by rw [← hA]; simp
    rw [bcT (b := decide (l.length ≤ 1000000)) (decide_eq_true (by omega))]
    by_cases h1 : ixC 39 l ≥ 0
    · rw [bcT (b := decide (ixC 39 l ≥ 0)) (decide_eq_true h1), bcT (b := decide (ixC 39 l ≥ 0)) (decide_eq_true h1)]
      show bcond (decide (a.length = a.length ∧ a.length + (prt l).length ≤ 1000000)) (on50 f (a ++ prt l) (a.length + (prt l).length) (bhd l)) none = _
      rw [bcT (b := decide (a.length = a.length ∧ _)) (decide_eq_true ⟨rfl, by omega⟩), ← List.length_append]
      exact on50_eq f _ _ (by rw [List.length_append]; omega) (by rw [List.length_append]; omega)
    · rw [bcF (b := decide (ixC 39 l ≥ 0)) (decide_eq_false h1), bcF (b := decide (ixC 39 l ≥ 0)) (decide_eq_false h1), bcT (b := decide (a.length = a.length ∧ _)) (decide_eq_true ⟨rfl, h⟩)]
/-- A name between apostrophes, and what stands behind its exclamation mark. -/
def cqF (f : List UInt8 → Bool) : Nat → List UInt8 → List UInt8 → List UInt8 × List UInt8 × Bool
  | 0, _, _ => ([], [], false)
  | n + 1, l, acc => bcond (decide (ixC 39 l ≥ 0)) (bcond (cpB 33 (bhd l)) (acc ++ prt l, (bhd l).drop 1, f (acc ++ prt l))
    (bcond (cpB 39 (bhd l)) (cqF f n ((bhd l).drop 1) (acc ++ prt l ++ [39])) ([], [], false))) ([], [], false)
def out50 (r : List UInt8 × List UInt8 × Bool) : Ex × PState := (.ret, fin50 r.1 r.2.1 r.2.2)
theorem loop50 (f : List UInt8 → Bool) (hT : TabOK Tryz.prog (tabC f)) (l : List UInt8) (h : l.length ≤ 1000000) : Tri Tryz.prog (.loop ((loopBodies (bodyOf Tryz.f79)).headD .skip)) (st50a l).toA .ret (out50 (cqF f (l.length + 1) l [])).2.toA 0 := by
  refine loop_rounds (ι := { q : List UInt8 × List UInt8 × Nat // q.2.1.length + q.1.length ≤ 1000000 ∧ q.1.length < q.2.2 }) (ent_sound (NF := 64) (m := 18446744073709551616) hT host nolv_ok 30) (lv := {}) (NF := 64) (m := 18446744073709551616) (fun x hx id e h1 h2 => by cases h2) (fun n => hasN [0, 2, 3, 4, 5] n) (fun n => hasN [2, 3, 4] n) (fun q => inv50 q.1.1 q.1.2.1) (fun q => q.1.1.length) (fun q => out50 (cqF f q.1.2.2 q.1.1 q.1.2.1)) ?_ (fun q => by simp [out50]) ⟨(l, [], l.length + 1), by simp; exact h⟩
  rintro ⟨⟨l, acc, n⟩, h1, h2⟩
  simp only at h1 h2 ⊢
  rw [round50 f l acc h1]
  unfold rnd50
  cases n with
  | zero => omega
  | succ n =>
    simp only [cqF]
    cases c1 : decide (ixC 39 l ≥ 0) with
    | false => exact .inr rfl
    | true =>
      cases c2 : cpB 33 (bhd l) with
      | true => exact .inr rfl
      | false =>
        cases c3 : cpB 39 (bhd l) with
        | false => exact .inr rfl
        | true =>
          have hb : 1 ≤ (bhd l).length := by
            cases hb : bhd l with
            | nil => rw [hb] at c3; cases c3
            | cons c r => simp
          have hp : (prt l).length + (bhd l).length + 1 ≤ l.length := by
            have h3 : 1 ≤ (bhd l).length := hb
            unfold bhd at h3
            unfold prt bhd
            rw [List.length_drop] at h3
            rw [List.length_take, List.length_drop]; omega
          refine .inl ⟨⟨((bhd l).drop 1, acc ++ prt l ++ [39], n), ?_⟩, ?_, rfl, rfl⟩
          · simp only [List.length_append, List.length_drop, List.length_cons, List.length_nil]; omega
          · simp only [List.length_drop]; omega
end Go.Proofs.YtebieapmoaaahaaGreatDoor

/- Layer 2: names of sheets, read. -/
set_option linter.unusedVariables false
set_option linter.unusedSimpArgs false
namespace Go.Proofs.YtebieapmoaaahaaGreatDoor
open Go Sx

theorem tabC_ok : TabOK Tryz.prog (tabC sheetB) := .cons isSheetP_ok (.cons ws2_ok (.cons wb2_ok (.cons bs2_ok (.cons cutP_ok (.cons cut_ok tab0_ok)))))
def e50 (g : List UInt8 → List UInt8 × List UInt8 × Bool) : Nat → PState → LAns := fun K t => match K, t with
  | 0, ⟨some (.str l) :: none :: some (.str []) :: some (.str []) :: some (.bool false) :: some (.ptr 0 0) :: rs, some (.raw (.cells [.nilptr, .nilslice] 51)) :: rm⟩ =>
    .chk (nonesV 34 rs) (.chk (nonesB 64 rm) (.chk (decide (l.length ≤ 1000000)) (.out .ret (fin50 (g l).1 (g l).2.1 (g l).2.2))))
  | _, _ => .fail
def lv50 (g : List UInt8 → List UInt8 × List UInt8 × Bool) : FuncId → Lv := fun f => match f with
  | 79 => { keep := fun _ => some [0, 2, 3, 4, 5], ent := fun i => match i with | 2 => some (e50 g) | _ => none }
  | _ => {}
/-- What stands between the apostrophes, and behind. -/
def cqS (l : List UInt8) : List UInt8 × List UInt8 × Bool := cqF sheetB (l.length + 1) l []
theorem lv50_ok : LvOK Tryz.prog (lv50 cqS) := by
  intro f fn body hf hb K x hx id e hid he t
  by_cases h : f = 79
  · subst h
    obtain rfl : fn = Tryz.f79 := (Option.some.inj (Tryz.func79.symm.trans hf)).symm
    have hbody : body = bodyOf Tryz.f79 := by unfold bodyOf; rw [hb]; rfl
    subst hbody
    have h1 : loopBodies (bodyOf Tryz.f79) = [(loopBodies (bodyOf Tryz.f79)).headD .skip] := by kernel_rfl
    rw [h1] at hx
    have hx' := List.mem_singleton.1 hx
    have h2 : id = 2 := by
      have h3 : headReg ((loopBodies (bodyOf Tryz.f79)).headD .skip) = some 2 := by kernel_rfl
      rw [hx', h3] at hid; exact (Option.some.inj hid).symm
    subst h2
    have he' : e50 cqS = e := Option.some.inj he
    subst he'
    rw [hx']
    clear hx hx' hid he hb hf h1
    unfold e50
    split
    · rename_i l rs rm
      refine ⟨fun g1 => ⟨fun g2 => ⟨fun g3 => ?_, fun _ => trivial⟩, fun _ => trivial⟩, fun _ => trivial⟩
      rw [nonesV_eq _ _ g1, nonesB_eq _ _ g2]
      exact loop50 sheetB tabC_ok l (of_decide_eq_true g3)
    · trivial
  · exfalso
    have : (lv50 cqS f).ent id = none := by
      unfold lv50
      split
      · exact absurd rfl h
      · rfl
    rw [this] at he; cases he
def eTri (g : List UInt8 → List UInt8 × List UInt8 × Bool) : Ent := fun args pre => match args, pre with
  | [.str l], [] => .chk (decide (l.length ≤ 1000000)) (.ret (.tuple [.str (g l).1, .str (g l).2.1, .bool (g l).2.2]) [])
  | _, _ => .fail
theorem cutQuoted_ok : EntOK Tryz.prog 79 (eTri cqS) := fun args pre => by
  unfold eTri
  split
  · rename_i l
    have e : Comes (tabC sheetB) (lv50 cqS) 79 [.str l] [] (.br (decide (l.length ≤ 1000000)) (.ret (.tuple [.str (cqS l).1, .str (cqS l).2.1, .bool (cqS l).2.2]) []) .fail) := by unfold Comes; kernel_rfl
    refine of_run (ans_comes tabC_ok e lv50_ok) fun r h => ?_
    obtain ⟨h1, h⟩ := chk_run h
    rw [← h]
    simp only [Ans.run]
    rw [bcT h1]
  · trivial
def tabD (g : List UInt8 → List UInt8 × List UInt8 × Bool) (p f : List UInt8 → Bool) : Tab := (79, eTri g) :: (80, eBoolF p) :: (81, eBoolF f) :: (50, eCutP) :: (74, eCut) :: tab0
theorem tabD_ok : TabOK Tryz.prog (tabD cqS (fun l => plainF l l.length 0) sheetB) := .cons cutQuoted_ok (.cons plain_ok (.cons isSheetP_ok (.cons cutP_ok (.cons cut_ok tab0_ok))))
end Go.Proofs.YtebieapmoaaahaaGreatDoor

/- Layer 2: names of sheets ahead of a reference. -/
set_option linter.unusedVariables false
set_option linter.unusedSimpArgs false
namespace Go.Proofs.YtebieapmoaaahaaGreatDoor
open Go Sx

/-- What stands ahead of the exclamation mark, and behind it. -/
def csF (g : List UInt8 → List UInt8 × List UInt8 × Bool) (p f : List UInt8 → Bool) (l : List UInt8) : List UInt8 × List UInt8 × Bool :=
  bcond (cpB 39 l) (g (l.drop 1)) (bcond (decide (ixC 33 l ≥ 0)) (l.take (ixC 33 l).toNat, l.drop ((ixC 33 l).toNat + 1), p (l.take (ixC 33 l).toNat) && f (l.take (ixC 33 l).toNat)) ([], l, true))
theorem cutSheet_comes (g : List UInt8 → List UInt8 × List UInt8 × Bool) (p f : List UInt8 → Bool) (l : List UInt8) : Comes (tabD g p f) nolv 48 [.str l] []
    (.br (cpB 39 l) (.br (decide ((l.drop 1).length ≤ 1000000)) (.ret (.tuple [.str (g (l.drop 1)).1, .str (g (l.drop 1)).2.1, .bool (g (l.drop 1)).2.2]) []) .fail)
      (.br (decide (l.length ≤ 1000000)) (.br (decide (ixC 33 l ≥ 0)) (.br (p (l.take (ixC 33 l).toNat)) (.ret (.tuple [.str (l.take (ixC 33 l).toNat), .str (l.drop ((ixC 33 l).toNat + 1)), .bool (f (l.take (ixC 33 l).toNat))]) [])
        (.ret (.tuple [.str (l.take (ixC 33 l).toNat), .str (l.drop ((ixC 33 l).toNat + 1)), .bool false]) [])) (.ret (.tuple [.str [], .str l, .bool true]) [])) .fail)) := by unfold Comes; kernel_rfl
def csS (l : List UInt8) : List UInt8 × List UInt8 × Bool := csF cqS (fun l => plainF l l.length 0) sheetB l
theorem cutSheet_ok : EntOK Tryz.prog 48 (eTri csS) := fun args pre => by
  unfold eTri
  split
  · rename_i l
    refine of_run (ans_comes tabD_ok (cutSheet_comes _ _ _ l)) fun r h => ?_
    obtain ⟨h1, h⟩ := chk_run h
    have h1 := of_decide_eq_true h1
    rw [← h]
    simp only [Ans.run, csS, csF]
    cases cpB 39 l with
    | true =>
      rw [bcT (b := decide ((l.drop 1).length ≤ 1000000)) (by rw [decide_eq_true_eq, List.length_drop]; omega)]
      rfl
    | false =>
      rw [bcT (b := decide (l.length ≤ 1000000)) (decide_eq_true h1)]
      cases decide (ixC 33 l ≥ 0) with
      | false => rfl
      | true =>
        cases hp : plainF (l.take (ixC 33 l).toNat) (l.take (ixC 33 l).toNat).length 0 with
        | false => simp only [bcond, Bool.false_and, hp]
        | true => simp only [bcond, Bool.true_and, hp]
  · trivial
end Go.Proofs.YtebieapmoaaahaaGreatDoor

/- Layer 2: references, read. -/
set_option linter.unusedVariables false
set_option linter.unusedSimpArgs false
namespace Go.Proofs.YtebieapmoaaahaaGreatDoor
open Go Sx

def eTrimO (tl td : List UInt8 → List UInt8) : Ent := fun args pre => match args, pre with
  | [.str l, .func 54 [] []], [] => .chk (decide (l.length ≤ 9223372036854775807)) (.ret (.str (tl l)) [])
  | [.str l, .func 56 [] []], [] => .chk (decide (l.length ≤ 9223372036854775807)) (.ret (.str (td l)) [])
  | _, _ => .fail
def eRC (ok : List UInt8 → Bool) (rc : List UInt8 → Int × Int) : Ent := fun args pre => match args, pre with
  | [.str l], [] => .chk (ok l) (.ret (.tuple [.int .i64 (rc l).1, .int .i64 (rc l).2]) [])
  | _, _ => .fail
def eRR (ok : List UInt8 → Bool) (rr : List UInt8 → Int × Bool) : Ent := fun args pre => match args, pre with
  | [.str l], [] => .chk (ok l) (.ret (.tuple [.int .i64 (rr l).1, .bool (rr l).2]) [])
  | _, _ => .fail
def tabE (cs : List UInt8 → List UInt8 × List UInt8 × Bool) (tl td : List UInt8 → List UInt8) (okc : List UInt8 → Bool) (rc : List UInt8 → Int × Int) (okr : List UInt8 → Bool) (rr : List UInt8 → Int × Bool) : Tab := (48, eTri cs) :: (52, eTrimO tl td) :: (53, eRC okc rc) :: (55, eRR okr rr) :: (50, eCutP) :: tab0
end Go.Proofs.YtebieapmoaaahaaGreatDoor

/- Layer 2: references, read: any text, but for its column's letters and its row's digits. -/
set_option linter.unusedVariables false
set_option linter.unusedSimpArgs false
namespace Go.Proofs.YtebieapmoaaahaaGreatDoor
open Go Sx

def noRef : Ans := .ret (.tuple [.agg [.str [], .int .i64 0, .int .i64 0, .bool false, .bool false, .bool false], .int .i64 20]) []
def lenP (t : List UInt8 → List UInt8) (R : List UInt8) : Int := IntKind.i64.wrap ((R.length : Int) - ((t R).length : Int))
def hdP (t : List UInt8 → List UInt8) (R : List UInt8) : List UInt8 := List.take ((lenP t R).toNat - 0) (List.drop 0 R)
def rowT (td : List UInt8 → List UInt8) (okr : List UInt8 → Bool) (rr : List UInt8 → Int × Bool) (s : List UInt8) (C : Int × Int) (b a : Bool) (R : List UInt8) : Ans :=
  .br (decide (R.length ≤ 9223372036854775807)) (.br (decide (0 ≤ lenP td R ∧ (lenP td R).toNat ≤ R.length)) (.br (okr (hdP td R)) (.br (C.2 != 0) noRef (.br (!(rr (hdP td R)).2) noRef (.br (!(td R == [])) noRef
    (.ret (.tuple [.agg [.str s, .int .i64 (rr (hdP td R)).1, .int .i64 C.1, .bool a, .bool b, .bool false], .int .i64 0]) [])))) .fail) .fail) .fail
def colT (tl td : List UInt8 → List UInt8) (okc : List UInt8 → Bool) (rc : List UInt8 → Int × Int) (okr : List UInt8 → Bool) (rr : List UInt8 → Int × Bool) (s : List UInt8) (b : Bool) (R : List UInt8) : Ans :=
  .br (decide (R.length ≤ 9223372036854775807)) (.br (decide (0 ≤ lenP tl R ∧ (lenP tl R).toNat ≤ R.length)) (.br (okc (hdP tl R))
    (.br (cpB 36 (tl R)) (rowT td okr rr s (rc (hdP tl R)) b true ((tl R).drop 1)) (rowT td okr rr s (rc (hdP tl R)) b false (tl R))) .fail) .fail) .fail
def rdT (cs : List UInt8 → List UInt8 × List UInt8 × Bool) (tl td : List UInt8 → List UInt8) (okc : List UInt8 → Bool) (rc : List UInt8 → Int × Int) (okr : List UInt8 → Bool) (rr : List UInt8 → Int × Bool) (l : List UInt8) : Ans :=
  .br (l == [35, 82, 69, 70, 33]) (.ret (.tuple [.agg [.str [], .int .i64 0, .int .i64 0, .bool false, .bool false, .bool true], .int .i64 0]) [])
    (.br (decide (l.length ≤ 1000000)) (.br (!(cs l).2.2) noRef (.br (cpB 36 (cs l).2.1) (colT tl td okc rc okr rr (cs l).1 true ((cs l).2.1.drop 1)) (colT tl td okc rc okr rr (cs l).1 false (cs l).2.1))) .fail)
theorem read_comes (cs : List UInt8 → List UInt8 × List UInt8 × Bool) (tl td : List UInt8 → List UInt8) (okc : List UInt8 → Bool) (rc : List UInt8 → Int × Int) (okr : List UInt8 → Bool) (rr : List UInt8 → Int × Bool) (l : List UInt8) :
    Comes (tabE cs tl td okc rc okr rr) nolv 20 [.str l] [] (rdT cs tl td okc rc okr rr l) := by unfold Comes; kernel_rfl

/-- A part ahead, and what is behind. -/
def ahd (t : List UInt8 → List UInt8) (R : List UInt8) : List UInt8 := R.take (R.length - (t R).length)
def unfix (R : List UInt8) : List UInt8 := bcond (cpB 36 R) (R.drop 1) R
/-- The column's letters and the row's digits of a text. -/
def colP (cs : List UInt8 → List UInt8 × List UInt8 × Bool) (l : List UInt8) : List UInt8 := unfix (cs l).2.1
def rowP (cs : List UInt8 → List UInt8 × List UInt8 × Bool) (tl : List UInt8 → List UInt8) (l : List UInt8) : List UInt8 := unfix (tl (colP cs l))
def readS (cs : List UInt8 → List UInt8 × List UInt8 × Bool) (tl td : List UInt8 → List UInt8) (rc : List UInt8 → Int × Int) (rr : List UInt8 → Int × Bool) (l : List UInt8) : AV :=
  bcond (l == [35, 82, 69, 70, 33]) (.tuple [.agg [.str [], .int .i64 0, .int .i64 0, .bool false, .bool false, .bool true], .int .i64 0])
    (bcond ((cs l).2.2 && (rc (ahd tl (colP cs l))).2 == 0 && (rr (ahd td (rowP cs tl l))).2 && td (rowP cs tl l) == [])
      (.tuple [.agg [.str (cs l).1, .int .i64 (rr (ahd td (rowP cs tl l))).1, .int .i64 (rc (ahd tl (colP cs l))).1, .bool (cpB 36 (tl (colP cs l))), .bool (cpB 36 (cs l).2.1), .bool false], .int .i64 0])
      (.tuple [.agg [.str [], .int .i64 0, .int .i64 0, .bool false, .bool false, .bool false], .int .i64 20]))
theorem lenP_eq {t : List UInt8 → List UInt8} {R : List UInt8} (h : (t R).length ≤ R.length) (hR : R.length ≤ 9223372036854775807) : lenP t R = ((R.length - (t R).length : Nat) : Int) := by
  unfold lenP
  rw [i64_in (by omega) (by omega)]; omega
theorem hdP_eq {t : List UInt8 → List UInt8} {R : List UInt8} (h : (t R).length ≤ R.length) (hR : R.length ≤ 9223372036854775807) : hdP t R = ahd t R := by
  unfold hdP ahd
  rw [lenP_eq h hR, List.drop_zero]; rfl
def noV : AV := .tuple [.agg [.str [], .int .i64 0, .int .i64 0, .bool false, .bool false, .bool false], .int .i64 20]
theorem rowT_run {td : List UInt8 → List UInt8} {okr : List UInt8 → Bool} {rr : List UInt8 → Int × Bool} {s : List UInt8} {C : Int × Int} {b a : Bool} {R : List UInt8} (h : (td R).length ≤ R.length) (hR : R.length ≤ 9223372036854775807) (ho : okr (ahd td R) = true) :
    (rowT td okr rr s C b a R).run pure2 = pure2 (bcond (C.2 == 0 && (rr (ahd td R)).2 && td R == []) (.tuple [.agg [.str s, .int .i64 (rr (ahd td R)).1, .int .i64 C.1, .bool a, .bool b, .bool false], .int .i64 0]) noV) [] := by
  unfold rowT
  simp only [Ans.run, noRef]
  rw [bcT (b := decide (R.length ≤ 9223372036854775807)) (decide_eq_true hR), lenP_eq h hR, bcT (b := decide (0 ≤ ((R.length - (td R).length : Nat) : Int) ∧ _)) (by rw [decide_eq_true_eq]; omega), hdP_eq h hR, bcT ho]
  show bcond (!(C.2 == 0)) _ _ = _
  cases C.2 == 0 <;> cases (rr (ahd td R)).2 <;> cases td R == [] <;> rfl
theorem colT_run {tl td : List UInt8 → List UInt8} {okc : List UInt8 → Bool} {rc : List UInt8 → Int × Int} {okr : List UInt8 → Bool} {rr : List UInt8 → Int × Bool} {s : List UInt8} {b : Bool} {R : List UInt8} (h : ∀ R, (tl R).length ≤ R.length) (h' : ∀ R, (td R).length ≤ R.length) (hR : R.length ≤ 9223372036854775807)
    (ho : okc (ahd tl R) = true) (ho' : okr (ahd td (unfix (tl R))) = true) :
    (colT tl td okc rc okr rr s b R).run pure2 = pure2 (bcond ((rc (ahd tl R)).2 == 0 && (rr (ahd td (unfix (tl R)))).2 && td (unfix (tl R)) == []) (.tuple [.agg [.str s, .int .i64 (rr (ahd td (unfix (tl R)))).1, .int .i64 (rc (ahd tl R)).1, .bool (cpB 36 (tl R)), .bool b, .bool false], .int .i64 0]) noV) [] := by
  have h1 := h R
  unfold colT
  simp only [Ans.run]
  rw [bcT (b := decide (R.length ≤ 9223372036854775807)) (decide_eq_true hR), lenP_eq h1 hR, bcT (b := decide (0 ≤ ((R.length - (tl R).length : Nat) : Int) ∧ _)) (by rw [decide_eq_true_eq]; omega), hdP_eq h1 hR, bcT ho]
  unfold unfix at ho' ⊢
  cases hc : cpB 36 (tl R) with
  | true =>
    rw [hc] at ho'
    exact rowT_run (h' _) (by rw [List.length_drop]; omega) ho'
  | false =>
    rw [hc] at ho'
    exact rowT_run (h' _) (by omega) ho'
theorem rdT_run {cs : List UInt8 → List UInt8 × List UInt8 × Bool} {tl td : List UInt8 → List UInt8} {okc : List UInt8 → Bool} {rc : List UInt8 → Int × Int} {okr : List UInt8 → Bool} {rr : List UInt8 → Int × Bool} {l : List UInt8} (h : ∀ R, (tl R).length ≤ R.length) (h' : ∀ R, (td R).length ≤ R.length) (hl : l.length ≤ 1000000) (hc : (cs l).2.1.length ≤ l.length)
    (ho : okc (ahd tl (colP cs l)) = true) (ho' : okr (ahd td (rowP cs tl l)) = true) : (rdT cs tl td okc rc okr rr l).run pure2 = pure2 (readS cs tl td rc rr l) [] := by
  unfold rdT readS
  simp only [Ans.run, noRef]
  cases l == [35, 82, 69, 70, 33] with
  | true => rfl
  | false =>
    rw [bcT (b := decide (l.length ≤ 1000000)) (decide_eq_true hl)]
    cases h2 : (cs l).2.2 with
    | false => rfl
    | true =>
      unfold rowP at ho' ⊢
      unfold colP at ho ho' ⊢
      cases h3 : cpB 36 (cs l).2.1 with
      | true =>
        have hu : unfix (cs l).2.1 = (cs l).2.1.drop 1 := by unfold unfix; rw [h3]; rfl
        rw [hu] at ho ho' ⊢
        exact colT_run h h' (by rw [List.length_drop]; omega) ho ho'
      | false =>
        have hu : unfix (cs l).2.1 = (cs l).2.1 := by unfold unfix; rw [h3]; rfl
        rw [hu] at ho ho' ⊢
        exact colT_run h h' (by omega) ho ho'
end Go.Proofs.YtebieapmoaaahaaGreatDoor

/- Layer 2: what is written, read: the pieces. -/
set_option linter.unusedVariables false
set_option linter.unusedSimpArgs false
namespace Go.Proofs.YtebieapmoaaahaaGreatDoor
open Go Sx

end Go.Proofs.YtebieapmoaaahaaGreatDoor

/- Layer 2: what is written, read: signs below 128. -/
set_option linter.unusedVariables false
set_option linter.unusedSimpArgs false
namespace Go.Proofs.YtebieapmoaaahaaGreatDoor
open Go Sx

theorem decN_low {n a b c d : Nat} (h : (Lib.decodeN n a b c d).1 < 128) : a < 128 := by
  unfold Lib.decodeN at h
  repeat' split at h
  all_goals first | assumption | (exfalso; simp only at h; omega)
theorem rune_asc {l : List UInt8} {p : Nat} (hp : p < l.length) (h : (l[p]).toNat < 128) : runeAt l p = ((l[p]).toNat : Int) ∧ (Utf8.decode ⟨l.toArray⟩ p).2 = 1 := by
  have hs : p < (⟨l.toArray⟩ : ByteArray).size := by simpa [ByteArray.size] using hp
  have := Go.decode_ascii ⟨l.toArray⟩ p hs h
  unfold runeAt
  rw [this]
  exact ⟨rfl, rfl⟩
theorem rune_low {l : List UInt8} {p : Nat} (hp : p < l.length) (h : runeAt l p < 128) : (l[p]).toNat < 128 := by
  have hs : p < (⟨l.toArray⟩ : ByteArray).size := by simpa [ByteArray.size] using hp
  unfold runeAt at h
  rw [Lib.decode_at] at h
  have := decN_low (Int.ofNat_lt.1 h)
  have e : (⟨l.toArray⟩ : ByteArray).get! p = l[p] := by
    show (l.toArray)[p]! = _
    simp [hp]
  rwa [e] at this
end Go.Proofs.YtebieapmoaaahaaGreatDoor

/- Layer 2: great letters, columns' letters: the states of their loops. -/
set_option linter.unusedVariables false
set_option linter.unusedSimpArgs false
namespace Go.Proofs.YtebieapmoaaahaaGreatDoor
open Go Sx

def st41 (b : List UInt8) (n : Nat) (i : Int) : PState :=
  ⟨none :: none :: none :: some (.vec 0 n) :: none :: none :: none :: none :: some (.vec 0 n) :: some (.int .i64 (n : Int)) :: some (.int .i64 i) :: List.replicate 19 none, some (.vecB b 5) :: List.replicate 64 none⟩
def fin41 (b : List UInt8) (n : Nat) : PState := ⟨none :: none :: none :: some (.vec 0 n) :: List.replicate 26 none, some (.vecB b 5) :: List.replicate 64 none⟩
def st18 (u : List UInt8) (n : Int) (p : Nat) : PState :=
  ⟨none :: none :: none :: none :: some (.int .i64 n) :: none :: none :: none :: none :: some (.ptr 0 0) :: List.replicate 19 none, some (.raw (.iter u p)) :: List.replicate 64 none⟩
end Go.Proofs.YtebieapmoaaahaaGreatDoor

/- Layer 2: great letters in the place of small ones: letters.Great of any text. -/
set_option linter.unusedVariables false
set_option linter.unusedSimpArgs false
namespace Go.Proofs.YtebieapmoaaahaaGreatDoor
open Go Sx

def upB (x : UInt8) : UInt8 := bcond (decide (97 ≤ x.toNat ∧ x.toNat ≤ 122)) (UInt8.ofNat (x.toNat - 32)) x
def grW (l : List UInt8) (p : Int) : Int := IntKind.u8.wrap (IntKind.u8.wrap (byteAt l (p.toNat * 1) - 97) + 65)
def grN (l : List UInt8) (n : Nat) (p : Int) : Option (Ex × PState) := some (.normal, st41 l n (IntKind.i64.wrap (p + 1)))
theorem round41 (l : List UInt8) (n p : Nat) : code (ent (R := Ex × PState) Tryz.prog tab0 nolv 64 18446744073709551616 30) Tryz.prog {} 0 64 18446744073709551616 ((loopBodies (bodyOf Tryz.f63)).headD .skip) (st41 l n p) (endK 0 64 (fun n => hasN [3, 8, 9, 10] n) (fun n => hasN [3] n)) =
    bcond (decide ((p : Int) < (n : Int))) (bcond (decide (0 ≤ (p : Int) ∧ (p : Int) < (n : Int))) (bcond (decide ((p : Int).toNat * 1 < l.length))
      (bcond (decide (byteAt l ((p : Int).toNat * 1) ≥ 97)) (bcond (decide (byteAt l ((p : Int).toNat * 1) ≤ 122))
        (bcond (decide (0 ≤ (p : Int) ∧ (p : Int) < (n : Int))) (bcond (decide ((p : Int).toNat * 1 < l.length) && decide (0 ≤ grW l p ∧ grW l p < 256)) (grN (l.set ((p : Int).toNat * 1) (toByte (grW l p))) n p) none) none)
        (grN l n p)) (grN l n p)) none) none) (some (.exit 0, fin41 l n)) := by kernel_rfl

def grS (l : List UInt8) (p : Nat) : List UInt8 := (l.take p).map upB ++ l.drop p
theorem gr_at {l : List UInt8} {p : Nat} (h : p < l.length) : grS l p = (l.take p).map upB ++ l[p] :: l.drop (p + 1) := by
  unfold grS; rw [List.drop_eq_getElem_cons h]
theorem gr_next {l : List UInt8} {p : Nat} (h : p < l.length) : grS l (p + 1) = (l.take p).map upB ++ upB l[p] :: l.drop (p + 1) := by
  unfold grS; rw [List.take_succ_eq_append_getElem h, List.map_append, List.append_assoc]; rfl
theorem set_mid {α : Type} (A B : List α) (x v : α) {n : Nat} (h : A.length = n) : (A ++ x :: B).set n v = A ++ v :: B := by
  subst h; simp
theorem byte_mid (A B : List UInt8) (x : UInt8) {n : Nat} (h : A.length = n) : byteAt (A ++ x :: B) n = (x.toNat : Int) := by
  subst h; unfold byteAt; simp
theorem gr_len {l : List UInt8} {p : Nat} (h : p ≤ l.length) : (grS l p).length = l.length := by
  unfold grS; simp; omega
theorem up_small {x : UInt8} (h : 97 ≤ x.toNat ∧ x.toNat ≤ 122) : toByte (IntKind.u8.wrap (IntKind.u8.wrap ((x.toNat : Int) - 97) + 65)) = upB x ∧ (0 ≤ IntKind.u8.wrap (IntKind.u8.wrap ((x.toNat : Int) - 97) + 65) ∧ IntKind.u8.wrap (IntKind.u8.wrap ((x.toNat : Int) - 97) + 65) < 256) := by
  have e : IntKind.u8.wrap (IntKind.u8.wrap ((x.toNat : Int) - 97) + 65) = (x.toNat : Int) - 32 := by
    rw [u8_in (n := (x.toNat : Int) - 97) (by omega) (by omega), u8_in (by omega) (by omega)]; omega
  rw [e]
  refine ⟨?_, by omega, by omega⟩
  unfold upB toByte
  rw [bcT (decide_eq_true h)]
  congr 1; omega
theorem loop41 (l : List UInt8) (hl : l.length ≤ 9223372036854775807) : Tri Tryz.prog (.loop ((loopBodies (bodyOf Tryz.f63)).headD .skip)) (st41 l l.length 0).toA (.exit 0) (fin41 (l.map upB) l.length).toA 0 := by
  have h0 : l = grS l 0 := by unfold grS; simp
  have key := loop_rounds (ι := { p : Nat // p ≤ l.length }) (ent_sound (NF := 64) (m := 18446744073709551616) tab0_ok host nolv_ok 30) (x := (loopBodies (bodyOf Tryz.f63)).headD .skip) (K := 0) (lv := {}) (NF := 64) (m := 18446744073709551616) (fun x hx id e h1 h2 => by cases h2) (fun n => hasN [3, 8, 9, 10] n) (fun n => hasN [3] n) (fun p => st41 (grS l p.1) l.length (p.1 : Int)) (fun p => l.length - p.1) (fun p => (.exit 0, fin41 (l.map upB) l.length)) ?_ (fun p => by simp) ⟨0, Nat.zero_le _⟩
  · simp only at key
    rw [← h0] at key
    exact key
  rintro ⟨p, hp⟩
  simp only
  rw [round41, Nat.mul_one, Int.toNat_natCast]
  by_cases h : p < l.length
  · have hw : IntKind.i64.wrap ((p : Int) + 1) = ((p + 1 : Nat) : Int) := by rw [i64_in (by omega) (by omega)]; rfl
    have htl : ((l.take p).map upB).length = p := by simp; omega
    have hb : byteAt (grS l p) p = (l[p].toNat : Int) := by rw [gr_at h]; exact byte_mid _ _ _ htl
    have hW : grW (grS l p) p = IntKind.u8.wrap (IntKind.u8.wrap ((l[p].toNat : Int) - 97) + 65) := by
      unfold grW; rw [Nat.mul_one, Int.toNat_natCast, hb]
    unfold grN
    rw [hw, hb, hW, gr_len hp, bcT (b := decide ((p : Int) < (l.length : Int))) (decide_eq_true (by omega)), bcT (b := decide (0 ≤ (p : Int) ∧ _)) (by rw [decide_eq_true_eq]; omega), bcT (b := decide (p < l.length)) (decide_eq_true h)]
    refine .inl ⟨⟨p + 1, h⟩, by simp only; omega, trivial, ?_⟩
    by_cases h1 : 97 ≤ l[p].toNat
    · rw [bcT (b := decide ((l[p].toNat : Int) ≥ 97)) (decide_eq_true (by omega))]
      by_cases h2 : l[p].toNat ≤ 122
      · have hs := up_small (x := l[p]) ⟨h1, h2⟩
        rw [bcT (b := decide ((l[p].toNat : Int) ≤ 122)) (decide_eq_true (by omega)), bcT (b := decide (0 ≤ (p : Int) ∧ _)) (by rw [decide_eq_true_eq]; omega), bcT (b := _ && _) (by rw [decide_eq_true h, decide_eq_true hs.2]; rfl), hs.1, gr_next h]
        rw [gr_at h, set_mid _ _ _ _ htl]
      · have hu : upB l[p] = l[p] := by unfold upB; rw [bcF (decide_eq_false (by omega))]
        rw [bcF (b := decide ((l[p].toNat : Int) ≤ 122)) (decide_eq_false (by omega)), gr_next h, hu, gr_at h]
    · have hu : upB l[p] = l[p] := by unfold upB; rw [bcF (decide_eq_false (by omega))]
      rw [bcF (b := decide ((l[p].toNat : Int) ≥ 97)) (decide_eq_false (by omega)), gr_next h, hu, gr_at h]
  · right
    have : p = l.length := by omega
    subst this
    rw [bcF (b := decide _) (decide_eq_false (by omega))]
    have : grS l l.length = l.map upB := by unfold grS; simp
    rw [this]

def e41 : Nat → PState → LAns := fun K t => match K, t with
  | 0, ⟨none :: none :: none :: some (.vec 0 n) :: none :: none :: none :: none :: some (.vec 0 n1) :: some (.int .i64 n2) :: some (.int .i64 i) :: rs, some (.vecB l 5) :: rm⟩ =>
    .chk (nonesV 19 rs) (.chk (nonesB 64 rm) (.chk (decide (n = l.length ∧ n1 = l.length ∧ n2 = (l.length : Int) ∧ i = 0 ∧ l.length ≤ 9223372036854775807)) (.out (.exit 0) (fin41 (l.map upB) l.length))))
  | _, _ => .fail
def lv41 : FuncId → Lv := fun f => match f with
  | 63 => { keep := fun _ => some [3, 8, 9, 10], ent := fun i => match i with | 3 => some e41 | _ => none }
  | _ => {}
theorem lv41_ok : LvOK Tryz.prog lv41 := by
  intro f fn body hf hb K x hx id e hid he t
  by_cases h : f = 63
  · subst h
    obtain rfl : fn = Tryz.f63 := (Option.some.inj (Tryz.func63.symm.trans hf)).symm
    have hbody : body = bodyOf Tryz.f63 := by unfold bodyOf; rw [hb]; rfl
    subst hbody
    have h1 : loopBodies (bodyOf Tryz.f63) = [(loopBodies (bodyOf Tryz.f63)).headD .skip] := by kernel_rfl
    rw [h1] at hx
    have hx' := List.mem_singleton.1 hx
    have h2 : id = 3 := by
      have h3 : headReg ((loopBodies (bodyOf Tryz.f63)).headD .skip) = some 3 := by kernel_rfl
      rw [hx', h3] at hid; exact (Option.some.inj hid).symm
    subst h2
    have he' : e41 = e := Option.some.inj he
    subst he'
    rw [hx']
    clear hx hx' hid he hb hf h1
    unfold e41
    split
    · rename_i n n1 n2 i rs l rm
      refine ⟨fun g1 => ⟨fun g2 => ⟨fun g3 => ?_, fun _ => trivial⟩, fun _ => trivial⟩, fun _ => trivial⟩
      obtain ⟨k1, k2, k3, k4, k5⟩ := of_decide_eq_true g3
      subst k1; subst k2; subst k3; subst k4
      rw [nonesV_eq _ _ g1, nonesB_eq _ _ g2]
      exact loop41 l k5
    · trivial
  · exfalso
    have : (lv41 f).ent id = none := by
      unfold lv41
      split
      · exact absurd rfl h
      · rfl
    rw [this] at he; cases he
def eGreat : Ent := fun args pre => match args, pre with
  | [.str l], [] => .chk (decide (l.length ≤ 1000000)) (.ret (.str (l.map upB)) [])
  | _, _ => .fail
theorem great_ok : EntOK Tryz.prog 63 eGreat := fun args pre => by
  unfold eGreat
  split
  · rename_i l
    have e : Comes tab0 lv41 63 [.str l] [] (.chk (decide (l.length = l.length ∧ l.length = l.length ∧ (l.length : Int) = (l.length : Int) ∧ (0 : Int) = 0 ∧ l.length ≤ 9223372036854775807)) (.br (decide (l.length ≤ (l.map upB).length)) (.ret (.str ((l.map upB).take l.length)) []) .fail)) := by unfold Comes; kernel_rfl
    refine of_run (ans_comes tab0_ok e lv41_ok) fun r h => ?_
    obtain ⟨h1, h⟩ := chk_run h
    have hl := of_decide_eq_true h1
    rw [← h]
    simp only [Ans.run, Ans.chk]
    rw [bcT (b := decide (_ ∧ _)) (by rw [decide_eq_true_eq]; refine ⟨?_, ?_, ?_, ?_, by omega⟩ <;> trivial), bcT (b := decide (l.length ≤ (l.map upB).length)) (decide_eq_true (by simp)), List.take_of_length_le (by simp)]
  · trivial
end Go.Proofs.YtebieapmoaaahaaGreatDoor

/- Layer 2: the column of any letters. -/
set_option linter.unusedVariables false
set_option linter.unusedSimpArgs false
namespace Go.Proofs.YtebieapmoaaahaaGreatDoor
open Go Sx

def tabRc : Tab := (63, eGreat) :: tabL
theorem tabRc_ok : TabOK Tryz.prog tabRc := .cons great_ok tabL_ok
def rcW (n c : Int) : Int := IntKind.i64.wrap (IntKind.i64.wrap (IntKind.i64.wrap (n * 26) + IntKind.i64.wrap (IntKind.i32.wrap (c - 65))) + 1)
def fin18x (n : Int) : PState := ⟨none :: none :: none :: none :: some (.int .i64 n) :: List.replicate 24 none, List.replicate 64 none⟩
def fin18r (n : Int) : PState := ⟨none :: none :: some (.int .i64 0) :: some (.int .i64 20) :: some (.int .i64 n) :: List.replicate 24 none, List.replicate 64 none⟩
theorem round18 (u : List UInt8) (n : Int) (p : Nat) : code (ent (R := Ex × PState) Tryz.prog tabRc nolv 64 18446744073709551616 30) Tryz.prog {} 0 64 18446744073709551616 ((loopBodies (bodyOf Tryz.f53)).headD .skip) (st18 u n p) (endK 0 64 (fun n => hasN [4, 9] n) (fun n => hasN [2, 3, 4] n)) =
    bcond (decide (p < u.length)) (bcond (!letB (runeAt u p)) (some (.ret, fin18r n)) (bcond (decide (rcW n (runeAt u p) > 52)) (some (.ret, fin18r (rcW n (runeAt u p)))) (some (.normal, st18 u (rcW n (runeAt u p)) (p + (Utf8.decode ⟨u.toArray⟩ p).2)))))
      (some (.exit 0, fin18x n)) := by kernel_rfl

/-- Great letters as a number: whether it stays at most 52, and the last one. -/
def rcR : Nat → List UInt8 → Bool × Nat
  | n, [] => (true, n)
  | n, c :: l => bcond (Nat.ble (n * 26 + (c.toNat - 65) + 1) 52) (rcR (n * 26 + (c.toNat - 65) + 1) l) (false, n * 26 + (c.toNat - 65) + 1)
def capB (c : UInt8) : Bool := Nat.ble 65 c.toNat && Nat.ble c.toNat 90
theorem cap_iff {c : UInt8} : capB c = true ↔ 65 ≤ c.toNat ∧ c.toNat ≤ 90 := by unfold capB; rw [Bool.and_eq_true, bleT, bleT]
def res18 (r : Bool × Nat) : Ex × PState := bcond r.1 (.exit 0, fin18x (r.2 : Int)) (.ret, fin18r (r.2 : Int))
theorem loop18 (u : List UInt8) (hu : u.all capB = true) : Tri Tryz.prog (.loop ((loopBodies (bodyOf Tryz.f53)).headD .skip)) (st18 u 0 0).toA (res18 (rcR 0 u)).1 (res18 (rcR 0 u)).2.toA 0 := by
  have key := loop_rounds (ι := { q : Nat × Nat // q.1 ≤ u.length ∧ q.2 ≤ 52 }) (ent_sound (NF := 64) (m := 18446744073709551616) tabRc_ok host nolv_ok 30) (x := (loopBodies (bodyOf Tryz.f53)).headD .skip) (K := 0) (lv := {}) (NF := 64) (m := 18446744073709551616) (fun x hx id e h1 h2 => by cases h2) (fun n => hasN [4, 9] n) (fun n => hasN [2, 3, 4] n) (fun q => st18 u (q.1.2 : Int) q.1.1) (fun q => u.length - q.1.1) (fun q => res18 (rcR q.1.2 (u.drop q.1.1))) ?_ (fun q => by
      simp only [res18]; cases (rcR q.1.2 (u.drop q.1.1)).1 <;> simp [bcond]) ⟨(0, 0), Nat.zero_le _, Nat.zero_le _⟩
  · exact key
  rintro ⟨⟨p, n⟩, hp, hn⟩
  simp only at hp hn ⊢
  rw [round18]
  by_cases h : p < u.length
  · have hc := cap_iff.1 (List.all_eq_true.1 hu _ (List.getElem_mem h))
    have hs : p < (⟨u.toArray⟩ : ByteArray).size := by simpa [ByteArray.size] using h
    have hd := Go.decode_ascii ⟨u.toArray⟩ p hs (by show (u.toArray[p]'(by simpa using h)).toNat < 128; simp; omega)
    have hr : runeAt u p = (u[p].toNat : Int) := by unfold runeAt; rw [hd]; rfl
    have hw : (Utf8.decode ⟨u.toArray⟩ p).2 = 1 := by rw [hd]
    have hW : rcW (n : Int) (u[p].toNat : Int) = ((n * 26 + (u[p].toNat - 65) + 1 : Nat) : Int) := by
      unfold rcW
      rw [i32_in (by omega) (by omega), i64_in (n := (n : Int) * 26) (by omega) (by omega), i64_in (n := (u[p].toNat : Int) - 65) (by omega) (by omega), i64_in (n := (n : Int) * 26 + ((u[p].toNat : Int) - 65)) (by omega) (by omega), i64_in (by omega) (by omega)]
      omega
    have hl : (!letB (u[p].toNat : Int)) = false := by
      unfold letB
      rw [decide_eq_true (show (65 ≤ (u[p].toNat : Int) ∧ (u[p].toNat : Int) ≤ 90) ∨ _ from .inl ⟨by omega, by omega⟩)]; rfl
    rw [hr, hw, hW, hl, bcT (b := decide (p < u.length)) (decide_eq_true h), bcF rfl, List.drop_eq_getElem_cons h, rcR]
    generalize hm : n * 26 + (u[p].toNat - 65) + 1 = m
    by_cases h1 : m ≤ 52
    · rw [bcF (b := decide ((m : Int) > 52)) (decide_eq_false (by omega)), bcT (b := Nat.ble m 52) (bleT.2 h1)]
      exact .inl ⟨⟨(p + 1, m), h, h1⟩, by simp only; omega, rfl, rfl⟩
    · rw [bcT (b := decide ((m : Int) > 52)) (decide_eq_true (by omega)), bcF (b := Nat.ble m 52) (Bool.eq_false_iff.2 fun e => h1 (bleT.1 e))]
      exact .inr rfl
  · right
    have : p = u.length := by omega
    subst this
    rw [bcF (b := decide _) (decide_eq_false (by omega)), List.drop_length]
    rfl

def e18 : Nat → PState → LAns := fun K t => match K, t with
  | 0, ⟨none :: none :: none :: none :: some (.int .i64 n) :: none :: none :: none :: none :: some (.ptr 0 0) :: rs, some (.raw (.iter u 0)) :: rm⟩ =>
    .chk (nonesV 19 rs) (.chk (nonesB 64 rm) (.chk (decide (n = 0)) (.chk (u.all capB) (.br (rcR 0 u).1 (.out (.exit 0) (fin18x ((rcR 0 u).2 : Int))) (.out .ret (fin18r ((rcR 0 u).2 : Int)))))))
  | _, _ => .fail
def lv18 : FuncId → Lv := fun f => match f with
  | 53 => { keep := fun _ => some [4, 9], ent := fun i => match i with | 3 => some e18 | _ => none }
  | _ => {}
theorem lv18_ok : LvOK Tryz.prog lv18 := by
  intro f fn body hf hb K x hx id e hid he t
  by_cases h : f = 53
  · subst h
    obtain rfl : fn = Tryz.f53 := (Option.some.inj (Tryz.func53.symm.trans hf)).symm
    have hbody : body = bodyOf Tryz.f53 := by unfold bodyOf; rw [hb]; rfl
    subst hbody
    have h1 : loopBodies (bodyOf Tryz.f53) = [(loopBodies (bodyOf Tryz.f53)).headD .skip] := by kernel_rfl
    rw [h1] at hx
    have hx' := List.mem_singleton.1 hx
    have h2 : id = 3 := by
      have h3 : headReg ((loopBodies (bodyOf Tryz.f53)).headD .skip) = some 3 := by kernel_rfl
      rw [hx', h3] at hid; exact (Option.some.inj hid).symm
    subst h2
    have he' : e18 = e := Option.some.inj he
    subst he'
    rw [hx']
    clear hx hx' hid he hb hf h1
    unfold e18
    split
    · rename_i n rs u rm
      refine ⟨fun g1 => ⟨fun g2 => ⟨fun g3 => ⟨fun g4 => ?_, fun _ => trivial⟩, fun _ => trivial⟩, fun _ => trivial⟩, fun _ => trivial⟩
      have g3 := of_decide_eq_true g3
      subst g3
      rw [nonesV_eq _ _ g1, nonesB_eq _ _ g2]
      have := loop18 u g4
      refine ⟨fun hc => ?_, fun hc => ?_⟩
      · unfold res18 at this; rw [bcT hc] at this; exact this
      · unfold res18 at this; rw [bcF hc] at this; exact this
    · trivial
  · exfalso
    have : (lv18 f).ent id = none := by
      unfold lv18
      split
      · exact absurd rfl h
      · rfl
    rw [this] at he; cases he
/-- The column of some letters, less one, and the error. -/
def rcG (l : List UInt8) : Int × Int := bcond ((rcR 0 (l.map upB)).1 && !(Nat.beq (rcR 0 (l.map upB)).2 0)) (((rcR 0 (l.map upB)).2 : Int) - 1, 0) (0, 20)
def letsB (l : List UInt8) : Bool := Nat.ble l.length 1000000 && l.all fun c => letB c.toNat
theorem up_cap {c : UInt8} (h : letB c.toNat = true) : capB (upB c) = true := by
  unfold letB at h
  have h := of_decide_eq_true h
  rw [cap_iff]
  unfold upB
  by_cases h1 : 97 ≤ c.toNat ∧ c.toNat ≤ 122
  · rw [bcT (decide_eq_true h1), UInt8.toNat_ofNat']; omega
  · rw [bcF (decide_eq_false h1)]; omega
theorem rcR_le : ∀ (l : List UInt8) (n : Nat), n ≤ 52 → (rcR n l).2 ≤ 100000000
  | [], n, h => by simp only [rcR]; omega
  | c :: l, n, h => by
    have hc : c.toNat < 256 := UInt8.toNat_lt _
    simp only [rcR]
    cases h1 : Nat.ble (n * 26 + (c.toNat - 65) + 1) 52 with
    | true => exact rcR_le l _ (bleT.1 h1)
    | false => simp only [bcond]; omega
def eRCg : Ent := fun args pre => match args, pre with
  | [.str l], [] => .chk (letsB l) (.ret (.tuple [.int .i64 (rcG l).1, .int .i64 (rcG l).2]) [])
  | _, _ => .fail
theorem readColG_ok : EntOK Tryz.prog 53 eRCg := fun args pre => by
  unfold eRCg
  split
  · rename_i l
    have e : Comes tabRc lv18 53 [.str l] [] (.chk (decide (l.length ≤ 1000000)) (.chk (decide ((0 : Int) = 0)) (.chk ((l.map upB).all capB) (.br (rcR 0 (l.map upB)).1 (.br (((rcR 0 (l.map upB)).2 : Int) == 0) (.ret (.tuple [.int .i64 0, .int .i64 20]) []) (.ret (.tuple [.int .i64 (IntKind.i64.wrap (((rcR 0 (l.map upB)).2 : Int) - 1)), .int .i64 0]) []))
      (.ret (.tuple [.int .i64 0, .int .i64 20]) []))))) := by unfold Comes; kernel_rfl
    refine of_run (ans_comes tabRc_ok e lv18_ok) fun r h => ?_
    obtain ⟨h1, h⟩ := chk_run h
    unfold letsB at h1
    rw [Bool.and_eq_true] at h1
    have hcap : (l.map upB).all capB = true := by
      rw [List.all_map]
      exact List.all_eq_true.2 fun c hc => up_cap (List.all_eq_true.1 h1.2 c hc)
    rw [← h]
    simp only [Ans.run, Ans.chk]
    rw [bcT (b := decide (l.length ≤ 1000000)) (decide_eq_true (bleT.1 h1.1)), bcT (b := decide True) (decide_eq_true trivial), bcT hcap]
    unfold rcG
    have hle := rcR_le (l.map upB) 0 (Nat.zero_le _)
    generalize rcR 0 (l.map upB) = x at *
    obtain ⟨b, n⟩ := x
    simp only at hle ⊢
    cases b with
    | false => rfl
    | true =>
      cases n with
      | zero => rfl
      | succ n =>
        rw [i64_in (by omega) (by omega)]
        have hz : (((n + 1 : Nat) : Int) == 0) = false := beq_eq_false_iff_ne.2 (by omega)
        simp only [hz]
        rfl
  · trivial
end Go.Proofs.YtebieapmoaaahaaGreatDoor

/- strconv.Atoi by the library's own contract, laid over this program in plain words. -/
set_option linter.unusedVariables false
set_option linter.unusedSimpArgs false
namespace Go.Proofs.YtebieapmoaaahaaGreatDoor
open Go Sx Go.Shelf
set_option maxRecDepth 100000
def atoRen : Ren := ⟨fun | 129 => 174 | 171 => 156 | 172 => 85 | 205 => 155 | 243 => 166 | 244 => 111 | 245 => 112 | 246 => 168 | 247 => 131 | 279 => 132 | 280 => 133 | 281 => 134 | 282 => 135 | 283 => 169 | 284 => 170 | 285 => 171 | 286 => 172 | 287 => 153 | 316 => 154 | 317 => 173 | 318 => 175 | 319 => 176 | 320 => 177 | 321 => 164 | 322 => 165 | 337 => 178 | 338 => 179 | n => n, fun | 0 => 0 | 2 => 2 | 3 => 3 | 4 => 4 | 5 => 5 | 9 => 9 | 20 => 20 | 21 => 21 | 37 => 31 | 46 => 123 | 51 => 140 | 53 => 149 | 75 => 56 | 76 => 58 | 80 => 62 | 85 => 127 | 127 => 90 | 143 => 162 | 145 => 164 | 167 => 126 | 168 => 129 | 171 => 166 | 173 => 169 | 175 => 150 | 210 => 153 | 212 => 172 | 213 => 173 | 232 => 177 | 233 => 178 | n => n, fun | 15 => 4 | 16 => 5 | 17 => 6 | 18 => 7 | 19 => 8 | n => n⟩
theorem layA : Lays.n172 Tryz.prog atoRen := {
  mixed := by kernel_rfl,
  f129 := Tryz.func174.trans (congrArg some (by kernel_rfl)),
  f171 := Tryz.func156.trans (congrArg some (by kernel_rfl)),
  f172 := Tryz.func85.trans (congrArg some (by kernel_rfl)),
  f205 := Tryz.func155.trans (congrArg some (by kernel_rfl)),
  f243 := Tryz.func166.trans (congrArg some (by kernel_rfl)),
  f244 := Tryz.func111.trans (congrArg some (by kernel_rfl)),
  f245 := Tryz.func112.trans (congrArg some (by kernel_rfl)),
  f246 := Tryz.func168.trans (congrArg some (by kernel_rfl)),
  f247 := Tryz.func131.trans (congrArg some (by kernel_rfl)),
  f279 := Tryz.func132.trans (congrArg some (by kernel_rfl)),
  f280 := Tryz.func133.trans (congrArg some (by kernel_rfl)),
  f281 := Tryz.func134.trans (congrArg some (by kernel_rfl)),
  f282 := Tryz.func135.trans (congrArg some (by kernel_rfl)),
  f283 := Tryz.func169.trans (congrArg some (by kernel_rfl)),
  f284 := Tryz.func170.trans (congrArg some (by kernel_rfl)),
  f285 := Tryz.func171.trans (congrArg some (by kernel_rfl)),
  f286 := Tryz.func172.trans (congrArg some (by kernel_rfl)),
  f287 := Tryz.func153.trans (congrArg some (by kernel_rfl)),
  f316 := Tryz.func154.trans (congrArg some (by kernel_rfl)),
  f317 := Tryz.func173.trans (congrArg some (by kernel_rfl)),
  f318 := Tryz.func175.trans (congrArg some (by kernel_rfl)),
  f319 := Tryz.func176.trans (congrArg some (by kernel_rfl)),
  f320 := Tryz.func177.trans (congrArg some (by kernel_rfl)),
  f321 := Tryz.func164.trans (congrArg some (by kernel_rfl)),
  f322 := Tryz.func165.trans (congrArg some (by kernel_rfl)),
  f337 := Tryz.func178.trans (congrArg some (by kernel_rfl)),
  f338 := Tryz.func179.trans (congrArg some (by kernel_rfl)),
  t0 := Tryz.underlying0,
  a0 := Tryz.isAgg0,
  z0 := Tryz.sizeOf0,
  v0 := Tryz.zeroValue0,
  t2 := Tryz.underlying2,
  a2 := Tryz.isAgg2,
  z2 := Tryz.sizeOf2,
  v2 := Tryz.zeroValue2,
  t3 := Tryz.underlying3,
  a3 := Tryz.isAgg3,
  z3 := Tryz.sizeOf3,
  v3 := Tryz.zeroValue3,
  t4 := Tryz.underlying4,
  a4 := Tryz.isAgg4,
  z4 := Tryz.sizeOf4,
  v4 := Tryz.zeroValue4,
  t5 := Tryz.underlying5,
  a5 := Tryz.isAgg5,
  z5 := Tryz.sizeOf5,
  v5 := Tryz.zeroValue5,
  t9 := Tryz.underlying9,
  a9 := Tryz.isAgg9,
  z9 := Tryz.sizeOf9,
  v9 := Tryz.zeroValue9,
  t20 := Tryz.underlying20,
  a20 := Tryz.isAgg20,
  z20 := Tryz.sizeOf20,
  v20 := Tryz.zeroValue20,
  t21 := Tryz.underlying21,
  a21 := Tryz.isAgg21,
  z21 := Tryz.sizeOf21,
  v21 := Tryz.zeroValue21,
  t37 := Tryz.underlying31,
  a37 := Tryz.isAgg31,
  z37 := Tryz.sizeOf31,
  v37 := Tryz.zeroValue31,
  t46 := Tryz.underlying123,
  a46 := Tryz.isAgg123,
  z46 := Tryz.sizeOf123,
  v46 := Tryz.zeroValue123,
  t51 := Tryz.underlying140,
  a51 := Tryz.isAgg140,
  z51 := Tryz.sizeOf140,
  v51 := Tryz.zeroValue140,
  t53 := Tryz.underlying149,
  a53 := Tryz.isAgg149,
  z53 := Tryz.sizeOf149,
  v53 := Tryz.zeroValue149,
  t75 := Tryz.underlying56,
  a75 := Tryz.isAgg56,
  z75 := Tryz.sizeOf56,
  v75 := Tryz.zeroValue56,
  t76 := Tryz.underlying58,
  a76 := Tryz.isAgg58,
  z76 := Tryz.sizeOf58,
  v76 := Tryz.zeroValue58,
  t85 := Tryz.underlying127,
  a85 := Tryz.isAgg127,
  z85 := Tryz.sizeOf127,
  v85 := Tryz.zeroValue127,
  t127 := Tryz.underlying90,
  a127 := Tryz.isAgg90,
  z127 := Tryz.sizeOf90,
  v127 := Tryz.zeroValue90,
  t143 := Tryz.underlying162,
  a143 := Tryz.isAgg162,
  z143 := Tryz.sizeOf162,
  v143 := Tryz.zeroValue162,
  t145 := Tryz.underlying164,
  a145 := Tryz.isAgg164,
  z145 := Tryz.sizeOf164,
  v145 := Tryz.zeroValue164,
  t167 := Tryz.underlying126,
  a167 := Tryz.isAgg126,
  z167 := Tryz.sizeOf126,
  v167 := Tryz.zeroValue126,
  t168 := Tryz.underlying129,
  a168 := Tryz.isAgg129,
  z168 := Tryz.sizeOf129,
  v168 := Tryz.zeroValue129,
  t171 := Tryz.underlying166,
  a171 := Tryz.isAgg166,
  z171 := Tryz.sizeOf166,
  v171 := Tryz.zeroValue166,
  t173 := Tryz.underlying169,
  a173 := Tryz.isAgg169,
  z173 := Tryz.sizeOf169,
  v173 := Tryz.zeroValue169,
  t175 := Tryz.underlying150,
  a175 := Tryz.isAgg150,
  z175 := Tryz.sizeOf150,
  v175 := Tryz.zeroValue150,
  t210 := Tryz.underlying153,
  a210 := Tryz.isAgg153,
  z210 := Tryz.sizeOf153,
  v210 := Tryz.zeroValue153,
  t212 := Tryz.underlying172,
  a212 := Tryz.isAgg172,
  z212 := Tryz.sizeOf172,
  v212 := Tryz.zeroValue172,
  t213 := Tryz.underlying173,
  a213 := Tryz.isAgg173,
  z213 := Tryz.sizeOf173,
  t232 := Tryz.underlying177,
  a232 := Tryz.isAgg177,
  z232 := Tryz.sizeOf177,
  v232 := Tryz.zeroValue177,
  t233 := Tryz.underlying178,
  a233 := Tryz.isAgg178,
  z233 := Tryz.sizeOf178,
  v233 := Tryz.zeroValue178,
  g15 := by kernel_rfl,
  g16 := by kernel_rfl,
  g17 := by kernel_rfl,
  g18 := by kernel_rfl,
  g19 := by kernel_rfl }
theorem layB : LaysM.n172 Tryz.prog atoRen := { layA with
  t80 := Tryz.underlying62,
  a80 := Tryz.isAgg62,
  z80 := Tryz.sizeOf62,
  v80 := Tryz.zeroValue62,
  i0 := by kernel_rfl,
  i2 := by kernel_rfl,
  i3 := by kernel_rfl,
  i4 := by kernel_rfl,
  i5 := by kernel_rfl,
  i9 := by kernel_rfl,
  i20 := by kernel_rfl,
  i21 := by kernel_rfl,
  i37 := by kernel_rfl,
  i46 := by kernel_rfl,
  i51 := by kernel_rfl,
  i53 := by kernel_rfl,
  i75 := by kernel_rfl,
  i76 := by kernel_rfl,
  i80 := by kernel_rfl,
  i85 := by kernel_rfl,
  i127 := by kernel_rfl,
  i143 := by kernel_rfl,
  i145 := by kernel_rfl,
  i167 := by kernel_rfl,
  i168 := by kernel_rfl,
  i171 := by kernel_rfl,
  i173 := by kernel_rfl,
  i175 := by kernel_rfl,
  i210 := by kernel_rfl,
  i212 := by kernel_rfl,
  i232 := by kernel_rfl,
  i233 := by kernel_rfl,
  m15 := by kernel_rfl,
  m16 := by kernel_rfl,
  m17 := by kernel_rfl,
  m18 := by kernel_rfl,
  m19 := by kernel_rfl }
theorem layAtoi : LaysC.n172 Tryz.prog atoRen := { layB with
  c0 := by kernel_rfl,
  c2 := by kernel_rfl,
  c3 := by kernel_rfl,
  c4 := by kernel_rfl,
  c5 := by kernel_rfl,
  c9 := by kernel_rfl,
  c20 := by kernel_rfl,
  c21 := by kernel_rfl,
  c37 := by kernel_rfl,
  c46 := by kernel_rfl,
  c51 := by kernel_rfl,
  c53 := by kernel_rfl,
  c75 := by kernel_rfl,
  c76 := by kernel_rfl,
  c80 := by kernel_rfl,
  c85 := by kernel_rfl,
  c127 := by kernel_rfl,
  c143 := by kernel_rfl,
  c145 := by kernel_rfl,
  c167 := by kernel_rfl,
  c168 := by kernel_rfl,
  c171 := by kernel_rfl,
  c173 := by kernel_rfl,
  c175 := by kernel_rfl,
  c210 := by kernel_rfl,
  c212 := by kernel_rfl,
  c213 := by kernel_rfl,
  c232 := by kernel_rfl,
  c233 := by kernel_rfl }
end Go.Proofs.YtebieapmoaaahaaGreatDoor

/- strconv.Atoi as an entry: the number, or an error that is not nil. -/
set_option linter.unusedVariables false
set_option linter.unusedSimpArgs false
namespace Go.Proofs.YtebieapmoaaahaaGreatDoor
open Go Sx Go.Shelf

def atoB (l : List UInt8) : Bool := match Lib.atoiAll l with | .ok _ => true | _ => false
def atoV (l : List UInt8) : Int := match Lib.atoiAll l with | .ok v => v | .range => Lib.atoiSat l | _ => 0
def eAtoi : Ent := fun args pre => match args, pre with
  | [.str l], [] => .chk (decide (l.length ≤ 1000000)) (.br (atoB l) (.ret (.tuple [.int .i64 (atoV l), .niliface]) []) (.ret (.tuple [.int .i64 (atoV l), .iface 129 (.ptr 0 0)]) [.raw .dead]))
  | _, _ => .fail
theorem ato_bad {w : World} {E : Env} {l : List UInt8} {v : Int} (hp : PreR E w []) {cs : Value × Value × Value}
    (h : Calls Tryz.prog 85 #[.string ⟨l.toArray⟩] w fun e w' => ∃ N, e = .returned (.tuple #[.int .i64 v, .iface 129 (.pointer (some ⟨N, 0, none⟩))]) ∧ w.heap.size ≤ N ∧ w'.heap[N]? = some (.cells #[cs.1, cs.2.1, cs.2.2] 153 (0, 0)) ∧ RowKit.Below w.heap.size w w') :
    Does Tryz.prog 85 #[.string ⟨l.toArray⟩] w fun e w' => ∃ E' x, e = .returned x ∧ den E' (.tuple [.int .i64 v, .iface 129 (.ptr 0 0)]) = some x ∧ PostR E E' w w' [] [.dead] := by
  refine .inl ⟨85, _, Tryz.call85 _ _, h.mono ?_⟩
  rintro e w' ⟨N, rfl, hN, hc, hb⟩
  have hE : ∀ m, E m = none := fun m => hp.fresh m (Nat.zero_le _)
  refine ⟨E.set 0 (N, { n := 0 }), _, rfl, by simp [den, denL, Env.set_same], {
    le := .set (hE 0)
    cut := fun m hm => by rw [Env.set_other _ _ (by simp at hm; omega)]; exact hE m
    objs := fun m o hm => by
      cases m with
      | succ m => simp at hm
      | zero => simp at hm; subst hm; exact ⟨_, _, Env.set_same _ _ _, trivial⟩
    made := fun m b c o _ hm hEm ht' => by
      cases m with
      | succ m => simp at hm
      | zero => rw [Env.set_same] at hEm; cases hEm; exact .inl hN
    keep := fun j hj _ => hb.block j hj
    newApart := fun m m' o o' b c b' c' _ _ hm hm' _ _ _ _ hne => by
      cases m with
      | succ m => simp at hm
      | zero => cases m' with
        | succ m' => simp at hm'
        | zero => exact absurd rfl hne
    grow := hb.size, os := hb.os, tape := hb.tape, output := hb.output }⟩
theorem atoi_ok : EntOK Tryz.prog 85 eAtoi := fun args pre => by
  unfold eAtoi
  split
  · rename_i l
    refine ⟨fun hl => ?_, fun _ => trivial⟩
    have hl := of_decide_eq_true hl
    unfold atoB atoV
    refine ⟨fun hb => ?_, fun hb => ?_⟩
    · rcases hx : Lib.atoiAll l with v | _ | _
      · skip
        intro w E vs hvs hp
        obtain ⟨x, zs, hx', hz, rfl⟩ := denL_cons.1 hvs
        simp only [denL, Option.some.injEq] at hz
        subst hz
        obtain rfl : x = .string ⟨l.toArray⟩ := by simpa [den] using hx'.symm
        have hc := Any.strconv_Atoi_ok layAtoi ⟨l.toArray⟩ (by simp [ByteArray.size]; omega) v (by simpa using hx) w
        refine .inl ⟨85, _, Tryz.call85 _ _, hc.mono ?_⟩
        rintro e w' ⟨rfl, hw⟩
        have hbl : RowKit.Below w.heap.size w w' := by
          rcases hw with rfl | ⟨t, rfl⟩
          · exact RowKit.Below.refl _ _
          · exact Lib.bytesWorld_below _ _ _
        exact ⟨E, _, rfl, rfl, ⟨.refl _, hp.fresh, fun n o h => by simp at h, fun n b c o _ h => by simp at h, fun k hk _ => hbl.block k hk, fun n m o o' b c b' c' _ _ h => by simp at h, hbl.size, hbl.os, hbl.tape, hbl.output⟩⟩
      · rw [hx] at hb; cases hb
      · rw [hx] at hb; cases hb
    · rcases hx : Lib.atoiAll l with v | _ | _
      · rw [hx] at hb; cases hb
      · skip
        intro w E vs hvs hp
        obtain ⟨x, zs, hx', hz, rfl⟩ := denL_cons.1 hvs
        simp only [denL, Option.some.injEq] at hz
        subst hz
        obtain rfl : x = .string ⟨l.toArray⟩ := by simpa [den] using hx'.symm
        obtain ⟨te, pe, hv⟩ := hp.glob.err (g := 4) rfl
        exact ato_bad hp (cs := (_, _, _)) (Any.strconv_Atoi_syntax layAtoi ⟨l.toArray⟩ (by simp [ByteArray.size]; omega) (by simpa using hx) _ w hv (.inr ⟨te, pe, rfl⟩))
      · skip
        intro w E vs hvs hp
        obtain ⟨x, zs, hx', hz, rfl⟩ := denL_cons.1 hvs
        simp only [denL, Option.some.injEq] at hz
        subst hz
        obtain rfl : x = .string ⟨l.toArray⟩ := by simpa [den] using hx'.symm
        obtain ⟨te, pe, hv⟩ := hp.glob.err (g := 5) rfl
        exact ato_bad hp (cs := (_, _, _)) (Any.strconv_Atoi_range layAtoi ⟨l.toArray⟩ (by simp [ByteArray.size]; omega) (by simpa using hx) _ w hv (.inr ⟨te, pe, rfl⟩))
  · trivial
end Go.Proofs.YtebieapmoaaahaaGreatDoor

/- Layer 2: references, read: any text: the entry. -/
set_option linter.unusedVariables false
set_option linter.unusedSimpArgs false
namespace Go.Proofs.YtebieapmoaaahaaGreatDoor
open Go Sx

/-- The row of some digits, less one, and whether there is one. -/
def rrG (l : List UInt8) : Int × Bool := bcond (l.take 1 == [48]) (0, false) (bcond (atoB l && decide (atoV l ≤ 200)) (IntKind.i64.wrap (atoV l - 1), true) (0, false))
def eRRg : Ent := fun args pre => match args, pre with
  | [.str l], [] => .chk (Nat.ble l.length 1000000) (.ret (.tuple [.int .i64 (rrG l).1, .bool (rrG l).2]) [])
  | _, _ => .fail
def tabA : Tab := (85, eAtoi) :: tab0
theorem tabA_ok : TabOK Tryz.prog tabA := .cons atoi_ok tab0_ok
def noRow : Ans := .ret (.tuple [.int .i64 0, .bool false]) []
def ato38 (l : List UInt8) : Ans := .br (decide (l.length ≤ 1000000)) (.br (atoB l) (.br (decide (atoV l > 200)) noRow (.ret (.tuple [.int .i64 (IntKind.i64.wrap (atoV l - 1)), .bool true]) [])) noRow) .fail
theorem readRowG_ok : EntOK Tryz.prog 55 eRRg := fun args pre => by
  unfold eRRg
  split
  · rename_i l
    have e : Comes tabA nolv 55 [.str l] [] (.br (decide ((l.length : Int) ≥ ((1 : Nat) : Int))) (.br (decide (0 ≤ ((1 : Nat) : Int) ∧ (((1 : Nat) : Int)).toNat ≤ l.length)) (.br (List.take ((((1 : Nat) : Int)).toNat - 0) (List.drop 0 l) == [48]) noRow (ato38 l)) .fail) (ato38 l)) := by unfold Comes; kernel_rfl
    refine of_run (ans_comes tabA_ok e) fun r h => ?_
    obtain ⟨h1, h⟩ := chk_run h
    have hl := bleT.1 h1
    rw [← h]
    have key : (bcond (l.take 1 == [48]) (noRow.run pure2) ((ato38 l).run pure2)) = pure2 (.tuple [.int .i64 (rrG l).1, .bool (rrG l).2]) [] := by
      unfold rrG ato38 noRow
      cases l.take 1 == [48] with
      | true => rfl
      | false =>
        simp only [Ans.run]
        rw [bcF rfl, bcT (b := decide (l.length ≤ 1000000)) (decide_eq_true hl)]
        cases atoB l with
        | false => rfl
        | true =>
          by_cases h2 : atoV l ≤ 200
          · rw [bcF (b := decide (atoV l > 200)) (decide_eq_false (by omega)), decide_eq_true h2]; rfl
          · rw [bcT (b := decide (atoV l > 200)) (decide_eq_true (by omega)), decide_eq_false h2]; rfl
    cases l with
    | nil =>
      have hz : decide ((([] : List UInt8).length : Int) ≥ ((1 : Nat) : Int)) = false := by decide
      simp only [Ans.run]
      rw [hz]
      exact key
    | cons c t =>
      have hz : decide (((c :: t).length : Int) ≥ ((1 : Nat) : Int)) = true := decide_eq_true (by simp only [List.length_cons]; omega)
      have hy : decide (0 ≤ ((1 : Nat) : Int) ∧ (((1 : Nat) : Int)).toNat ≤ (c :: t).length) = true := by rw [decide_eq_true_eq]; simp only [List.length_cons]; omega
      simp only [Ans.run] at key ⊢
      rw [hz, bcT rfl, hy, bcT rfl]
      exact key
  · trivial
theorem trim_len (f : Int → Bool) (l : List UInt8) : (trimF f l).length ≤ l.length := by
  unfold trimF
  cases (scanF f l l.length 0).isNone with
  | true => simp [bcond]
  | false => simp [bcond]
theorem cqF_len (f : List UInt8 → Bool) : ∀ (n : Nat) (l acc : List UInt8), (cqF f n l acc).2.1.length ≤ l.length
  | 0, l, acc => by simp [cqF]
  | n + 1, l, acc => by
    have hb : (bhd l).length ≤ l.length := by unfold bhd; rw [List.length_drop]; omega
    unfold cqF
    cases decide (ixC 39 l ≥ 0) with
    | false => simp [bcond]
    | true =>
      cases cpB 33 (bhd l) with
      | true => show ((bhd l).drop 1).length ≤ _; rw [List.length_drop]; omega
      | false =>
        cases cpB 39 (bhd l) with
        | false => simp [bcond]
        | true =>
          refine Nat.le_trans (cqF_len f n _ _) ?_
          rw [List.length_drop]; omega
theorem csS_len (l : List UInt8) : (csS l).2.1.length ≤ l.length := by
  unfold csS csF
  cases cpB 39 l with
  | true =>
    refine Nat.le_trans (cqF_len _ _ _ _) ?_
    rw [List.length_drop]; omega
  | false =>
    cases decide (ixC 33 l ≥ 0) with
    | false => exact Nat.le_refl _
    | true => show (l.drop _).length ≤ _; rw [List.length_drop]; omega
theorem trimO_ok : EntOK Tryz.prog 52 (eTrimO (trimF letB) (trimF digB)) := trim_ok
def tabEg : Tab := tabE csS (trimF letB) (trimF digB) letsB rcG (fun l => Nat.ble l.length 1000000) rrG
theorem rc_ent : eRC letsB rcG = eRCg := by
  funext args pre
  unfold eRC eRCg
  rfl
theorem rr_ent : eRR (fun l => Nat.ble l.length 1000000) rrG = eRRg := by
  funext args pre
  unfold eRR eRRg
  rfl
theorem tabEg_ok : TabOK Tryz.prog tabEg := .cons cutSheet_ok (.cons trimO_ok (.cons (rc_ent ▸ readColG_ok) (.cons (rr_ent ▸ readRowG_ok) (.cons cutP_ok tab0_ok))))
/-- A reference's text, read. -/
def readA (l : List UInt8) : AV := readS csS (trimF letB) (trimF digB) rcG rrG l
def colA (l : List UInt8) : List UInt8 := ahd (trimF letB) (colP csS l)
def rowA (l : List UInt8) : List UInt8 := ahd (trimF digB) (rowP csS (trimF letB) l)

/-- What is ahead of what is not so is so. -/
theorem scan_pre {f : Int → Bool} (hf : ∀ c, f c = true → c < 128) (l : List UInt8) : ∀ (n p : Nat), l.length ≤ p + n → ∀ i (hi : i < l.length), p ≤ i → (∀ k, scanF f l n p = some k → i < k) → l[i].toNat < 128 ∧ f l[i].toNat = true
  | 0, p, h, i, hi, hp, _ => by omega
  | n + 1, p, h, i, hi, hp, hk => by
    have hpl : p < l.length := by omega
    simp only [scanF] at hk
    rw [bcT (b := decide (p < l.length)) (decide_eq_true hpl)] at hk
    cases hb : f (runeAt l p) == false with
    | true =>
      have := hk p (by rw [hb]; rfl)
      omega
    | false =>
      rw [hb] at hk
      have hft : f (runeAt l p) = true := by cases h2 : f (runeAt l p) with | true => rfl | false => rw [h2] at hb; cases hb
      have hlow := rune_low hpl (hf _ hft)
      have hasc := rune_asc hpl hlow
      by_cases e : i = p
      · subst e
        exact ⟨hlow, by rw [← hasc.1]; exact hft⟩
      · have hk' : ∀ k, scanF f l n (p + 1) = some k → i < k := fun k hk0 => hk k (by rw [hasc.2]; exact hk0)
        exact scan_pre hf l n (p + 1) (by omega) i hi (by omega) hk'
theorem ahd_all {f : Int → Bool} (hf : ∀ c, f c = true → c < 128) (l : List UInt8) : ∀ c ∈ ahd (trimF f) l, c.toNat < 128 ∧ f c.toNat = true := by
  intro c hc
  unfold ahd at hc
  obtain ⟨i, hi, e⟩ := List.getElem_of_mem hc
  rw [List.length_take] at hi
  have hil : i < l.length := by omega
  have e2 : l[i] = c := by rw [← e, List.getElem_take]
  rw [← e2]
  refine scan_pre hf l l.length 0 (by omega) i hil (Nat.zero_le _) fun k hk => ?_
  have ht : trimF f l = l.drop k := by unfold trimF; rw [hk]; rfl
  rw [ht, List.length_drop] at hi
  omega
theorem let_low (c : Int) (h : letB c = true) : c < 128 := by unfold letB at h; have := of_decide_eq_true h; omega
theorem ahd_len (t : List UInt8 → List UInt8) (R : List UInt8) : (ahd t R).length ≤ R.length := by unfold ahd; rw [List.length_take]; omega
theorem unfix_len (R : List UInt8) : (unfix R).length ≤ R.length := by
  unfold unfix
  cases cpB 36 R with
  | true => simp [bcond]
  | false => simp [bcond]
theorem colP_len (l : List UInt8) : (colP csS l).length ≤ l.length := Nat.le_trans (unfix_len _) (csS_len l)
theorem rowP_len (l : List UInt8) : (rowP csS (trimF letB) l).length ≤ l.length := Nat.le_trans (unfix_len _) (Nat.le_trans (trim_len _ _) (colP_len l))
theorem colA_ok {l : List UInt8} (h : l.length ≤ 1000000) : letsB (colA l) = true := by
  unfold letsB
  rw [Bool.and_eq_true, bleT]
  exact ⟨Nat.le_trans (ahd_len _ _) (Nat.le_trans (colP_len l) h), List.all_eq_true.2 fun c hc => (ahd_all let_low _ c hc).2⟩
theorem rowA_ok {l : List UInt8} (h : l.length ≤ 1000000) : Nat.ble (rowA l).length 1000000 = true :=
  bleT.2 (Nat.le_trans (ahd_len _ _) (Nat.le_trans (rowP_len l) h))
def eRead : Ent := fun args pre => match args, pre with
  | [.str l], [] => .chk (decide (l.length ≤ 1000000)) (.ret (readA l) [])
  | _, _ => .fail
theorem read_ok : EntOK Tryz.prog 20 eRead := fun args pre => by
  unfold eRead
  split
  · rename_i l
    refine of_run (ans_comes tabEg_ok (read_comes _ _ _ _ _ _ _ l)) fun r h => ?_
    obtain ⟨h1, h⟩ := chk_run h
    have hl := of_decide_eq_true h1
    rw [← h]
    exact rdT_run (trim_len letB) (trim_len digB) hl (csS_len l) (colA_ok hl) (rowA_ok hl)
  · trivial
end Go.Proofs.YtebieapmoaaahaaGreatDoor

/- Digits, and what the decimals' deeds come to: plain mathematics. -/
set_option linter.unusedVariables false
set_option linter.unusedSimpArgs false
namespace Go.Proofs.YtebieapmoaaahaaGreatDoor.Dc

/-- The number that digits are, the greatest first. -/
def val (l : List Int) : Int := l.foldl (fun n d => n * 10 + d) 0
def Dig (l : List Int) : Prop := ∀ d ∈ l, 0 ≤ d ∧ d ≤ 9
def digs : Nat → Int → List Int
  | 0, _ => []
  | n + 1, v => digs n (v / 10) ++ [v % 10]

theorem val_nil : val [] = 0 := rfl
theorem val_snoc (l : List Int) (d : Int) : val (l ++ [d]) = val l * 10 + d := by simp [val]
theorem foldl_val (l : List Int) : ∀ a : Int, l.foldl (fun n d => n * 10 + d) a = a * 10 ^ l.length + val l := by
  induction l with
  | nil => intro a; simp [val]
  | cons d l ih =>
    intro a
    have e : val (d :: l) = d * 10 ^ l.length + val l := by
      show l.foldl _ (0 * 10 + d) = _; rw [ih]; simp
    show l.foldl _ (a * 10 + d) = _
    rw [ih, e, List.length_cons, Int.pow_succ]
    rw [Int.add_mul, Int.mul_assoc, Int.mul_comm 10 _]
    omega
theorem val_cons (d : Int) (l : List Int) : val (d :: l) = d * 10 ^ l.length + val l := by
  show l.foldl _ (0 * 10 + d) = _; rw [foldl_val]; simp
theorem val_append (a b : List Int) : val (a ++ b) = val a * 10 ^ b.length + val b := by
  show (a ++ b).foldl _ 0 = _; rw [List.foldl_append, foldl_val]; rfl

theorem pow_pos' (n : Nat) : (0 : Int) < 10 ^ n := Int.pow_pos (by decide)

theorem pow_mono {n m : Nat} (h : n ≤ m) : (10 : Int) ^ n ≤ 10 ^ m := by
  have := Nat.pow_le_pow_right (n := 10) (by decide) h
  exact_mod_cast this

theorem digs_length : ∀ (n : Nat) (v : Int), (digs n v).length = n
  | 0, _ => rfl
  | n + 1, v => by simp [digs, digs_length n]
theorem digs_dig : ∀ (n : Nat) (v : Int), Dig (digs n v)
  | 0, _ => by intro d h; cases h
  | n + 1, v => by
    intro d h
    simp only [digs, List.mem_append, List.mem_singleton] at h
    rcases h with h | h
    · exact digs_dig n _ d h
    · subst h; omega
theorem Dig.cons {d : Int} {l : List Int} (h : Dig (d :: l)) : (0 ≤ d ∧ d ≤ 9) ∧ Dig l := ⟨h d (by simp), fun e he => h e (by simp [he])⟩
theorem Dig.append {a b : List Int} (h : Dig a) (k : Dig b) : Dig (a ++ b) := fun d hd => by
  rcases List.mem_append.1 hd with g | g
  · exact h d g
  · exact k d g
theorem Dig.left {a b : List Int} (h : Dig (a ++ b)) : Dig a := fun d hd => h d (by simp [hd])
theorem Dig.right {a b : List Int} (h : Dig (a ++ b)) : Dig b := fun d hd => h d (by simp [hd])
theorem Dig.take {a : List Int} (h : Dig a) (n : Nat) : Dig (a.take n) := fun d hd => h d (List.mem_of_mem_take hd)
theorem Dig.drop {a : List Int} (h : Dig a) (n : Nat) : Dig (a.drop n) := fun d hd => h d (List.mem_of_mem_drop hd)
theorem Dig.getD {a : List Int} (h : Dig a) (i : Nat) : 0 ≤ a.getD i 0 ∧ a.getD i 0 ≤ 9 := by
  by_cases hi : i < a.length
  · have : a.getD i 0 = a[i] := by simp [List.getD, hi]
    rw [this]; exact h _ (List.getElem_mem hi)
  · have : a.getD i 0 = 0 := by simp [List.getD, List.getElem?_eq_none (by omega : a.length ≤ i)]
    omega
theorem val_bounds : ∀ (l : List Int), Dig l → 0 ≤ val l ∧ val l < 10 ^ l.length
  | [], _ => by simp [val]
  | d :: l, h => by
    obtain ⟨hd, hl⟩ := h.cons
    obtain ⟨h1, h2⟩ := val_bounds l hl
    rw [val_cons, List.length_cons, Int.pow_succ]
    have := pow_pos' l.length
    have h3 : 0 ≤ d * 10 ^ l.length := Int.mul_nonneg hd.1 (by omega)
    have h4 : d * 10 ^ l.length ≤ 9 * 10 ^ l.length := Int.mul_le_mul_of_nonneg_right hd.2 (by omega)
    omega
theorem digs_val' : ∀ (n : Nat) (l : List Int), Dig l → l.length = n → digs n (val l) = l
  | 0, l, h, hn => by rw [List.length_eq_zero_iff.1 hn]; rfl
  | n + 1, l, h, hn => by
    have hne : l ≠ [] := by intro e; rw [e] at hn; simp at hn
    have e : l = l.dropLast ++ [l.getLast hne] := (List.dropLast_concat_getLast hne).symm
    generalize l.dropLast = a at e
    generalize l.getLast hne = d at e
    subst e
    have hd := h.right d (by simp)
    rw [val_snoc, digs, show (val a * 10 + d) / 10 = val a by omega, show (val a * 10 + d) % 10 = d by omega, digs_val' n a h.left (by simpa using hn)]
theorem digs_val {l : List Int} (h : Dig l) : digs l.length (val l) = l := digs_val' _ l h rfl
/-- Digits that are one number are the same. -/
theorem eq_digs {n : Nat} {l : List Int} {v : Int} (h : Dig l) (hl : l.length = n) (hv : val l = v) : l = digs n v := by
  rw [← hv, ← hl, digs_val h]

theorem digs_add : ∀ (b a : Nat) (v : Int), digs (a + b) v = digs a (v / 10 ^ b) ++ digs b v
  | 0, a, v => by simp [digs]
  | b + 1, a, v => by
    rw [← Nat.add_assoc, digs, digs_add b a (v / 10), digs, Int.pow_succ, ← List.append_assoc]
    rw [Int.mul_comm, Int.ediv_ediv_of_nonneg (by decide : (0 : Int) ≤ 10)]
theorem digs_mod : ∀ (n : Nat) (v : Int), digs n (v % 10 ^ n) = digs n v
  | 0, v => rfl
  | n + 1, v => by
    rw [digs, digs, Int.pow_succ]
    have h1 : v % (10 ^ n * 10) % 10 = v % 10 := Int.emod_emod_of_dvd v (Int.dvd_mul_left _ _)
    have h2 : v % (10 ^ n * 10) / 10 = v / 10 % 10 ^ n := by
      have e : v / (10 ^ n * 10) = v / 10 / 10 ^ n := by rw [Int.ediv_ediv_of_nonneg (by decide : (0 : Int) ≤ 10), Int.mul_comm]
      rw [Int.emod_def, Int.emod_def, e]
      have e2 : (10 ^ n * 10 : Int) * (v / 10 / 10 ^ n) = 10 * (10 ^ n * (v / 10 / 10 ^ n)) := by rw [Int.mul_comm (10 ^ n) 10, Int.mul_assoc]
      rw [e2]
      omega
    rw [h1, h2, digs_mod n]
theorem digs_set {n p : Nat} {v d : Int} (hp : p < n) (h0 : 0 ≤ v) (hv : v < 10 ^ p) (hd : 0 ≤ d ∧ d ≤ 9) : (digs n v).set (n - 1 - p) d = digs n (d * 10 ^ p + v) := by
  have e1 := digs_add p (n - p) v
  have e2 := digs_add p (n - p) (d * 10 ^ p + v)
  rw [show n - p + p = n by omega] at e1 e2
  have hpp := pow_pos' p
  have q1 : v / 10 ^ p = 0 := Int.ediv_eq_zero_of_lt h0 hv
  have q2 : (d * 10 ^ p + v) / 10 ^ p = d := by rw [Int.add_comm, Int.add_mul_ediv_right _ _ (by omega), q1]; omega
  have m2 : digs p (d * 10 ^ p + v) = digs p v := by
    rw [← digs_mod p (d * 10 ^ p + v), ← digs_mod p v]
    congr 1
    rw [Int.add_comm, Int.add_mul_emod_self_right]
  rw [e1, e2, q1, q2, m2]
  obtain ⟨m, hm⟩ : ∃ m, n - p = m + 1 := ⟨n - p - 1, by omega⟩
  rw [hm, List.set_append_left _ _ (by rw [digs_length]; omega)]
  congr 1
  rw [digs, digs, show n - 1 - p = m by omega, List.set_append_right _ _ (by rw [digs_length]; omega), digs_length]
  rw [show (0 : Int) / 10 = 0 by decide, show d / 10 = 0 by omega, show d % 10 = d by omega]
  simp

theorem val_zeros (n : Nat) : val (List.replicate n 0) = 0 := by
  induction n with
  | zero => rfl
  | succ n ih => rw [List.replicate_succ, val_cons, ih]; omega
theorem dig_zeros (n : Nat) : Dig (List.replicate n 0) := fun d h => by have := (List.mem_replicate.1 h).2; omega
theorem zeros_digs (n : Nat) : List.replicate n (0 : Int) = digs n 0 := eq_digs (dig_zeros n) (by simp) (val_zeros n)
theorem val_zero_iff {l : List Int} (h : Dig l) : val l = 0 ↔ ∀ d ∈ l, d = 0 := by
  induction l with
  | nil => simp [val]
  | cons d l ih =>
    obtain ⟨hd, hl⟩ := h.cons
    rw [val_cons]
    have := val_bounds l hl
    have hp := pow_pos' l.length
    constructor
    · intro e
      have hd0 : d = 0 := by
        rcases Int.lt_or_le 0 d with g | g
        · have : 1 * 10 ^ l.length ≤ d * 10 ^ l.length := Int.mul_le_mul_of_nonneg_right g (by omega)
          omega
        · omega
      subst hd0
      intro x hx
      rcases List.mem_cons.1 hx with g | g
      · exact g
      · exact (ih hl).1 (by omega) x g
    · intro e
      have h0 := e d (by simp)
      subst h0
      rw [(ih hl).2 fun x hx => e x (by simp [hx])]; omega

/-! ### sums -/
/-- Digits added (or taken away), from the last one on: the new digits, and what is carried. -/
def addS (s : Int) : List Int → List Int → List Int × Int
  | x :: xs, y :: ys => let r := addS s xs ys; ((10 + x + s * y + r.2) % 10 :: r.1, (10 + x + s * y + r.2) / 10 - 1)
  | _, _ => ([], 0)


/-- The digits of one number, the last of them made those of the sum. -/
def addArr (s : Int) (xs ys : List Int) (k : Nat) : List Int := xs.take k ++ (addS s (xs.drop k) (ys.drop k)).1
def addCarry (s : Int) (xs ys : List Int) (k : Nat) : Int := (addS s (xs.drop k) (ys.drop k)).2



/-! ### products with a number -/
def timesS (m : Int) : List Int → List Int × Int
  | x :: xs => let r := timesS m xs; ((x * m + r.2) % 10 :: r.1, (x * m + r.2) / 10)
  | [] => ([], 0)


def timesArr (m : Int) (xs : List Int) (k : Nat) : List Int := xs.take k ++ (timesS m (xs.drop k)).1
def timesCarry (m : Int) (xs : List Int) (k : Nat) : Int := (timesS m (xs.drop k)).2

attribute [irreducible] digs val addArr timesArr addCarry timesCarry

end Go.Proofs.YtebieapmoaaahaaGreatDoor.Dc

/- Short words. -/
namespace Go.Proofs.YtebieapmoaaahaaGreatDoor
theorem lnO {P : Prop} (h : P := by simp only [List.length_cons, List.length_nil, List.length_append, ints_length, u8s_length, List.length_replicate, List.length_set, List.length_map, digs_length] <;> omega) : P := h
end Go.Proofs.YtebieapmoaaahaaGreatDoor


set_option linter.unusedVariables false
set_option linter.unusedSimpArgs false
set_option maxRecDepth 20000
namespace Go.Proofs.YtebieapmoaaahaaGreatDoor.Dq
open Go Sx Dc

theorem size_meets (n : Int) (h : -9223372036854775808 < n ∧ n < 9223372036854775808) : Meets Tryz.prog 78 [jI n] [] (jI ((n.natAbs : Nat) : Int)) [] := by
  let q1 : List Orc := [rG []]
  by_cases c1 : n < 0
  · exact meets_run (fn := Tryz.f78) 0 (q1 ++ [rG [hhB 1 true], rG [hhI 1 (-n)]]) [{}] Tryz.func78 (by kernel_rfl) Tryz.call78
      (oA (oS (bT c1)) <| oW (0 - n) (-n) (by omega))
      (oS (show jI (-n) = jI ((n.natAbs : Nat) : Int) from intE (by omega))) (by kernel_rfl)
  · exact meets_run (fn := Tryz.f78) 0 (q1 ++ [rG [hhB 1 false], rG []]) [{}] Tryz.func78 (by kernel_rfl) Tryz.call78
      (oS (bF c1))
      (oS (show jI n = jI ((n.natAbs : Nat) : Int) from intE (by omega))) (by kernel_rfl)


def trimD : Nat → Int → Int → Int × Int
  | 0, m, e => (m, e)
  | n + 1, m, e => if m.tmod 10 = 0 then trimD n (m.tdiv 10) (e + 1) else (m, e)
/-- The one form of m times ten to e. -/
def trimmedS (m e : Int) : Int × Int := if m = 0 then (0, 0) else trimD (9 - e).toNat m e

def trimmed_inv (m e : Int) : AState :=
  ⟨([sI m, sI e, none, none, sP 0 0] ++ nn 17), [some (jC [jI 0, jI 0] 40)]⟩

theorem trimmed_round (m e : Int) (h : -9223372036854775808 < m ∧ m < 9223372036854775808) (he : -100 ≤ e ∧ e ≤ 9) (h1 : e < 9) (h2 : m.tmod 10 = 0) : Tri Tryz.prog (loopN (bodyOf Tryz.f77) 0) (trimmed_inv m e) .normal (trimmed_inv (m.tdiv 10) (e + 1)) := by
  exact tri_weak [rG [hhB 1 true, hhB 5 true], rG [hhI 1 (m.tdiv 10)], rG [hhI 1 (e + 1)]]
    (oA (oS (bT h1)) <| oA (oS (show (10 : Int) ≠ 0 from by decide)) <| oA (oS (eqT h2)) <| oA (oS (show (10 : Int) ≠ 0 from by decide)) <| oA (oS (show AV.int .i64 (IntKind.i64.wrap (m.tdiv 10)) = jI (m.tdiv 10) from tdivI (by omega))) <| oWs (e + 1) (by omega))
    (oA (oR [jI (m.tdiv 10), jI (e + 1), jP 0 0]) <| oQ [jC [jI 0, jI 0] 40]) (by kernel_rfl)

theorem trimmed_last (m e : Int) (h : -9223372036854775808 < m ∧ m < 9223372036854775808) (he : -100 ≤ e ∧ e ≤ 9) (h1 : ¬ (e < 9 ∧ m.tmod 10 = 0)) : Tri Tryz.prog (loopN (bodyOf Tryz.f77) 0) (trimmed_inv m e) (.exit 0) (trimmed_inv m e) := by
  by_cases c1 : e < 9
  · have o1 := oA (oS (bT c1)) <| oS (show (10 : Int) ≠ 0 from by decide)
    by_cases c2 : (m.tmod 10) = 0
    · exact absurd ⟨‹_›, ‹_›⟩ h1
    · exact tri_weak [rG [hhB 1 true, hhB 5 false]]
        (oA o1 <| oS (eqF c2))
        (oA (oR [jI m, jI e, jP 0 0]) <| oQ [jC [jI 0, jI 0] 40]) (by kernel_rfl)
  · exact tri_weak [rG [hhB 1 false]]
      (oS (bF c1))
      (oA (oR [jI m, jI e, jP 0 0]) <| oQ [jC [jI 0, jI 0] 40]) (by kernel_rfl)

theorem trimmed_loop : ∀ (n : Nat) (m e : Int), n = (9 - e).toNat → (-9223372036854775808 < m ∧ m < 9223372036854775808) → (-100 ≤ e ∧ e ≤ 9) →
    Tri Tryz.prog (.loop (loopN (bodyOf Tryz.f77) 0)) (trimmed_inv m e) (.exit 0) (trimmed_inv (trimD n m e).1 (trimD n m e).2) := by
  intro n m e hn hm he
  refine tri_loop (ι := {p : Int × Int // (-9223372036854775808 < p.1 ∧ p.1 < 9223372036854775808) ∧ (-100 ≤ p.2 ∧ p.2 ≤ 9) ∧ trimD (9 - p.2).toNat p.1 p.2 = trimD n m e}) (fun i => trimmed_inv i.1.1 i.1.2) (fun i => (9 - i.1.2).toNat) (ne_normal_exit 0) ?_ ⟨(m, e), hm, he, by rw [hn]⟩
  rintro ⟨⟨m', e'⟩, h1, h2, h3⟩
  simp only at h1 h2 h3
  by_cases hc : e' < 9 ∧ m'.tmod 10 = 0
  · have e1 : (9 - e').toNat = (9 - (e' + 1)).toNat + 1 := by omega
    rw [e1, trimD, if_pos hc.2] at h3
    have hb := tdiv_range (y := 10) h1
    exact .inl ⟨⟨(m'.tdiv 10, e' + 1), hb, by simp only; omega, h3⟩, by simp only; omega, trimmed_round m' e' h1 h2 hc.1 hc.2⟩
  · have e1 : trimD (9 - e').toNat m' e' = (m', e') := by
      by_cases h9 : e' = 9
      · rw [h9]; rfl
      · have : (9 - e').toNat = (9 - (e' + 1)).toNat + 1 := by omega
        rw [this, trimD, if_neg (by omega)]
    rw [e1] at h3
    have hx : trimmed_inv m' e' = trimmed_inv (trimD n m e).1 (trimD n m e).2 := by rw [← h3]
    exact .inr (Eq.subst (motive := fun s => Tri _ _ (trimmed_inv m' e') (.exit 0) s) hx (trimmed_last m' e' h1 h2 hc))

theorem trimmed_meets (m e : Int) (h : -9223372036854775808 < m ∧ m < 9223372036854775808) (he : -100 ≤ e ∧ e ≤ 9) : Meets Tryz.prog 77 [jI m, jI e] [] (jA [jI ((trimmedS m e).1), jI ((trimmedS m e).2)]) [] := by
  let q1 : List Orc := [rG [hhN 0 0]]
  by_cases c1 : m = 0
  · exact meets_run (fn := Tryz.f77) 1 (q1 ++ [rG [hhB 1 true], rG [(1, {obj := some [jC [jI 0, jI 0] 40]})]]) [{val := some (jA [jI 0, jI 0])}] Tryz.func77 (by kernel_rfl) Tryz.call77
      (oA (oS (eqT c1)) <| oSw ([jI 0, jI 0]) ([jI 0, jI 0]) 40 (rfl) (rfl))
      (oA (oLw ([jI 0, jI 0]) (rfl)) <| oA (oS (show jA [jI 0, jI 0] = jA [jI ((trimmedS m e).1), jI ((trimmedS m e).2)] from by simp [trimmedS, *])) <| oV (D := (fun n => decide (0 ≤ n))) (jA [jI ((trimmedS m e).1), jI ((trimmedS m e).2)]) rfl) (by kernel_rfl)
  · exact meets_run (fn := Tryz.f77) 1 (q1 ++ [rG [hhB 1 false], .loop (⟨([sI m, sI e, none, none, sP 0 0] ++ nn 17), [some (jC [jI 0, jI 0] 40)]⟩) (.exit 0) (⟨([sI ((trimD (9 - e).toNat m e).1), sI ((trimD (9 - e).toNat m e).2), none, none, sP 0 0] ++ nn 17), [some (jC [jI 0, jI 0] 40)]⟩), rG [hhV 2 (jA [jI ((trimD (9 - e).toNat m e).1), jI ((trimD (9 - e).toNat m e).2)]), (3, {obj := some [jC [jI ((trimD (9 - e).toNat m e).1), jI ((trimD (9 - e).toNat m e).2)] 40]})]]) [{val := some (jA [jI ((trimD (9 - e).toNat m e).1), jI ((trimD (9 - e).toNat m e).2)])}] Tryz.func77 (by kernel_rfl) Tryz.call77
      (oA (oS (eqF c1)) <| oA (oR [jI m, jI e, jP 0 0]) <| oA (oQ [jC [jI 0, jI 0] 40]) <| oA (oS (show Tri Tryz.prog (.loop (loopN (bodyOf Tryz.f77) 0)) (⟨([sI m, sI e, none, none, sP 0 0] ++ nn 17), [some (jC [jI 0, jI 0] 40)]⟩) (.exit 0) (⟨([sI ((trimD (9 - e).toNat m e).1), sI ((trimD (9 - e).toNat m e).2), none, none, sP 0 0] ++ nn 17), [some (jC [jI 0, jI 0] 40)]⟩) from trimmed_loop _ m e rfl h he)) <| oA (oS (show ([jI ((trimD (9 - e).toNat m e).1)] : List AV).length = 1 from rfl)) <| oA (oS (show 0 + 1 ≤ ([jI 0, jI 0] : List AV).length from Nat.le_of_ble_eq_true (by kernel_rfl))) <| oA (oS (show ([jI ((trimD (9 - e).toNat m e).2)] : List AV).length = 1 from rfl)) <| oA (oS (show 1 + 1 ≤ (List.take 0 [jI 0, jI 0] ++ [jI ((trimD (9 - e).toNat m e).1)] ++ List.drop 1 [jI 0, jI 0] : List AV).length from Nat.le_of_ble_eq_true (by kernel_rfl))) <| oA (oS (show AV.agg (List.take 1 (List.take 0 [jI 0, jI 0] ++ [jI ((trimD (9 - e).toNat m e).1)] ++ List.drop 1 [jI 0, jI 0]) ++ [jI ((trimD (9 - e).toNat m e).2)] ++ List.drop 2 (List.take 0 [jI 0, jI 0] ++ [jI ((trimD (9 - e).toNat m e).1)] ++ List.drop 1 [jI 0, jI 0])) = jA [jI ((trimD (9 - e).toNat m e).1), jI ((trimD (9 - e).toNat m e).2)] from by kernel_rfl)) <| oSw ([jI ((trimD (9 - e).toNat m e).1), jI ((trimD (9 - e).toNat m e).2)]) ([jI 0, jI 0]) 40 (rfl) (rfl))
      (oA (oLw ([jI ((trimD (9 - e).toNat m e).1), jI ((trimD (9 - e).toNat m e).2)]) (rfl)) <| oA (oS (show jA [jI ((trimD (9 - e).toNat m e).1), jI ((trimD (9 - e).toNat m e).2)] = jA [jI ((trimmedS m e).1), jI ((trimmedS m e).2)] from by simp [trimmedS, *])) <| oV (D := (fun n => decide (0 ≤ n))) (jA [jI ((trimmedS m e).1), jI ((trimmedS m e).2)]) rfl) (by kernel_rfl)

end Go.Proofs.YtebieapmoaaahaaGreatDoor.Dq
