/- The tables that the program reads, out of what the row lists; utf8.ValidString by the library's own contract, laid over this program in plain words. -/
import Derived.Test.YtmblfgigchdnbaaDoorRbA
import Derived.Test.YtmblfgigchdnbaaDoorRows
import Derived.Shelf.Lays
import Derived.Shelf.Unicode.ValidAny
import Derived.Lib.LaidU8T
import Derived.MakeChecks
set_option linter.unusedVariables false
set_option linter.unusedSimpArgs false
namespace Go.Proofs.YtmblfgigchdnbaaDoor
open Go Sx Go.Shelf

def layRen : Ren := ⟨fun | 196 => 66 | 259 => 81 | n => n, fun | 9 => 9 | 4 => 4 | 3 => 3 | 5 => 5 | 12 => 12 | 119 => 110 | 0 => 0 | 46 => 114 | 139 => 113 | 138 => 112 | 53 => 98 | n => n, fun | 3 => 0 | 4 => 1 | n => n⟩
theorem layValid : Lays.n196 Tryd.prog layRen := {
  mixed := by kernel_rfl,
  f196 := Tryd.func66.trans (congrArg some (by kernel_rfl)),
  f259 := Tryd.func81.trans (congrArg some (by kernel_rfl)),
  t0 := Tryd.underlying0,
  a0 := Tryd.isAgg0,
  z0 := Tryd.sizeOf0,
  v0 := Tryd.zeroValue0,
  t3 := Tryd.underlying3,
  a3 := Tryd.isAgg3,
  z3 := Tryd.sizeOf3,
  v3 := Tryd.zeroValue3,
  t4 := Tryd.underlying4,
  a4 := Tryd.isAgg4,
  z4 := Tryd.sizeOf4,
  v4 := Tryd.zeroValue4,
  t5 := Tryd.underlying5,
  a5 := Tryd.isAgg5,
  z5 := Tryd.sizeOf5,
  v5 := Tryd.zeroValue5,
  t9 := Tryd.underlying9,
  a9 := Tryd.isAgg9,
  z9 := Tryd.sizeOf9,
  v9 := Tryd.zeroValue9,
  t12 := Tryd.underlying12,
  a12 := Tryd.isAgg12,
  z12 := Tryd.sizeOf12,
  v12 := Tryd.zeroValue12,
  t46 := Tryd.underlying114,
  a46 := Tryd.isAgg114,
  z46 := Tryd.sizeOf114,
  v46 := Tryd.zeroValue114,
  t53 := Tryd.underlying98,
  a53 := Tryd.isAgg98,
  z53 := Tryd.sizeOf98,
  v53 := Tryd.zeroValue98,
  t119 := Tryd.underlying110,
  a119 := Tryd.isAgg110,
  z119 := Tryd.sizeOf110,
  t138 := Tryd.underlying112,
  a138 := Tryd.isAgg112,
  z138 := Tryd.sizeOf112,
  v138 := Tryd.zeroValue112,
  t139 := Tryd.underlying113,
  a139 := Tryd.isAgg113,
  z139 := Tryd.sizeOf113,
  v139 := Tryd.zeroValue113,
  g3 := by kernel_rfl,
  g4 := by kernel_rfl }
theorem layExtra : U8Extra Tryd.prog layRen := { n3 := by kernel_rfl, n4 := by kernel_rfl, y3 := by kernel_rfl, y4 := by kernel_rfl, c5 := by kernel_rfl, c119 := by kernel_rfl, c138 := by kernel_rfl }

theorem tabs_of_glob {w : World} {M : Nat → Prop} (h : GlobOK w M) : Lib.Utf8Tabs 0 1 w := by
  obtain ⟨_, _, h0⟩ := h 0 _ rfl
  obtain ⟨_, _, h1⟩ := h 1 _ rfl
  refine ⟨fun c hc => h0 c _ (by simp [gvals, List.getElem?_range hc]), fun i hi => ⟨h1 (2 * i) _ ?_, h1 (2 * i + 1) _ ?_⟩⟩
  · simp only [gvals, List.getElem?_map, List.getElem?_range (show 2 * i < 32 by omega), Option.map_some]
    simp
  · simp only [gvals, List.getElem?_map, List.getElem?_range (show 2 * i + 1 < 32 by omega), Option.map_some]
    rw [if_neg (by omega), show (2 * i + 1) / 2 = i by omega]
theorem glob_of_tabs {w : World} (h : Lib.Utf8Tabs 0 1 w) : GlobOK w fun _ => False := by
  intro g l hg
  have big : ∀ {b i : Nat} {x : Value}, w.cell? ⟨b, i, none⟩ = some x → b < w.heap.size := fun {b i x} e => by
    rcases Nat.lt_or_ge b w.heap.size with h' | h'
    · exact h'
    · simp [World.cell?, Array.getElem?_eq_none h'] at e
  match g, hg with
  | 0, hg =>
    cases hg
    refine ⟨big (h.1 0 (by omega)), fun e => e, fun i x hx => ?_⟩
    have hi : i < 256 := by have := (List.getElem?_eq_some_iff.1 hx).1; simpa [gvals] using this
    simp only [gvals, List.getElem?_map, List.getElem?_range hi, Option.map_some, Option.some.injEq] at hx
    rw [← hx]; exact h.1 i hi
  | 1, hg =>
    cases hg
    refine ⟨big (h.2 0 (by omega)).1, fun e => e, fun i x hx => ?_⟩
    have hi : i < 32 := by have := (List.getElem?_eq_some_iff.1 hx).1; simpa [gvals] using this
    simp only [gvals, List.getElem?_map, List.getElem?_range hi, Option.map_some, Option.some.injEq] at hx
    rw [← hx]
    by_cases c : i % 2 = 0
    · rw [if_pos c]
      have := (h.2 (i / 2) (by omega)).1
      rwa [show 2 * (i / 2) = i by omega] at this
    · rw [if_neg c]
      have := (h.2 (i / 2) (by omega)).2
      rwa [show 2 * (i / 2) + 1 = i by omega] at this
  | n + 2, hg => cases hg
theorem glob_of_laid {W : World} (h : laidMetH Tryd.prog Rows.refMeetRow.laid W) : GlobOK W fun _ => False := by
  rw [MakeChecks.laidMetH_plain _ _ _ (by kernel_rfl)] at h
  obtain ⟨ps, hv, _⟩ := h
  have h3 := Lib.LaidVars_reads hv "unicode/utf8.first" Pinned.utf8First (by simp [Rows.refMeetRow, Rows.laid_unicode_utf8_first])
  have h4 := Lib.LaidVars_reads hv "unicode/utf8.acceptRanges" Rows.laid_unicode_utf8_acceptRanges (by simp [Rows.refMeetRow])
  have e3 : (Pinned.utf8First : DataW Unit) = Lib.firstData := by kernel_rfl
  rw [e3] at h3
  have e4 : (Rows.laid_unicode_utf8_acceptRanges : DataW Unit) = Lib.acceptData := by kernel_rfl
  rw [e4] at h4
  exact glob_of_tabs (utf8Tabs_of_readsT (U8Types.of196 layValid) layExtra h3 h4)

/-- utf8.ValidString. -/
def eValid : Ent := fun args pre => match args, pre with
  | [.str l], [] => .chk (decide (l.length ≤ 9223372036854775807)) (.ret (.bool (Lib.validD l)) [])
  | _, _ => .fail
theorem valid_ok : EntOK Tryd.prog 66 eValid := fun args pre => by
  unfold eValid
  split
  · rename_i l
    refine ⟨fun hb => ?_, fun _ => trivial⟩
    have hl : l.length ≤ 9223372036854775807 := by simpa using hb
    intro w E vs hvs hp
    obtain ⟨x, zs, hx, hz, rfl⟩ := denL_cons.1 hvs
    simp only [denL, Option.some.injEq] at hz
    subst hz
    have hx : x = .string ⟨l.toArray⟩ := by simpa [den] using hx.symm
    subst hx
    have hc := Any.utf8_ValidString layValid ⟨l.toArray⟩ w (by simpa [ByteArray.size] using hl) (tabs_of_glob hp.glob)
    refine .inl ⟨66, _, Tryd.call66 _ _, hc.mono ?_⟩
    rintro e w' ⟨rfl, hb'⟩
    refine ⟨E, _, rfl, rfl, ⟨.refl _, hp.fresh, fun n o h => by simp at h, fun n b c o _ h => by simp at h, fun k hk _ => hb'.block k hk, fun n m o o' b c b' c' _ _ h => by simp at h, hb'.size, hb'.os, hb'.tape, hb'.output⟩⟩
  · trivial

end Go.Proofs.YtmblfgigchdnbaaDoor
