/- The evaluator, part H: loops of any number of rounds. -/
import Derived.Test.YtanhlbdcjonaoaaGreatDoorGr05
import Derived.Test.YtanhlbdcjonaoaaGreatDoorRbA
import Derived.Test.YtanhlbdcjonaoaaGreatDoorRows
import Derived.Shelf.Lays
import Derived.Shelf.Unicode.ValidAny
import Derived.Lib.LaidU8T
import Derived.MakeChecks
import Derived.Lib.LaidTab
import Derived.Stop.LaidErr
import Derived.Lib.TrimU
set_option linter.unusedVariables false
set_option linter.unusedSimpArgs false
namespace Go.Proofs.YtanhlbdcjonaoaaGreatDoor.Sx
open Go
variable {P : Program}

/-- The end of a round: what is kept of it. -/
def endK (K NF : Nat) (kn kx : Nat → Bool) (ex : Ex) (s : PState) : Option (Ex × PState) :=
  match ex with
  | .normal => (gcL K NF kn s).map fun t => (.normal, t)
  | e => (gcL K NF kx s).map fun t => (e, t)
def noH {R : Type} : Hd R := fun _ _ _ _ => none
theorem noH_ok {R : Type} : HOK P (noH (R := R)) := fun f args pre k r h => by cases h

theorem round_sound {H : Hd (Ex × PState)} (hH : HOK P H) {lv : Lv} {K NF m : Nat} {x : Code} (hl : LoopsOK P lv K x) {kn kx : Nat → Bool} {s : PState} {r : Ex × PState} (h : code H P lv K NF m x s (endK K NF kn kx) = some r) : Tri P x s.toA r.1 r.2.toA K := by
  obtain ⟨ex, s', ht, hk⟩ := code_sound hH x hl s _ r h
  have key : ∀ {kp : Nat → Bool} {e : Ex}, ex = e → (gcL K NF kp s').map (fun t => (e, t)) = some r → Tri P x s.toA r.1 r.2.toA K := by
    intro kp e he hg
    subst he
    simp only [Option.map_eq_some_iff] at hg
    obtain ⟨t, hc, rfl⟩ := hg
    obtain ⟨ob, hren, hob⟩ := compact_ren hc
    exact Tri.ren _ ht hren hob
  cases ex with
  | normal => exact key rfl hk
  | exit id => exact key rfl hk
  | ret => exact key rfl hk

/-- A LOOP, by what a round comes to. -/
theorem loop_rounds {H : Hd (Ex × PState)} (hH : HOK P H) {lv : Lv} {K NF m : Nat} {x : Code} (hl : LoopsOK P lv K x) (kn kx : Nat → Bool) {ι : Type} (inv : ι → PState) (μ : ι → Nat) (res : ι → Ex × PState)
    (step : ∀ i, (∃ j, μ j < μ i ∧ res j = res i ∧ code H P lv K NF m x (inv i) (endK K NF kn kx) = some (.normal, inv j)) ∨ code H P lv K NF m x (inv i) (endK K NF kn kx) = some (res i)) (hne : ∀ i, (res i).1 ≠ .normal) (i : ι) :
    Tri P (.loop x) (inv i).toA (res i).1 (res i).2.toA K := by
  refine tri_loop (ι := { j : ι // res j = res i }) (fun j => (inv j.1).toA) (fun j => μ j.1) (hne i) ?_ ⟨i, rfl⟩
  rintro ⟨j, hj⟩
  rcases step j with ⟨j', h1, h2, h3⟩ | h3
  · exact .inl ⟨⟨j', h2.trans hj⟩, h1, round_sound hH hl h3⟩
  · right
    have := round_sound hH hl h3
    rwa [hj] at this

/-- So many empty places, and no more. -/
def nonesB : Nat → List (Option PObj) → Bool
  | 0, [] => true
  | n + 1, none :: r => nonesB n r
  | _, _ => false
theorem nonesB_eq : ∀ (n : Nat) (l : List (Option PObj)), nonesB n l = true → l = List.replicate n none
  | 0, [], _ => rfl
  | 0, _ :: _, h => by cases h
  | n + 1, [], h => by cases h
  | n + 1, none :: r, h => by rw [List.replicate_succ, ← nonesB_eq n r h]
  | n + 1, some _ :: r, h => by cases h

end Go.Proofs.YtanhlbdcjonaoaaGreatDoor.Sx

/- The evaluator, part I: a function in two halves. -/
set_option linter.unusedVariables false
set_option linter.unusedSimpArgs false
namespace Go.Proofs.YtanhlbdcjonaoaaGreatDoor.Sx
open Go
variable {P : Program} {R : Type}

/-- What stands behind so many statements. -/
def restC : Nat → Code → Code
  | n + 1, .seq _ b => restC n b
  | _, c => c
/-- So many statements, one behind the other. -/
def runsC (H : Hd R) (P : Program) (lv : Lv) (K NF m : Nat) (k : Ex → PState → Option R) : Nat → Code → PState → Option R
  | n + 1, .seq a b, s => code H P lv K NF m a s fun ex s' => match ex with
    | .normal => runsC H P lv K NF m k n b s'
    | e => k e s'
  | _, _, s => k .normal s

theorem loops_rest {lv : Lv} {K : Nat} : ∀ (n : Nat) (c : Code), LoopsOK P lv K c → LoopsOK P lv K (restC n c)
  | 0, c, h => by cases c <;> exact h
  | n + 1, c, h => by
    cases c with
    | seq a b => exact loops_rest n b fun z hz => h z (List.mem_append_right _ hz)
    | _ => exact h

theorem runsC_sound {H : Hd R} (hH : HOK P H) {lv : Lv} {K NF m : Nat} {k : Ex → PState → Option R} {r : R} : ∀ (n : Nat) (c : Code) (hl : LoopsOK P lv K c) (s : PState), runsC H P lv K NF m k n c s = some r →
    (∃ ex s', ex ≠ .normal ∧ Tri P c s.toA ex s'.toA K ∧ k ex s' = some r) ∨ ∃ s1, (∀ ex s2, Tri P (restC n c) s1.toA ex s2 K → Tri P c s.toA ex s2 K) ∧ k .normal s1 = some r
  | 0, c, hl, s, h => .inr ⟨s, fun ex s2 ht => by cases c <;> exact ht, by cases c <;> exact h⟩
  | n + 1, c, hl, s, h => by
    cases c with
    | seq x y =>
      have hlx : LoopsOK P lv K x := fun z hz => hl z (List.mem_append_left _ hz)
      have hly : LoopsOK P lv K y := fun z hz => hl z (List.mem_append_right _ hz)
      simp only [runsC] at h
      obtain ⟨ex, s1, t1, h⟩ := code_sound hH x hlx s _ r h
      have comp : ∀ ex2 s2, ex = .normal → Tri P y s1.toA ex2 s2 K → Tri P (.seq x y) s.toA ex2 s2 K := fun ex2 s2 he t2 w0 M E a w hR => by
        subst he
        refine wp_seq (wp_mono (t1 w0 M E a w hR) ?_)
        rintro e a' w' ⟨rfl, E', hle, h'⟩
        refine wp_mono (t2 w0 M E' a' w' h') ?_
        rintro e2 a2 w2 ⟨rfl, E2, hle2, h2⟩
        exact ⟨rfl, E2, hle.trans hle2, h2⟩
      split at h
      · rcases runsC_sound hH n y hly s1 h with ⟨ex2, s2, hne, t2, hk⟩ | ⟨s2, t2, hk⟩
        · exact .inl ⟨ex2, s2, hne, comp _ _ rfl t2, hk⟩
        · exact .inr ⟨s2, fun ex3 s3 t3 => comp _ _ rfl (t2 ex3 s3 t3), hk⟩
      · rename_i hne
        refine .inl ⟨ex, s1, fun e => hne e, fun w0 M E a w hR => wp_seq (wp_mono (t1 w0 M E a w hR) ?_), h⟩
        rintro e a' w' ⟨rfl, E', hle, h'⟩
        cases ex with
        | normal => exact absurd rfl hne
        | exit id => exact ⟨rfl, E', hle, h'⟩
        | ret => exact ⟨rfl, E', hle, h'⟩
    | _ => exact .inr ⟨s, fun ex s2 ht => ht, h⟩

theorem Tri.preRen {x : Code} {s t : PState} {ex : Ex} {s' : AState} {K NF : Nat} {keep : Nat → Bool} (hgc : gcL K NF keep s = some t) (ht : Tri P x t.toA ex s' K) : Tri P x s.toA ex s' K := fun w0 M E a w hR => by
  obtain ⟨ob, hren, hob⟩ := compact_ren hgc
  obtain ⟨g1, g2⟩ := hR.ren hren hob
  refine wp_mono (ht w0 M _ a w g1) ?_
  rintro e' a' w' ⟨rfl, E', hle, h'⟩
  exact ⟨rfl, E', fun n p hn hE => hle n p hn (by simp [g2 n hn, hE]), h'⟩

def goOn (H : Hd R) (P : Program) (lv : Lv) (fn : Func) (pre : List PObj) (NF m n : Nat) (body : Code) (k : AV → List PObj → Option R) (ex : Ex) (st : PState) : Option R :=
  match ex with
  | .normal => code H P lv pre.length NF m (restC n body) st (finP P fn pre.length pre k)
  | e => finP P fn pre.length pre k e st

/-- A FUNCTION IN TWO HALVES: the first one comes to a state, the second one goes on from it. -/
theorem meets_cut {T : Tab} (hT : TabOK P T) (hn : ∀ (f : Nat) (fn : Func), P.funcs[f]? = some fn → (fn.name == "runtime.NumGoroutine") = false) {lv : FuncId → Lv} {NF m d : Nat} {f : FuncId} {fn : Func} {body : Code} {args : List AV} {pre : List PObj} {n : Nat} {kn kx : Nat → Bool} {st : PState} {ex : Ex} {k : AV → List PObj → Option R} {r : R}
    (hf : P.funcs[f]? = some fn) (hb : fn.body = some body)
    (h1 : runsC (ent (R := Ex × PState) P T lv NF m d) P (lv f) pre.length NF m (endK pre.length NF kn kx) n body (startP fn.ntmps args pre NF) = some (ex, st))
    (h2 : goOn (ent P T lv NF m d) P (lv f) fn pre NF m n body k ex st = some r)
    (hL : LvOK P lv := by exact nolv_ok) : ∃ res post, Meets P f args (pre.map PObj.toA) res (post.map PObj.toA) ∧ k res post = some r := by
  have hl := hL f fn body hf hb pre.length
  rcases runsC_sound (ent_sound hT hn hL d) n body hl _ h1 with ⟨ex1, s1, hne, t1, hk⟩ | ⟨s1, t1, hk⟩
  · have key : ∀ e, ex1 = e → (gcL pre.length NF kx s1).map (fun t => (e, t)) = some (ex, st) → e ≠ .normal → ∃ res post, Meets P f args (pre.map PObj.toA) res (post.map PObj.toA) ∧ k res post = some r := by
      intro e he hg hne
      subst he
      simp only [Option.map_eq_some_iff, Prod.mk.injEq] at hg
      obtain ⟨t, hc, rfl, rfl⟩ := hg
      obtain ⟨ob, hren, hob⟩ := compact_ren hc
      have ht := Tri.ren _ t1 hren hob
      refine fin_sound hf hb (hn f fn hf) ht ?_
      cases ex1 with
      | normal => exact absurd rfl hne
      | exit id => exact h2
      | ret => exact h2
    cases ex1 with
    | normal => exact absurd rfl hne
    | exit id => exact key _ rfl hk (by intro e; cases e)
    | ret => exact key _ rfl hk (by intro e; cases e)
  · simp only [endK, Option.map_eq_some_iff, Prod.mk.injEq] at hk
    obtain ⟨t, hc, rfl, rfl⟩ := hk
    obtain ⟨ex2, s2, t2, hk2⟩ := code_sound (ent_sound hT hn hL d) (restC n body) (loops_rest n body hl) _ _ r h2
    exact fin_sound hf hb (hn f fn hf) (t1 _ _ (Tri.preRen hc t2)) hk2

end Go.Proofs.YtanhlbdcjonaoaaGreatDoor.Sx

/- Layer 2, the document's own answers: the states of their loops. -/
set_option linter.unusedVariables false
set_option linter.unusedSimpArgs false
namespace Go.Proofs.YtanhlbdcjonaoaaGreatDoor
open Go Sx

def stUp (l : List UInt8) (n : Nat) (i : Int) : PState := ⟨none :: none :: none :: some (.vec 0 n) :: some (.int .i64 i) :: List.replicate 30 none, some (.vecB l 5) :: List.replicate 64 none⟩
def finUp (l : List UInt8) (n : Nat) : PState := ⟨none :: none :: none :: some (.vec 0 n) :: List.replicate 31 none, some (.vecB l 5) :: List.replicate 64 none⟩
def stPl (l : List UInt8) (i : Int) : PState := ⟨some (.str l) :: none :: none :: some (.int .i64 i) :: List.replicate 35 none, List.replicate 64 none⟩
def stUq (l o : List UInt8) (i : Int) : PState := ⟨some (.str l) :: none :: none :: none :: some (.str o) :: some (.int .i64 i) :: List.replicate 44 none, List.replicate 64 none⟩
def stSh (l : List UInt8) (i : Int) : PState := ⟨some (.str l) :: none :: none :: none :: none :: some (.int .i64 i) :: List.replicate 51 none, List.replicate 64 none⟩
end Go.Proofs.YtanhlbdcjonaoaaGreatDoor

/- Layer 2: great letters, columns' letters: the states of their loops. -/
set_option linter.unusedVariables false
set_option linter.unusedSimpArgs false
namespace Go.Proofs.YtanhlbdcjonaoaaGreatDoor
open Go Sx

def st41 (b : List UInt8) (n : Nat) (i : Int) : PState :=
  ⟨none :: none :: none :: some (.vec 0 n) :: none :: none :: none :: none :: some (.vec 0 n) :: some (.int .i64 (n : Int)) :: some (.int .i64 i) :: List.replicate 19 none, some (.vecB b 5) :: List.replicate 64 none⟩
def fin41 (b : List UInt8) (n : Nat) : PState := ⟨none :: none :: none :: some (.vec 0 n) :: List.replicate 26 none, some (.vecB b 5) :: List.replicate 64 none⟩
def st18 (u : List UInt8) (n : Int) (p : Nat) : PState :=
  ⟨none :: none :: none :: none :: some (.int .i64 n) :: none :: none :: none :: none :: some (.ptr 0 0) :: List.replicate 19 none, some (.raw (.iter u p)) :: List.replicate 64 none⟩
end Go.Proofs.YtanhlbdcjonaoaaGreatDoor

/- The tables that the program reads, out of what the row lists; utf8.ValidString by the library's own contract, laid over this program in plain words. -/
set_option linter.unusedVariables false
set_option linter.unusedSimpArgs false
namespace Go.Proofs.YtanhlbdcjonaoaaGreatDoor
open Go Sx Go.Shelf

def layRen : Ren := ⟨fun | 196 => 78 | 259 => 93 | n => n, fun | 9 => 9 | 4 => 4 | 3 => 3 | 5 => 5 | 12 => 12 | 119 => 112 | 0 => 0 | 46 => 116 | 139 => 115 | 138 => 114 | 53 => 106 | n => n, fun | 3 => 0 | 4 => 1 | n => n⟩
theorem layValid : Lays.n196 Tryz.prog layRen := {
  mixed := by kernel_rfl,
  f196 := Tryz.func78.trans (congrArg some (by kernel_rfl)),
  f259 := Tryz.func93.trans (congrArg some (by kernel_rfl)),
  t0 := Tryz.underlying0,
  a0 := Tryz.isAgg0,
  z0 := Tryz.sizeOf0,
  v0 := Tryz.zeroValue0,
  t3 := Tryz.underlying3,
  a3 := Tryz.isAgg3,
  z3 := Tryz.sizeOf3,
  v3 := Tryz.zeroValue3,
  t4 := Tryz.underlying4,
  a4 := Tryz.isAgg4,
  z4 := Tryz.sizeOf4,
  v4 := Tryz.zeroValue4,
  t5 := Tryz.underlying5,
  a5 := Tryz.isAgg5,
  z5 := Tryz.sizeOf5,
  v5 := Tryz.zeroValue5,
  t9 := Tryz.underlying9,
  a9 := Tryz.isAgg9,
  z9 := Tryz.sizeOf9,
  v9 := Tryz.zeroValue9,
  t12 := Tryz.underlying12,
  a12 := Tryz.isAgg12,
  z12 := Tryz.sizeOf12,
  v12 := Tryz.zeroValue12,
  t46 := Tryz.underlying116,
  a46 := Tryz.isAgg116,
  z46 := Tryz.sizeOf116,
  v46 := Tryz.zeroValue116,
  t53 := Tryz.underlying106,
  a53 := Tryz.isAgg106,
  z53 := Tryz.sizeOf106,
  v53 := Tryz.zeroValue106,
  t119 := Tryz.underlying112,
  a119 := Tryz.isAgg112,
  z119 := Tryz.sizeOf112,
  t138 := Tryz.underlying114,
  a138 := Tryz.isAgg114,
  z138 := Tryz.sizeOf114,
  v138 := Tryz.zeroValue114,
  t139 := Tryz.underlying115,
  a139 := Tryz.isAgg115,
  z139 := Tryz.sizeOf115,
  v139 := Tryz.zeroValue115,
  g3 := by kernel_rfl,
  g4 := by kernel_rfl }
theorem layExtra : U8Extra Tryz.prog layRen := { n3 := by kernel_rfl, n4 := by kernel_rfl, y3 := by kernel_rfl, y4 := by kernel_rfl, c5 := by kernel_rfl, c119 := by kernel_rfl, c138 := by kernel_rfl }

theorem tabs_of_glob {w : World} {M : Nat → Prop} (h : GlobOK w M) : Lib.Utf8Tabs 0 1 w := by
  obtain ⟨_, _, h0⟩ := h.tab (g := 0) rfl
  obtain ⟨_, _, h1⟩ := h.tab (g := 1) rfl
  refine ⟨fun c hc => h0 c _ (by simp [gvals, List.getElem?_range hc]), fun i hi => ⟨h1 (2 * i) _ ?_, h1 (2 * i + 1) _ ?_⟩⟩
  · simp only [gvals, List.getElem?_map, List.getElem?_range (show 2 * i < 32 by omega), Option.map_some]
    simp
  · simp only [gvals, List.getElem?_map, List.getElem?_range (show 2 * i + 1 < 32 by omega), Option.map_some]
    rw [if_neg (by omega), show (2 * i + 1) / 2 = i by omega]
theorem tabs_part {w : World} (h : Lib.Utf8Tabs 0 1 w) (ht : Lib.TabIs Tryz.prog w "internal/strconv.uint64pow10" .u64 Lib.pow10Tab) : ∀ g l, gtab g = some l → g < w.heap.size ∧ ¬ (fun _ : Nat => False) g ∧ ∀ (i : Nat) x, (gvals l)[i]? = some x → w.cell? ⟨g, i, none⟩ = some x := by
  intro g l hg
  have big : ∀ {b i : Nat} {x : Value}, w.cell? ⟨b, i, none⟩ = some x → b < w.heap.size := fun {b i x} e => by
    rcases Nat.lt_or_ge b w.heap.size with h' | h'
    · exact h'
    · simp [World.cell?, Array.getElem?_eq_none h'] at e
  unfold gtab at hg
  split at hg
  · cases hg
    refine ⟨big (h.1 0 (by omega)), fun e => e, fun i x hx => ?_⟩
    have hi : i < 256 := by have := (List.getElem?_eq_some_iff.1 hx).1; simpa [gvals] using this
    simp only [gvals, List.getElem?_map, List.getElem?_range hi, Option.map_some, Option.some.injEq] at hx
    rw [← hx]; exact h.1 i hi
  · cases hg
    refine ⟨big (h.2 0 (by omega)).1, fun e => e, fun i x hx => ?_⟩
    have hi : i < 32 := by have := (List.getElem?_eq_some_iff.1 hx).1; simpa [gvals] using this
    simp only [gvals, List.getElem?_map, List.getElem?_range hi, Option.map_some, Option.some.injEq] at hx
    rw [← hx]
    by_cases c : i % 2 = 0
    · rw [if_pos c]
      have := (h.2 (i / 2) (by omega)).1
      rwa [show 2 * (i / 2) = i by omega] at this
    · rw [if_neg c]
      have := (h.2 (i / 2) (by omega)).2
      rwa [show 2 * (i / 2) + 1 = i by omega] at this
  · cases hg
    refine ⟨big (ht.cell (g := 5) (by kernel_rfl) 0 (by decide)), fun e => e, fun i x hx => ?_⟩
    have hi : i < 20 := by have := (List.getElem?_eq_some_iff.1 hx).1; simpa [gvals, Lib.pow10Tab] using this
    rw [ht.cell (g := 5) (by kernel_rfl) i (by simpa [Lib.pow10Tab] using hi)]
    simp only [gvals, List.map_map, List.getElem?_map, Option.map_eq_some_iff, Function.comp] at hx
    obtain ⟨z, hz, rfl⟩ := hx
    simp [List.getD, hz]
  · cases hg
theorem glob_of_tabs {w : World} (h : Lib.Utf8Tabs 0 1 w) (ht : Lib.TabIs Tryz.prog w "internal/strconv.uint64pow10" .u64 Lib.pow10Tab) (h4 : ∃ t v, w.cell? ⟨3, 0, none⟩ = some (.iface t v)) (h5 : ∃ t v, w.cell? ⟨4, 0, none⟩ = some (.iface t v)) : GlobOK w fun _ => False := by
  intro g hg
  have big : ∀ {b : Nat} {x : Value}, w.cell? ⟨b, 0, none⟩ = some x → b < w.heap.size := fun {b x} e => by
    rcases Nat.lt_or_ge b w.heap.size with h' | h'
    · exact h'
    · simp [World.cell?, Array.getElem?_eq_none h'] at e
  have her : gerr g = true → g < w.heap.size ∧ ∃ t v, w.cell? ⟨g, 0, none⟩ = some (.iface t v) := fun he => by
    have : g = 3 ∨ g = 4 := by
      unfold gerr at he
      split at he
      · exact .inl rfl
      · exact .inr rfl
      · cases he
    rcases this with rfl | rfl
    · obtain ⟨t, v, e⟩ := h4; exact ⟨big e, t, v, e⟩
    · obtain ⟨t, v, e⟩ := h5; exact ⟨big e, t, v, e⟩
  refine ⟨?_, fun e => e, fun l hl => (tabs_part h ht g l hl).2.2, fun he => (her he).2⟩
  cases hgt : gtab g with
  | some l => exact (tabs_part h ht g l hgt).1
  | none =>
    rw [hgt] at hg
    exact (her (by simpa using hg)).1
theorem tab_of_laid {W : World} (h : laidMet Tryz.prog Rows.refTellsRow.laid W) : Lib.TabIs Tryz.prog W "internal/strconv.uint64pow10" .u64 Lib.pow10Tab := by
  have h2 : laidMet Tryz.prog (("internal/strconv.uint64pow10", Lib.tabData .u64 Lib.pow10Tab) :: Rows.refTellsRow.laid.drop 3) W := by
    have e : (Rows.laid_internal_strconv_uint64pow10 : DataW Unit) = Lib.tabData .u64 Lib.pow10Tab := by kernel_rfl
    rw [← e]; exact h.tail.tail
  exact Lib.tabIs_of_head (g := 5) (t := 125) (e := 106) (n := 20) (by kernel_rfl) (by kernel_rfl) Tryz.underlying125 Tryz.underlying106 (by kernel_rfl) (by kernel_rfl) h2
theorem star_err : "*" ++ "errors.errorString" = "*errors.errorString" := by decide
theorem row_err (u : TypeId) (h : Tryz.prog.typeName? 3 u = some "*errors.errorString") : u = 133 := by
  exact typeName_ptr_named (nm := "errors.errorString") (by rw [star_err]; kernel_rfl) (by kernel_rfl) (by decide) u (by rw [star_err]; exact h)
theorem err_cell {n : String} {g : Nat} {text : List UInt8} {r : List (String × DataW Unit)} {W : World} (h : laidMet Tryz.prog ((n, .iface "*errors.errorString" (.ptr (.agg [.lit (.string text)]))) :: r) W) (hg : Tryz.prog.globalNamed n = some g) (ht : (Tryz.prog.globals[g]?).map (·.type) = some 75) : ∃ t v, W.cell? ⟨g, 0, none⟩ = some (.iface t v) := by
  obtain ⟨a, s, hv, _, _, _⟩ := laid_sentinel h hg ht Tryz.underlying75 row_err Tryz.underlying133 Tryz.underlying135 rfl rfl Tryz.underlying9 (by kernel_rfl) (by kernel_rfl)
  exact ⟨_, _, by rw [World.var?_cell hg hv 0]; rfl⟩
theorem glob_of_laid {W : World} (h : laidMetH Tryz.prog Rows.refTellsRow.laid W) : GlobOK W fun _ => False := by
  rw [MakeChecks.laidMetH_plain _ _ _ (by kernel_rfl)] at h
  have ht := tab_of_laid h
  have hall := h
  obtain ⟨ps, hv, _⟩ := h
  have h3 := Lib.LaidVars_reads hv "unicode/utf8.first" Pinned.utf8First (by simp [Rows.refTellsRow, Rows.laid_unicode_utf8_first])
  have h4 := Lib.LaidVars_reads hv "unicode/utf8.acceptRanges" Rows.laid_unicode_utf8_acceptRanges (by simp [Rows.refTellsRow])
  have e3 : (Pinned.utf8First : DataW Unit) = Lib.firstData := by kernel_rfl
  rw [e3] at h3
  have e4 : (Rows.laid_unicode_utf8_acceptRanges : DataW Unit) = Lib.acceptData := by kernel_rfl
  rw [e4] at h4
  exact glob_of_tabs (utf8Tabs_of_readsT (U8Types.of196 layValid) layExtra h3 h4) ht
    (err_cell (r := Rows.refTellsRow.laid.drop 6) (text := [105, 110, 118, 97, 108, 105, 100, 32, 115, 121, 110, 116, 97, 120]) hall.tail.tail.tail.tail.tail (by kernel_rfl) (by kernel_rfl))
    (err_cell (r := Rows.refTellsRow.laid.drop 5) (text := [118, 97, 108, 117, 101, 32, 111, 117, 116, 32, 111, 102, 32, 114, 97, 110, 103, 101]) hall.tail.tail.tail.tail (by kernel_rfl) (by kernel_rfl))

/-- utf8.ValidString. -/
def eValid : Ent := fun args pre => match args, pre with
  | [.str l], [] => .chk (decide (l.length ≤ 9223372036854775807)) (.ret (.bool (Lib.validD l)) [])
  | _, _ => .fail
theorem valid_ok : EntOK Tryz.prog 78 eValid := fun args pre => by
  unfold eValid
  split
  · rename_i l
    refine ⟨fun hb => ?_, fun _ => trivial⟩
    have hl : l.length ≤ 9223372036854775807 := by simpa using hb
    intro w E vs hvs hp
    obtain ⟨x, zs, hx, hz, rfl⟩ := denL_cons.1 hvs
    simp only [denL, Option.some.injEq] at hz
    subst hz
    have hx : x = .string ⟨l.toArray⟩ := by simpa [den] using hx.symm
    subst hx
    have hc := Any.utf8_ValidString layValid ⟨l.toArray⟩ w (by simpa [ByteArray.size] using hl) (tabs_of_glob hp.glob)
    refine .inl ⟨78, _, Tryz.call78 _ _, hc.mono ?_⟩
    rintro e w' ⟨rfl, hb'⟩
    refine ⟨E, _, rfl, rfl, ⟨.refl _, hp.fresh, fun n o h => by simp at h, fun n b c o _ h => by simp at h, fun k hk _ => hb'.block k hk, fun n m o o' b c b' c' _ _ h => by simp at h, hb'.size, hb'.os, hb'.tape, hb'.output⟩⟩
  · trivial

end Go.Proofs.YtanhlbdcjonaoaaGreatDoor

/- Layer 2: areas. -/
set_option linter.unusedVariables false
set_option linter.unusedSimpArgs false
namespace Go.Proofs.YtanhlbdcjonaoaaGreatDoor
open Go Sx

/-- An area: its sheet, row, column, how many rows and columns. -/
structure Ar where
  s : Int
  r : Int
  c : Int
  h : Int
  w : Int
def Ar.v (x : Ar) : AV := .agg [.int .i64 x.s, .int .i64 x.r, .int .i64 x.c, .int .i64 x.h, .int .i64 x.w]
def Ar.inB (x : Ar) : Bool := inI x.s && inI x.r && inI x.c && inI x.h && inI x.w
def Ar.ok (x : Ar) : Bool := decide (0 ≤ x.s ∧ x.s < 8 ∧ 0 ≤ x.r ∧ 1 ≤ x.h ∧ x.h ≤ 200 - x.r ∧ 0 ≤ x.c ∧ 1 ≤ x.w ∧ x.w ≤ 52 - x.c)
theorem Ar.ok_iff {x : Ar} : x.ok = true ↔ 0 ≤ x.s ∧ x.s < 8 ∧ 0 ≤ x.r ∧ 1 ≤ x.h ∧ x.h ≤ 200 - x.r ∧ 0 ≤ x.c ∧ 1 ≤ x.w ∧ x.w ≤ 52 - x.c := by simp [Ar.ok]
theorem Ar.in_iff {x : Ar} : x.inB = true ↔ (-9223372036854775808 ≤ x.s ∧ x.s < 9223372036854775808) ∧ (-9223372036854775808 ≤ x.r ∧ x.r < 9223372036854775808) ∧ (-9223372036854775808 ≤ x.c ∧ x.c < 9223372036854775808) ∧ (-9223372036854775808 ≤ x.h ∧ x.h < 9223372036854775808) ∧ (-9223372036854775808 ≤ x.w ∧ x.w < 9223372036854775808) := by simp [Ar.inB, inI, and_assoc]

def eIsArea : Ent := fun args pre => match args, pre with
  | [.agg [.int .i64 s, .int .i64 r, .int .i64 c, .int .i64 h, .int .i64 w]], [] => .chk (Ar.inB ⟨s, r, c, h, w⟩) (.ret (.bool (Ar.ok ⟨s, r, c, h, w⟩)) [])
  | _, _ => .fail
theorem isArea_ok : EntOK Tryz.prog 53 eIsArea := fun args pre => by
  unfold eIsArea
  split
  · rename_i a0 a1 a2 a3 a4
    have e : Comes tab0 nolv 53 [.agg [.int .i64 a0, .int .i64 a1, .int .i64 a2, .int .i64 a3, .int .i64 a4]] [] (.br (decide (a0 < 0)) (.ret (.bool false) []) (.br (decide (a0 ≥ 8)) (.ret (.bool false) []) (.br (decide (a1 ≥ 0)) (.br (decide (a3 ≥ 1)) (.br (decide (a3 ≤ IntKind.i64.wrap (200 - a1))) (.br (decide (a2 ≥ 0)) (.br (decide (a4 ≥ 1)) (.ret (.bool (decide (a4 ≤ IntKind.i64.wrap (52 - a2)))) []) (.ret (.bool false) [])) (.ret (.bool false) [])) (.ret (.bool false) [])) (.ret (.bool false) [])) (.ret (.bool false) [])))) := by unfold Comes; kernel_rfl
    refine of_run (ans_comes tab0_ok e) fun r h => ?_
    obtain ⟨h1, h⟩ := chk_run h
    rw [Ar.in_iff] at h1
    simp only at h1
    rw [← h]
    simp only [Ans.run, Ar.ok]
    have key : ∀ b c : Bool, b = c → pure2 (.bool b) [] = pure2 (.bool c) [] := fun b c e => by rw [e]
    by_cases c1 : a0 < 0
    · rw [bcT (by simpa using c1)]; refine key _ _ (by simp; omega)
    rw [bcF (by simpa using c1)]
    by_cases c2 : a0 ≥ 8
    · rw [bcT (by simpa using c2)]; refine key _ _ (by simp; omega)
    rw [bcF (by simpa using c2)]
    by_cases c3 : a1 ≥ 0
    · rw [bcT (by simpa using c3)]
      by_cases c4 : a3 ≥ 1
      · rw [bcT (by simpa using c4), i64_in (by omega) (by omega)]
        by_cases c5 : a3 ≤ 200 - a1
        · rw [bcT (by simpa using c5)]
          by_cases c6 : a2 ≥ 0
          · rw [bcT (by simpa using c6)]
            by_cases c7 : a4 ≥ 1
            · rw [bcT (by simpa using c7), i64_in (by omega) (by omega)]
              refine key _ _ ?_
              rw [decide_eq_decide]; omega
            · rw [bcF (by simpa using c7)]; refine key _ _ (by simp; omega)
          · rw [bcF (by simpa using c6)]; refine key _ _ (by simp; omega)
        · rw [bcF (by simpa using c5)]; refine key _ _ (by simp; omega)
      · rw [bcF (by simpa using c4)]; refine key _ _ (by simp; omega)
    · rw [bcF (by simpa using c3)]; refine key _ _ (by simp; omega)
  · trivial

def eBetween : Ent := fun args pre => match args, pre with
  | [.agg [.int .i64 s, .int .i64 r, .int .i64 c], .int .i64 a, .int .i64 b], [] => .ret (.agg [.int .i64 s, .int .i64 r, .int .i64 c, .int .i64 (IntKind.i64.wrap (a - r)), .int .i64 (IntKind.i64.wrap (b - c))]) []
  | _, _ => .fail
theorem between_ok : EntOK Tryz.prog 50 eBetween := fun args pre => by
  unfold eBetween
  split
  · exact ans_comes (lv := nolv) tab0_ok (by unfold Comes; kernel_rfl)
  · trivial

def tab1 : Tab := (4, eTrue) :: (7, ePick) :: (53, eIsArea) :: (50, eBetween) :: tab0
theorem tab1_ok : TabOK Tryz.prog tab1 := .cons awake_ok (.cons pick_ok (.cons isArea_ok (.cons between_ok tab0_ok)))

/-- What two areas have in common. -/
def meetM (x y : Ar) : Ar := ⟨x.s, max x.r y.r, max x.c y.c, min (x.r + x.h) (y.r + y.h) - max x.r y.r, min (x.c + x.w) (y.c + y.w) - max x.c y.c⟩
def meetB (x y : Ar) : Bool := x.ok && y.ok && x.s == y.s && (meetM x y).ok
def meetA (x y : Ar) : Ar := if meetB x y = true then meetM x y else ⟨0, 0, 0, 0, 0⟩
def eMeet : Ent := fun args pre => match args, pre with
  | [.agg [.int .i64 a0, .int .i64 a1, .int .i64 a2, .int .i64 a3, .int .i64 a4], .agg [.int .i64 b0, .int .i64 b1, .int .i64 b2, .int .i64 b3, .int .i64 b4]], [] =>
    .chk (Ar.inB ⟨a0, a1, a2, a3, a4⟩ && Ar.inB ⟨b0, b1, b2, b3, b4⟩) (.ret (.tuple [(meetA ⟨a0, a1, a2, a3, a4⟩ ⟨b0, b1, b2, b3, b4⟩).v, .bool (meetB ⟨a0, a1, a2, a3, a4⟩ ⟨b0, b1, b2, b3, b4⟩)]) [])
  | _, _ => .fail
theorem maxI' {x y : Int} : (if y > x then y else x) = max x y := by omega
theorem minI' {x y : Int} : (if y < x then y else x) = min x y := by omega
def none5 : AV := .tuple [.agg [.int .i64 0, .int .i64 0, .int .i64 0, .int .i64 0, .int .i64 0], .bool false]
theorem meet_ok : EntOK Tryz.prog 25 eMeet := fun args pre => by
  unfold eMeet
  split
  · rename_i a0 a1 a2 a3 a4 b0 b1 b2 b3 b4
    have e : Comes tab1 nolv 25 [.agg [.int .i64 a0, .int .i64 a1, .int .i64 a2, .int .i64 a3, .int .i64 a4], .agg [.int .i64 b0, .int .i64 b1, .int .i64 b2, .int .i64 b3, .int .i64 b4]] []
      (.br (Ar.inB ⟨a0, a1, a2, a3, a4⟩) (.br (!Ar.ok ⟨a0, a1, a2, a3, a4⟩) (.ret none5 [])
        (.br (Ar.inB ⟨b0, b1, b2, b3, b4⟩) (.br (!Ar.ok ⟨b0, b1, b2, b3, b4⟩) (.ret none5 [])
          (.br (a0 != b0) (.ret none5 [])
            (.br (Ar.inB ⟨a0, if b1 > a1 then b1 else a1, if b2 > a2 then b2 else a2, IntKind.i64.wrap ((if IntKind.i64.wrap (b1 + b3) < IntKind.i64.wrap (a1 + a3) then IntKind.i64.wrap (b1 + b3) else IntKind.i64.wrap (a1 + a3)) - if b1 > a1 then b1 else a1), IntKind.i64.wrap ((if IntKind.i64.wrap (b2 + b4) < IntKind.i64.wrap (a2 + a4) then IntKind.i64.wrap (b2 + b4) else IntKind.i64.wrap (a2 + a4)) - if b2 > a2 then b2 else a2)⟩)
              (.br (!Ar.ok ⟨a0, if b1 > a1 then b1 else a1, if b2 > a2 then b2 else a2, IntKind.i64.wrap ((if IntKind.i64.wrap (b1 + b3) < IntKind.i64.wrap (a1 + a3) then IntKind.i64.wrap (b1 + b3) else IntKind.i64.wrap (a1 + a3)) - if b1 > a1 then b1 else a1), IntKind.i64.wrap ((if IntKind.i64.wrap (b2 + b4) < IntKind.i64.wrap (a2 + a4) then IntKind.i64.wrap (b2 + b4) else IntKind.i64.wrap (a2 + a4)) - if b2 > a2 then b2 else a2)⟩) (.ret none5 [])
                (.ret (.tuple [Ar.v ⟨a0, if b1 > a1 then b1 else a1, if b2 > a2 then b2 else a2, IntKind.i64.wrap ((if IntKind.i64.wrap (b1 + b3) < IntKind.i64.wrap (a1 + a3) then IntKind.i64.wrap (b1 + b3) else IntKind.i64.wrap (a1 + a3)) - if b1 > a1 then b1 else a1), IntKind.i64.wrap ((if IntKind.i64.wrap (b2 + b4) < IntKind.i64.wrap (a2 + a4) then IntKind.i64.wrap (b2 + b4) else IntKind.i64.wrap (a2 + a4)) - if b2 > a2 then b2 else a2)⟩, .bool true]) []))
              .fail)))
          .fail)) .fail) := by unfold Comes; kernel_rfl
    refine of_run (ans_comes tab1_ok e) fun r h => ?_
    obtain ⟨h1, h⟩ := chk_run h
    simp only [Bool.and_eq_true] at h1
    obtain ⟨hx, hy⟩ := h1
    rw [← h]
    simp only [Ans.run, hx, hy]
    rw [Ar.in_iff] at hx hy
    simp only at hx hy
    have no : meetB ⟨a0, a1, a2, a3, a4⟩ ⟨b0, b1, b2, b3, b4⟩ = false → pure2 none5 [] = pure2 (.tuple [(meetA ⟨a0, a1, a2, a3, a4⟩ ⟨b0, b1, b2, b3, b4⟩).v, .bool (meetB ⟨a0, a1, a2, a3, a4⟩ ⟨b0, b1, b2, b3, b4⟩)]) [] := fun e => by
      unfold meetA; rw [e]; rfl
    rw [bcT rfl]
    cases c1 : Ar.ok ⟨a0, a1, a2, a3, a4⟩ with
    | false => rw [bcT (by rfl)]; exact no (by simp [meetB, c1])
    | true =>
      rw [bcF (by rfl), bcT rfl]
      cases c2 : Ar.ok ⟨b0, b1, b2, b3, b4⟩ with
      | false => rw [bcT (by rfl)]; exact no (by simp [meetB, c2])
      | true =>
        rw [bcF (by rfl)]
        have d1 := Ar.ok_iff.1 c1
        have d2 := Ar.ok_iff.1 c2
        simp only at d1 d2
        by_cases c3 : a0 = b0
        · rw [bcF (by simpa using c3)]
          simp only [maxI', minI', i64_in (n := b1 + b3) (by omega) (by omega), i64_in (n := a1 + a3) (by omega) (by omega), i64_in (n := b2 + b4) (by omega) (by omega), i64_in (n := a2 + a4) (by omega) (by omega), i64_in (n := min (a1 + a3) (b1 + b3) - max a1 b1) (by omega) (by omega), i64_in (n := min (a2 + a4) (b2 + b4) - max a2 b2) (by omega) (by omega)]
          have em : (⟨a0, max a1 b1, max a2 b2, min (a1 + a3) (b1 + b3) - max a1 b1, min (a2 + a4) (b2 + b4) - max a2 b2⟩ : Ar) = meetM ⟨a0, a1, a2, a3, a4⟩ ⟨b0, b1, b2, b3, b4⟩ := rfl
          rw [em, bcT (by rw [Ar.in_iff]; simp only [meetM]; omega)]
          cases c4 : (meetM ⟨a0, a1, a2, a3, a4⟩ ⟨b0, b1, b2, b3, b4⟩).ok with
          | false => rw [bcT (by rfl)]; exact no (by simp [meetB, c4])
          | true =>
            have hb : meetB ⟨a0, a1, a2, a3, a4⟩ ⟨b0, b1, b2, b3, b4⟩ = true := by unfold meetB; rw [c1, c2, c4]; simpa using c3
            rw [bcF (by rfl), hb]
            simp only [meetA, hb, if_true]
        · rw [bcT (by simpa using c3)]; exact no (by simp [meetB, c3])
  · trivial

/-- Has an area a place? -/
def hasB (x : Ar) (s r c : Int) : Bool := x.ok && x.s == s && decide (x.r ≤ r ∧ r < x.r + x.h ∧ x.c ≤ c ∧ c < x.c + x.w)
def eHas : Ent := fun args pre => match args, pre with
  | [.agg [.int .i64 a0, .int .i64 a1, .int .i64 a2, .int .i64 a3, .int .i64 a4], .agg [.int .i64 b0, .int .i64 b1, .int .i64 b2]], [] =>
    .chk (Ar.inB ⟨a0, a1, a2, a3, a4⟩) (.ret (.bool (hasB ⟨a0, a1, a2, a3, a4⟩ b0 b1 b2)) [])
  | _, _ => .fail
theorem has_ok : EntOK Tryz.prog 26 eHas := fun args pre => by
  unfold eHas
  split
  · rename_i a0 a1 a2 a3 a4 b0 b1 b2
    have e : Comes tab1 nolv 26 [.agg [.int .i64 a0, .int .i64 a1, .int .i64 a2, .int .i64 a3, .int .i64 a4], .agg [.int .i64 b0, .int .i64 b1, .int .i64 b2]] []
      (.br (Ar.inB ⟨a0, a1, a2, a3, a4⟩) (.br (!Ar.ok ⟨a0, a1, a2, a3, a4⟩) (.ret (.bool false) [])
        (.br (a0 != b0) (.ret (.bool false) []) (.br (decide (b1 ≥ a1)) (.br (decide (b1 < IntKind.i64.wrap (a1 + a3))) (.br (decide (b2 ≥ a2)) (.ret (.bool (decide (b2 < IntKind.i64.wrap (a2 + a4)))) []) (.ret (.bool false) [])) (.ret (.bool false) [])) (.ret (.bool false) [])))) .fail) := by unfold Comes; kernel_rfl
    refine of_run (ans_comes tab1_ok e) fun r h => ?_
    obtain ⟨h1, h⟩ := chk_run h
    rw [← h]
    simp only [Ans.run, h1]
    rw [bcT rfl]
    have key : ∀ b c : Bool, b = c → pure2 (.bool b) [] = pure2 (.bool c) [] := fun b c e => by rw [e]
    cases c1 : Ar.ok ⟨a0, a1, a2, a3, a4⟩ with
    | false => rw [bcT (by rfl)]; exact key _ _ (by simp [hasB, c1])
    | true =>
      have d1 := Ar.ok_iff.1 c1
      simp only at d1
      rw [bcF (by rfl)]
      by_cases c2 : a0 = b0
      · rw [bcF (by simpa using c2), i64_in (n := a1 + a3) (by omega) (by omega), i64_in (n := a2 + a4) (by omega) (by omega)]
        by_cases c3 : b1 ≥ a1
        · rw [bcT (by simpa using c3)]
          by_cases c4 : b1 < a1 + a3
          · rw [bcT (by simpa using c4)]
            by_cases c5 : b2 ≥ a2
            · rw [bcT (by simpa using c5)]
              refine key _ _ ?_
              unfold hasB
              rw [c1]
              simp only [Bool.true_and]
              have h5 : (a0 == b0) = true := by simpa using c2
              rw [h5, Bool.true_and, decide_eq_decide]; omega
            · rw [bcF (by simpa using c5)]; refine key _ _ (by simp [hasB]; omega)
          · rw [bcF (by simpa using c4)]; refine key _ _ (by simp [hasB]; omega)
        · rw [bcF (by simpa using c3)]; refine key _ _ (by simp [hasB]; omega)
      · rw [bcT (by simpa using c2)]; exact key _ _ (by simp [hasB, c2])
  · trivial

/-- RefArea: a right area out of whole numbers. -/
def areaS (x : Ar) : Ar := ⟨pickS x.s 2, pickS x.r 200, pickS x.c 52, 1 + pickS x.h (200 - pickS x.r 200), 1 + pickS x.w (52 - pickS x.c 52)⟩
theorem areaS_bd (x : Ar) : 0 ≤ (areaS x).s ∧ (areaS x).s < 2 ∧ 0 ≤ (areaS x).r ∧ 1 ≤ (areaS x).h ∧ (areaS x).h ≤ 200 - (areaS x).r ∧ 0 ≤ (areaS x).c ∧ 1 ≤ (areaS x).w ∧ (areaS x).w ≤ 52 - (areaS x).c := by
  have h1 := pickS_bd (a := x.s) (n := 2) (by omega)
  have h2 := pickS_bd (a := x.r) (n := 200) (by omega)
  have h3 := pickS_bd (a := x.c) (n := 52) (by omega)
  have h4 := pickS_bd (a := x.h) (n := 200 - pickS x.r 200) (by omega)
  have h5 := pickS_bd (a := x.w) (n := 52 - pickS x.c 52) (by omega)
  simp only [areaS]; omega
def eRefArea : Ent := fun args pre => match args, pre with
  | [.agg [.int .i64 a0, .int .i64 a1, .int .i64 a2, .int .i64 a3, .int .i64 a4]], [] => .chk (Ar.inB ⟨a0, a1, a2, a3, a4⟩) (.ret (areaS ⟨a0, a1, a2, a3, a4⟩).v [])
  | _, _ => .fail
theorem refArea_ok : EntOK Tryz.prog 23 eRefArea := fun args pre => by
  unfold eRefArea
  split
  · rename_i a0 a1 a2 a3 a4
    have e : Comes tab1 nolv 23 [.agg [.int .i64 a0, .int .i64 a1, .int .i64 a2, .int .i64 a3, .int .i64 a4]] []
      (.br (inI a0 && decide ((0 : Int) < 2)) (.br (inI a1 && decide ((0 : Int) < 200)) (.br (inI a2 && decide ((0 : Int) < 52)) (.br (inI a3 && decide (0 < IntKind.i64.wrap (200 - pickS a1 200))) (.br (inI a4 && decide (0 < IntKind.i64.wrap (52 - pickS a2 52)))
        (.ret (.agg [.int .i64 (pickS a0 2), .int .i64 (pickS a1 200), .int .i64 (pickS a2 52), .int .i64 (IntKind.i64.wrap (1 + pickS a3 (IntKind.i64.wrap (200 - pickS a1 200)))), .int .i64 (IntKind.i64.wrap (1 + pickS a4 (IntKind.i64.wrap (52 - pickS a2 52))))]) [])
        .fail) .fail) .fail) .fail) .fail) := by unfold Comes; kernel_rfl
    refine of_run (ans_comes tab1_ok e) fun r h => ?_
    obtain ⟨h1, h⟩ := chk_run h
    rw [← h]
    simp only [Ar.inB, Bool.and_eq_true] at h1
    obtain ⟨⟨⟨⟨k0, k1⟩, k2⟩, k3⟩, k4⟩ := h1
    have h2 := pickS_bd (a := a1) (n := 200) (by omega)
    have h3 := pickS_bd (a := a2) (n := 52) (by omega)
    have h4 := pickS_bd (a := a3) (n := 200 - pickS a1 200) (by omega)
    have h5 := pickS_bd (a := a4) (n := 52 - pickS a2 52) (by omega)
    simp only [Ans.run, k0, k1, k2, k3, k4, i64_in (n := 200 - pickS a1 200) (by omega) (by omega), i64_in (n := 52 - pickS a2 52) (by omega) (by omega), i64_in (n := 1 + pickS a3 (200 - pickS a1 200)) (by omega) (by omega), i64_in (n := 1 + pickS a4 (52 - pickS a2 52)) (by omega) (by omega)]
    rw [bcT (by rfl), bcT (by rfl), bcT (by rfl), bcT (by simp; omega), bcT (by simp; omega)]
    rfl
  · trivial

def eRefAt : Ent := fun args pre => match args, pre with
  | [.agg [.int .i64 a0, .int .i64 a1, .int .i64 a2]], [] => .chk (inI a0 && inI a1 && inI a2) (.ret (.agg [.int .i64 (pickS a0 2), .int .i64 (pickS a1 200), .int .i64 (pickS a2 52)]) [])
  | _, _ => .fail
theorem refAt_ok : EntOK Tryz.prog 24 eRefAt := fun args pre => by
  unfold eRefAt
  split
  · rename_i a0 a1 a2
    have e : Comes tab1 nolv 24 [.agg [.int .i64 a0, .int .i64 a1, .int .i64 a2]] []
      (.br (inI a0 && decide ((0 : Int) < 2)) (.br (inI a1 && decide ((0 : Int) < 200)) (.br (inI a2 && decide ((0 : Int) < 52))
        (.ret (.agg [.int .i64 (pickS a0 2), .int .i64 (pickS a1 200), .int .i64 (pickS a2 52)]) []) .fail) .fail) .fail) := by unfold Comes; kernel_rfl
    refine of_run (ans_comes tab1_ok e) fun r h => ?_
    obtain ⟨h1, h⟩ := chk_run h
    rw [← h]
    simp only [Bool.and_eq_true] at h1
    obtain ⟨⟨k0, k1⟩, k2⟩ := h1
    simp only [Ans.run, k0, k1, k2]
    rfl
  · trivial

def tab2 : Tab := (23, eRefArea) :: (24, eRefAt) :: (25, eMeet) :: (26, eHas) :: tab1
theorem tab2_ok : TabOK Tryz.prog tab2 := .cons refArea_ok (.cons refAt_ok (.cons meet_ok (.cons has_ok tab1_ok)))

end Go.Proofs.YtanhlbdcjonaoaaGreatDoor

/- Layer 2: letters and digits ahead. -/
set_option linter.unusedVariables false
set_option linter.unusedSimpArgs false
namespace Go.Proofs.YtanhlbdcjonaoaaGreatDoor
open Go Sx

def letB (c : Int) : Bool := decide ((65 ≤ c ∧ c ≤ 90) ∨ (97 ≤ c ∧ c ≤ 122))
def digB (c : Int) : Bool := decide (48 ≤ c ∧ c ≤ 57)
def eRune (f : Int → Bool) : Ent := fun args pre => match args, pre with
  | [.int .i32 c], [] => .ret (.bool (f c)) []
  | _, _ => .fail
theorem letter_ok : EntOK Tryz.prog 35 (eRune letB) := fun args pre => by
  unfold eRune
  split
  · rename_i c
    have e : Comes tab0 nolv 35 [.int .i32 c] [] (.br (decide (c ≥ 65)) (.br (decide (c ≤ 90)) (.ret (.bool true) []) (.br (decide (c ≥ 97)) (.ret (.bool (decide (c ≤ 122))) []) (.ret (.bool false) [])))
      (.br (decide (c ≥ 97)) (.ret (.bool (decide (c ≤ 122))) []) (.ret (.bool false) []))) := by unfold Comes; kernel_rfl
    refine of_run (ans_comes tab0_ok e) fun x h => ?_
    rw [← h]
    simp only [Ans.run, letB]
    have key : ∀ b c : Bool, b = c → pure2 (.bool b) [] = pure2 (.bool c) [] := fun b c e => by rw [e]
    have rest : ¬ (65 ≤ c ∧ c ≤ 90) → bcond (decide (c ≥ 97)) (pure2 (.bool (decide (c ≤ 122))) []) (pure2 (.bool false) []) = pure2 (.bool (decide ((65 ≤ c ∧ c ≤ 90) ∨ (97 ≤ c ∧ c ≤ 122)))) [] := fun hn => by
      by_cases h3 : c ≥ 97
      · rw [bcT (b := decide (c ≥ 97)) (decide_eq_true h3)]; exact key _ _ (by rw [decide_eq_decide]; omega)
      · rw [bcF (b := decide (c ≥ 97)) (decide_eq_false h3)]; exact key _ _ (by symm; rw [decide_eq_false_iff_not]; omega)
    by_cases h1 : c ≥ 65
    · rw [bcT (b := decide (c ≥ 65)) (decide_eq_true h1)]
      by_cases h2 : c ≤ 90
      · rw [bcT (b := decide (c ≤ 90)) (decide_eq_true h2)]; exact key _ _ (by symm; rw [decide_eq_true_eq]; omega)
      · rw [bcF (b := decide (c ≤ 90)) (decide_eq_false h2)]; exact rest (by omega)
    · rw [bcF (b := decide (c ≥ 65)) (decide_eq_false h1)]; exact rest (by omega)
  · trivial
theorem digit_ok : EntOK Tryz.prog 37 (eRune digB) := fun args pre => by
  unfold eRune
  split
  · rename_i c
    have e : Comes tab0 nolv 37 [.int .i32 c] [] (.br (decide (c ≥ 48)) (.ret (.bool (decide (c ≤ 57))) []) (.ret (.bool false) [])) := by unfold Comes; kernel_rfl
    refine of_run (ans_comes tab0_ok e) fun x h => ?_
    rw [← h]
    simp only [Ans.run, digB]
    have key : ∀ b c : Bool, b = c → pure2 (.bool b) [] = pure2 (.bool c) [] := fun b c e => by rw [e]
    by_cases h1 : c ≥ 48
    · rw [bcT (b := decide (c ≥ 48)) (decide_eq_true h1)]; exact key _ _ (by rw [decide_eq_decide]; omega)
    · rw [bcF (b := decide (c ≥ 48)) (decide_eq_false h1)]; exact key _ _ (by symm; rw [decide_eq_false_iff_not]; omega)
  · trivial
def tabL : Tab := (35, eRune letB) :: (37, eRune digB) :: tab0
theorem tabL_ok : TabOK Tryz.prog tabL := .cons letter_ok (.cons digit_ok tab0_ok)

/-- Where the first sign is that is not so. -/
def runeAt (l : List UInt8) (p : Nat) : Int := ((Utf8.decode ⟨l.toArray⟩ p).1 : Int)
def scanF (f : Int → Bool) (l : List UInt8) : Nat → Nat → Option Nat
  | 0, _ => none
  | n + 1, p => bcond (decide (p < l.length)) (bcond (f (runeAt l p) == false) (some p) (scanF f l n (p + (Utf8.decode ⟨l.toArray⟩ p).2))) none
def st53 (k : Nat) (l : List UInt8) (p : Nat) : PState :=
  ⟨none :: some (.func k [] []) :: some (.bool false) :: none :: none :: none :: some (.int .i64 0) :: none :: none :: none :: some (.ptr 0 0) :: List.replicate 10 none, some (.raw (.iter l p)) :: List.replicate 64 none⟩
def fin53 (z : Int) : PState := ⟨none :: none :: none :: none :: none :: none :: some (.int .i64 z) :: List.replicate 14 none, List.replicate 64 none⟩
def rnd53 (f : Int → Bool) (k : Nat) (l : List UInt8) (p : Nat) : Option (Ex × PState) :=
  bcond (decide (p < l.length)) (bcond (f (runeAt l p) == false) (some (.ret, fin53 (p : Int))) (some (.normal, st53 k l (p + (Utf8.decode ⟨l.toArray⟩ p).2)))) (some (.exit 0, fin53 0))
theorem round53a (l : List UInt8) (p : Nat) : code (ent Tryz.prog tabL nolv 64 1 1) Tryz.prog {} 0 64 1 ((loopBodies (bodyOf Tryz.f60)).headD .skip) (st53 35 l p) (endK 0 64 (fun n => hasN [1, 2, 6, 10] n) (fun n => hasN [6] n)) = rnd53 letB 35 l p := by kernel_rfl
theorem round53b (l : List UInt8) (p : Nat) : code (ent Tryz.prog tabL nolv 64 1 1) Tryz.prog {} 0 64 1 ((loopBodies (bodyOf Tryz.f60)).headD .skip) (st53 37 l p) (endK 0 64 (fun n => hasN [1, 2, 6, 10] n) (fun n => hasN [6] n)) = rnd53 digB 37 l p := by kernel_rfl
theorem scan_lt {f : Int → Bool} {l : List UInt8} : ∀ (n p q : Nat), scanF f l n p = some q → q < l.length
  | 0, p, q, h => by cases h
  | n + 1, p, q, h => by
    simp only [scanF] at h
    by_cases h1 : p < l.length
    · rw [bcT (b := decide (p < l.length)) (decide_eq_true h1)] at h
      cases h2 : (f (runeAt l p) == false) with
      | true => rw [h2] at h; cases h; exact h1
      | false => rw [h2] at h; exact scan_lt n _ q h
    · rw [bcF (b := decide (p < l.length)) (decide_eq_false h1)] at h; cases h
def res53 (o : Option Nat) : Ex × PState := (bcond o.isNone (.exit 0) .ret, fin53 ((o.getD 0 : Nat) : Int))
theorem loop53 (f : Int → Bool) (k : Nat) (l : List UInt8) (hr : ∀ p, code (ent Tryz.prog tabL nolv 64 1 1) Tryz.prog {} 0 64 1 ((loopBodies (bodyOf Tryz.f60)).headD .skip) (st53 k l p) (endK 0 64 (fun n => hasN [1, 2, 6, 10] n) (fun n => hasN [6] n)) = rnd53 f k l p) :
    Tri Tryz.prog (.loop ((loopBodies (bodyOf Tryz.f60)).headD .skip)) (st53 k l 0).toA (res53 (scanF f l l.length 0)).1 (res53 (scanF f l l.length 0)).2.toA 0 := by
  refine loop_rounds (ι := { q : Nat × Nat // l.length ≤ q.1 + q.2 }) (ent_sound (NF := 64) (m := 1) tabL_ok host nolv_ok 1) (lv := {}) (NF := 64) (m := 1) (fun x hx id e h1 h2 => by cases h2) (fun n => hasN [1, 2, 6, 10] n) (fun n => hasN [6] n) (fun q => st53 k l q.1.1) (fun q => q.1.2) (fun q => res53 (scanF f l q.1.2 q.1.1)) ?_ (fun q => by simp only [res53]; cases (scanF f l q.1.2 q.1.1).isNone <;> simp [bcond]) ⟨(0, l.length), by simp⟩
  rintro ⟨⟨p, n⟩, hq⟩
  simp only at hq ⊢
  rw [hr]
  unfold rnd53
  cases n with
  | zero => exact .inr (by rw [bcF (b := decide (p < l.length)) (decide_eq_false (by omega))]; rfl)
  | succ n =>
    simp only [scanF]
    by_cases h1 : p < l.length
    · rw [bcT (b := decide (p < l.length)) (decide_eq_true h1)]
      rw [bcT (b := decide (p < l.length)) (decide_eq_true h1)]
      cases h2 : (f (runeAt l p) == false) with
      | true => exact .inr rfl
      | false =>
        have hd : 1 ≤ (Utf8.decode ⟨l.toArray⟩ p).2 := Lib.width_pos _ _
        exact .inl ⟨⟨(p + (Utf8.decode ⟨l.toArray⟩ p).2, n), by simp only; omega⟩, by simp, rfl, rfl⟩
    · rw [bcF (b := decide (p < l.length)) (decide_eq_false h1)]
      rw [bcF (b := decide (p < l.length)) (decide_eq_false h1)]
      exact .inr rfl

def nonesV : Nat → List (Option AV) → Bool
  | 0, [] => true
  | n + 1, none :: r => nonesV n r
  | _, _ => false
theorem nonesV_eq : ∀ (n : Nat) (l : List (Option AV)), nonesV n l = true → l = List.replicate n none
  | 0, [], _ => rfl
  | 0, _ :: _, h => by cases h
  | n + 1, [], h => by cases h
  | n + 1, none :: r, h => by rw [List.replicate_succ, ← nonesV_eq n r h]
  | n + 1, some _ :: r, h => by cases h
def ans53 (o : Option Nat) : LAns := .br o.isNone (.out (.exit 0) (fin53 0)) (.out .ret (fin53 ((o.getD 0 : Nat) : Int)))
def e53 : Nat → PState → LAns := fun K t => match K, t with
  | 0, ⟨none :: some (.func 35 [] []) :: some (.bool false) :: none :: none :: none :: some (.int .i64 z) :: none :: none :: none :: some (.ptr 0 0) :: rs, some (.raw (.iter l 0)) :: rm⟩ =>
    .chk (nonesV 10 rs) (.chk (nonesB 64 rm) (.chk (decide (z = 0)) (ans53 (scanF letB l l.length 0))))
  | 0, ⟨none :: some (.func 37 [] []) :: some (.bool false) :: none :: none :: none :: some (.int .i64 z) :: none :: none :: none :: some (.ptr 0 0) :: rs, some (.raw (.iter l 0)) :: rm⟩ =>
    .chk (nonesV 10 rs) (.chk (nonesB 64 rm) (.chk (decide (z = 0)) (ans53 (scanF digB l l.length 0))))
  | _, _ => .fail
def lv53 : FuncId → Lv := fun f => match f with
  | 60 => { keep := fun _ => some [1, 2, 6, 10], ent := fun i => match i with | 2 => some e53 | _ => none }
  | _ => {}
theorem ans53_ok {s : PState} {o : Option Nat} (h : Tri Tryz.prog (.loop ((loopBodies (bodyOf Tryz.f60)).headD .skip)) s.toA (res53 o).1 (res53 o).2.toA 0) : LAnsOK Tryz.prog ((loopBodies (bodyOf Tryz.f60)).headD .skip) 0 s (ans53 o) := by
  unfold ans53
  cases o with
  | none => exact ⟨fun _ => h, fun e => by cases e⟩
  | some q => exact ⟨fun e => (by cases e), fun _ => h⟩
theorem lv53_ok : LvOK Tryz.prog lv53 := by
  intro f fn body hf hb K x hx id e hid he t
  by_cases h : f = 60
  · subst h
    obtain rfl : fn = Tryz.f60 := (Option.some.inj (Tryz.func60.symm.trans hf)).symm
    have hbody : body = bodyOf Tryz.f60 := by unfold bodyOf; rw [hb]; rfl
    subst hbody
    have h1 : loopBodies (bodyOf Tryz.f60) = [(loopBodies (bodyOf Tryz.f60)).headD .skip] := by kernel_rfl
    rw [h1] at hx
    have hx' := List.mem_singleton.1 hx
    have h2 : id = 2 := by
      have h3 : headReg ((loopBodies (bodyOf Tryz.f60)).headD .skip) = some 2 := by kernel_rfl
      rw [hx', h3] at hid; exact (Option.some.inj hid).symm
    subst h2
    have he' : e53 = e := Option.some.inj he
    subst he'
    rw [hx']
    clear hx hx' hid he hb hf h1
    unfold e53
    split
    · rename_i z rs l rm
      refine ⟨fun g1 => ⟨fun g2 => ⟨fun g3 => ?_, fun _ => trivial⟩, fun _ => trivial⟩, fun _ => trivial⟩
      rw [nonesV_eq _ _ g1, nonesB_eq _ _ g2, of_decide_eq_true g3]
      exact ans53_ok (loop53 letB 35 l (round53a l))
    · rename_i z rs l rm
      refine ⟨fun g1 => ⟨fun g2 => ⟨fun g3 => ?_, fun _ => trivial⟩, fun _ => trivial⟩, fun _ => trivial⟩
      rw [nonesV_eq _ _ g1, nonesB_eq _ _ g2, of_decide_eq_true g3]
      exact ans53_ok (loop53 digB 37 l (round53b l))
    · trivial
  · exfalso
    have : (lv53 f).ent id = none := by
      unfold lv53
      split
      · exact absurd rfl h
      · rfl
    rw [this] at he; cases he

/-- What is left behind the signs that are so. -/
def trimF (f : Int → Bool) (l : List UInt8) : List UInt8 := bcond (scanF f l l.length 0).isNone [] (l.drop ((scanF f l l.length 0).getD 0))
def eTrim : Ent := fun args pre => match args, pre with
  | [.str l, .func 35 [] []], [] => .chk (decide (l.length ≤ 9223372036854775807)) (.ret (.str (trimF letB l)) [])
  | [.str l, .func 37 [] []], [] => .chk (decide (l.length ≤ 9223372036854775807)) (.ret (.str (trimF digB l)) [])
  | _, _ => .fail
end Go.Proofs.YtanhlbdcjonaoaaGreatDoor

/- Layer 2: great letters in the place of small ones: letters.Great of any text. -/
set_option linter.unusedVariables false
set_option linter.unusedSimpArgs false
namespace Go.Proofs.YtanhlbdcjonaoaaGreatDoor
open Go Sx

def upB (x : UInt8) : UInt8 := bcond (decide (97 ≤ x.toNat ∧ x.toNat ≤ 122)) (UInt8.ofNat (x.toNat - 32)) x
def grW (l : List UInt8) (p : Int) : Int := IntKind.u8.wrap (IntKind.u8.wrap (byteAt l (p.toNat * 1) - 97) + 65)
def grN (l : List UInt8) (n : Nat) (p : Int) : Option (Ex × PState) := some (.normal, st41 l n (IntKind.i64.wrap (p + 1)))
theorem round41 (l : List UInt8) (n p : Nat) : code (ent (R := Ex × PState) Tryz.prog tab0 nolv 64 18446744073709551616 30) Tryz.prog {} 0 64 18446744073709551616 ((loopBodies (bodyOf Tryz.f40)).headD .skip) (st41 l n p) (endK 0 64 (fun n => hasN [3, 8, 9, 10] n) (fun n => hasN [3] n)) =
    bcond (decide ((p : Int) < (n : Int))) (bcond (decide (0 ≤ (p : Int) ∧ (p : Int) < (n : Int))) (bcond (decide ((p : Int).toNat * 1 < l.length))
      (bcond (decide (byteAt l ((p : Int).toNat * 1) ≥ 97)) (bcond (decide (byteAt l ((p : Int).toNat * 1) ≤ 122))
        (bcond (decide (0 ≤ (p : Int) ∧ (p : Int) < (n : Int))) (bcond (decide ((p : Int).toNat * 1 < l.length) && decide (0 ≤ grW l p ∧ grW l p < 256)) (grN (l.set ((p : Int).toNat * 1) (toByte (grW l p))) n p) none) none)
        (grN l n p)) (grN l n p)) none) none) (some (.exit 0, fin41 l n)) := by kernel_rfl

def grS (l : List UInt8) (p : Nat) : List UInt8 := (l.take p).map upB ++ l.drop p
theorem gr_at {l : List UInt8} {p : Nat} (h : p < l.length) : grS l p = (l.take p).map upB ++ l[p] :: l.drop (p + 1) := by
  unfold grS; rw [List.drop_eq_getElem_cons h]
theorem gr_next {l : List UInt8} {p : Nat} (h : p < l.length) : grS l (p + 1) = (l.take p).map upB ++ upB l[p] :: l.drop (p + 1) := by
  unfold grS; rw [List.take_succ_eq_append_getElem h, List.map_append, List.append_assoc]; rfl
theorem set_mid {α : Type} (A B : List α) (x v : α) {n : Nat} (h : A.length = n) : (A ++ x :: B).set n v = A ++ v :: B := by
  subst h; simp
theorem byte_mid (A B : List UInt8) (x : UInt8) {n : Nat} (h : A.length = n) : byteAt (A ++ x :: B) n = (x.toNat : Int) := by
  subst h; unfold byteAt; simp
theorem gr_len {l : List UInt8} {p : Nat} (h : p ≤ l.length) : (grS l p).length = l.length := by
  unfold grS; simp; omega
theorem up_small {x : UInt8} (h : 97 ≤ x.toNat ∧ x.toNat ≤ 122) : toByte (IntKind.u8.wrap (IntKind.u8.wrap ((x.toNat : Int) - 97) + 65)) = upB x ∧ (0 ≤ IntKind.u8.wrap (IntKind.u8.wrap ((x.toNat : Int) - 97) + 65) ∧ IntKind.u8.wrap (IntKind.u8.wrap ((x.toNat : Int) - 97) + 65) < 256) := by
  have e : IntKind.u8.wrap (IntKind.u8.wrap ((x.toNat : Int) - 97) + 65) = (x.toNat : Int) - 32 := by
    rw [u8_in (n := (x.toNat : Int) - 97) (by omega) (by omega), u8_in (by omega) (by omega)]; omega
  rw [e]
  refine ⟨?_, by omega, by omega⟩
  unfold upB toByte
  rw [bcT (decide_eq_true h)]
  congr 1; omega
theorem loop41 (l : List UInt8) (hl : l.length ≤ 9223372036854775807) : Tri Tryz.prog (.loop ((loopBodies (bodyOf Tryz.f40)).headD .skip)) (st41 l l.length 0).toA (.exit 0) (fin41 (l.map upB) l.length).toA 0 := by
  have h0 : l = grS l 0 := by unfold grS; simp
  have key := loop_rounds (ι := { p : Nat // p ≤ l.length }) (ent_sound (NF := 64) (m := 18446744073709551616) tab0_ok host nolv_ok 30) (x := (loopBodies (bodyOf Tryz.f40)).headD .skip) (K := 0) (lv := {}) (NF := 64) (m := 18446744073709551616) (fun x hx id e h1 h2 => by cases h2) (fun n => hasN [3, 8, 9, 10] n) (fun n => hasN [3] n) (fun p => st41 (grS l p.1) l.length (p.1 : Int)) (fun p => l.length - p.1) (fun p => (.exit 0, fin41 (l.map upB) l.length)) ?_ (fun p => by simp) ⟨0, Nat.zero_le _⟩
  · simp only at key
    rw [← h0] at key
    exact key
  rintro ⟨p, hp⟩
  simp only
  rw [round41, Nat.mul_one, Int.toNat_natCast]
  by_cases h : p < l.length
  · have hw : IntKind.i64.wrap ((p : Int) + 1) = ((p + 1 : Nat) : Int) := by rw [i64_in (by omega) (by omega)]; rfl
    have htl : ((l.take p).map upB).length = p := by simp; omega
    have hb : byteAt (grS l p) p = (l[p].toNat : Int) := by rw [gr_at h]; exact byte_mid _ _ _ htl
    have hW : grW (grS l p) p = IntKind.u8.wrap (IntKind.u8.wrap ((l[p].toNat : Int) - 97) + 65) := by
      unfold grW; rw [Nat.mul_one, Int.toNat_natCast, hb]
    unfold grN
    rw [hw, hb, hW, gr_len hp, bcT (b := decide ((p : Int) < (l.length : Int))) (decide_eq_true (by omega)), bcT (b := decide (0 ≤ (p : Int) ∧ _)) (by rw [decide_eq_true_eq]; omega), bcT (b := decide (p < l.length)) (decide_eq_true h)]
    refine .inl ⟨⟨p + 1, h⟩, by simp only; omega, trivial, ?_⟩
    by_cases h1 : 97 ≤ l[p].toNat
    · rw [bcT (b := decide ((l[p].toNat : Int) ≥ 97)) (decide_eq_true (by omega))]
      by_cases h2 : l[p].toNat ≤ 122
      · have hs := up_small (x := l[p]) ⟨h1, h2⟩
        rw [bcT (b := decide ((l[p].toNat : Int) ≤ 122)) (decide_eq_true (by omega)), bcT (b := decide (0 ≤ (p : Int) ∧ _)) (by rw [decide_eq_true_eq]; omega), bcT (b := _ && _) (by rw [decide_eq_true h, decide_eq_true hs.2]; rfl), hs.1, gr_next h]
        rw [gr_at h, set_mid _ _ _ _ htl]
      · have hu : upB l[p] = l[p] := by unfold upB; rw [bcF (decide_eq_false (by omega))]
        rw [bcF (b := decide ((l[p].toNat : Int) ≤ 122)) (decide_eq_false (by omega)), gr_next h, hu, gr_at h]
    · have hu : upB l[p] = l[p] := by unfold upB; rw [bcF (decide_eq_false (by omega))]
      rw [bcF (b := decide ((l[p].toNat : Int) ≥ 97)) (decide_eq_false (by omega)), gr_next h, hu, gr_at h]
  · right
    have : p = l.length := by omega
    subst this
    rw [bcF (b := decide _) (decide_eq_false (by omega))]
    have : grS l l.length = l.map upB := by unfold grS; simp
    rw [this]

def e41 : Nat → PState → LAns := fun K t => match K, t with
  | 0, ⟨none :: none :: none :: some (.vec 0 n) :: none :: none :: none :: none :: some (.vec 0 n1) :: some (.int .i64 n2) :: some (.int .i64 i) :: rs, some (.vecB l 5) :: rm⟩ =>
    .chk (nonesV 19 rs) (.chk (nonesB 64 rm) (.chk (decide (n = l.length ∧ n1 = l.length ∧ n2 = (l.length : Int) ∧ i = 0 ∧ l.length ≤ 9223372036854775807)) (.out (.exit 0) (fin41 (l.map upB) l.length))))
  | _, _ => .fail
def lv41 : FuncId → Lv := fun f => match f with
  | 40 => { keep := fun _ => some [3, 8, 9, 10], ent := fun i => match i with | 3 => some e41 | _ => none }
  | _ => {}
theorem lv41_ok : LvOK Tryz.prog lv41 := by
  intro f fn body hf hb K x hx id e hid he t
  by_cases h : f = 40
  · subst h
    obtain rfl : fn = Tryz.f40 := (Option.some.inj (Tryz.func40.symm.trans hf)).symm
    have hbody : body = bodyOf Tryz.f40 := by unfold bodyOf; rw [hb]; rfl
    subst hbody
    have h1 : loopBodies (bodyOf Tryz.f40) = [(loopBodies (bodyOf Tryz.f40)).headD .skip] := by kernel_rfl
    rw [h1] at hx
    have hx' := List.mem_singleton.1 hx
    have h2 : id = 3 := by
      have h3 : headReg ((loopBodies (bodyOf Tryz.f40)).headD .skip) = some 3 := by kernel_rfl
      rw [hx', h3] at hid; exact (Option.some.inj hid).symm
    subst h2
    have he' : e41 = e := Option.some.inj he
    subst he'
    rw [hx']
    clear hx hx' hid he hb hf h1
    unfold e41
    split
    · rename_i n n1 n2 i rs l rm
      refine ⟨fun g1 => ⟨fun g2 => ⟨fun g3 => ?_, fun _ => trivial⟩, fun _ => trivial⟩, fun _ => trivial⟩
      obtain ⟨k1, k2, k3, k4, k5⟩ := of_decide_eq_true g3
      subst k1; subst k2; subst k3; subst k4
      rw [nonesV_eq _ _ g1, nonesB_eq _ _ g2]
      exact loop41 l k5
    · trivial
  · exfalso
    have : (lv41 f).ent id = none := by
      unfold lv41
      split
      · exact absurd rfl h
      · rfl
    rw [this] at he; cases he
def eGreat : Ent := fun args pre => match args, pre with
  | [.str l], [] => .chk (decide (l.length ≤ 1000000)) (.ret (.str (l.map upB)) [])
  | _, _ => .fail
theorem great_ok : EntOK Tryz.prog 40 eGreat := fun args pre => by
  unfold eGreat
  split
  · rename_i l
    have e : Comes tab0 lv41 40 [.str l] [] (.chk (decide (l.length = l.length ∧ l.length = l.length ∧ (l.length : Int) = (l.length : Int) ∧ (0 : Int) = 0 ∧ l.length ≤ 9223372036854775807)) (.br (decide (l.length ≤ (l.map upB).length)) (.ret (.str ((l.map upB).take l.length)) []) .fail)) := by unfold Comes; kernel_rfl
    refine of_run (ans_comes tab0_ok e lv41_ok) fun r h => ?_
    obtain ⟨h1, h⟩ := chk_run h
    have hl := of_decide_eq_true h1
    rw [← h]
    simp only [Ans.run, Ans.chk]
    rw [bcT (b := decide (_ ∧ _)) (by rw [decide_eq_true_eq]; refine ⟨?_, ?_, ?_, ?_, by omega⟩ <;> trivial), bcT (b := decide (l.length ≤ (l.map upB).length)) (decide_eq_true (by simp)), List.take_of_length_le (by simp)]
  · trivial
end Go.Proofs.YtanhlbdcjonaoaaGreatDoor

/- Layer 2, the document's own answers: letters, digits, great letters. -/
set_option linter.unusedVariables false
set_option linter.unusedSimpArgs false
namespace Go.Proofs.YtanhlbdcjonaoaaGreatDoor
open Go Sx

def eByte (f : Int → Bool) : Ent := fun args pre => match args, pre with
  | [.int .u8 c], [] => .ret (.bool (f c)) []
  | _, _ => .fail
theorem letterD_ok : EntOK Tryz.prog 39 (eByte letB) := fun args pre => by
  unfold eByte
  split
  · rename_i c
    have e : Comes tab0 nolv 39 [.int .u8 c] [] (.br (decide (c ≥ 65)) (.br (decide (c ≤ 90)) (.ret (.bool true) []) (.br (decide (c ≥ 97)) (.ret (.bool (decide (c ≤ 122))) []) (.ret (.bool false) [])))
      (.br (decide (c ≥ 97)) (.ret (.bool (decide (c ≤ 122))) []) (.ret (.bool false) []))) := by unfold Comes; kernel_rfl
    refine of_run (ans_comes tab0_ok e) fun x h => ?_
    rw [← h]
    simp only [Ans.run, letB]
    have key : ∀ b c : Bool, b = c → pure2 (.bool b) [] = pure2 (.bool c) [] := fun b c e => by rw [e]
    have rest : ¬ (65 ≤ c ∧ c ≤ 90) → bcond (decide (c ≥ 97)) (pure2 (.bool (decide (c ≤ 122))) []) (pure2 (.bool false) []) = pure2 (.bool (decide ((65 ≤ c ∧ c ≤ 90) ∨ (97 ≤ c ∧ c ≤ 122)))) [] := fun hn => by
      by_cases h3 : c ≥ 97
      · rw [bcT (b := decide (c ≥ 97)) (decide_eq_true h3)]; exact key _ _ (by rw [decide_eq_decide]; omega)
      · rw [bcF (b := decide (c ≥ 97)) (decide_eq_false h3)]; exact key _ _ (by symm; rw [decide_eq_false_iff_not]; omega)
    by_cases h1 : c ≥ 65
    · rw [bcT (b := decide (c ≥ 65)) (decide_eq_true h1)]
      by_cases h2 : c ≤ 90
      · rw [bcT (b := decide (c ≤ 90)) (decide_eq_true h2)]; exact key _ _ (by symm; rw [decide_eq_true_eq]; omega)
      · rw [bcF (b := decide (c ≤ 90)) (decide_eq_false h2)]; exact rest (by omega)
    · rw [bcF (b := decide (c ≥ 65)) (decide_eq_false h1)]; exact rest (by omega)
  · trivial
theorem digitD_ok : EntOK Tryz.prog 54 (eByte digB) := fun args pre => by
  unfold eByte
  split
  · rename_i c
    have e : Comes tab0 nolv 54 [.int .u8 c] [] (.br (decide (c ≥ 48)) (.ret (.bool (decide (c ≤ 57))) []) (.ret (.bool false) [])) := by unfold Comes; kernel_rfl
    refine of_run (ans_comes tab0_ok e) fun x h => ?_
    rw [← h]
    simp only [Ans.run, digB]
    have key : ∀ b c : Bool, b = c → pure2 (.bool b) [] = pure2 (.bool c) [] := fun b c e => by rw [e]
    by_cases h1 : c ≥ 48
    · rw [bcT (b := decide (c ≥ 48)) (decide_eq_true h1)]; exact key _ _ (by rw [decide_eq_decide]; omega)
    · rw [bcF (b := decide (c ≥ 48)) (decide_eq_false h1)]; exact key _ _ (by symm; rw [decide_eq_false_iff_not]; omega)
  · trivial
def tabLD : Tab := (39, eByte letB) :: (54, eByte digB) :: tab0
theorem tabLD_ok : TabOK Tryz.prog tabLD := .cons letterD_ok (.cons digitD_ok tab0_ok)

def uW (l : List UInt8) (p : Int) : Int := IntKind.u8.wrap (byteAt l (p.toNat * 1) - 32)
def uN (l : List UInt8) (n : Nat) (p : Int) : Option (Ex × PState) := some (.normal, stUp l n (IntKind.i64.wrap (p + 1)))
def inU (p n : Int) (l : List UInt8) (x : Option (Ex × PState)) : Option (Ex × PState) := bcond (decide (0 ≤ p ∧ p < n)) (bcond (decide (p.toNat * 1 < l.length)) x none) none
theorem roundUp (l : List UInt8) (n p : Nat) : code (ent (R := Ex × PState) Tryz.prog tab0 nolv 64 18446744073709551616 30) Tryz.prog {} 0 64 18446744073709551616 ((loopBodies (bodyOf Tryz.f41)).headD .skip) (stUp l n p) (endK 0 64 (fun n => hasN [3, 4] n) (fun n => hasN [3] n)) =
    bcond (decide ((p : Int) < (n : Int))) (inU p n l (bcond (decide (byteAt l ((p : Int).toNat * 1) ≥ 97))
      (inU p n l (bcond (decide (byteAt l ((p : Int).toNat * 1) ≤ 122))
        (inU p n l (bcond (decide (0 ≤ (p : Int) ∧ (p : Int) < (n : Int))) (bcond (decide ((p : Int).toNat * 1 < l.length) && decide (0 ≤ uW l p ∧ uW l p < 256)) (uN (l.set ((p : Int).toNat * 1) (toByte (uW l p))) n p) none) none))
        (uN l n p)))
      (uN l n p))) (some (.exit 0, finUp l n)) := by kernel_rfl
theorem inU_ok {p n : Nat} {l : List UInt8} {x : Option (Ex × PState)} (h1 : p < n) (h2 : p < l.length) : inU p n l x = x := by
  unfold inU
  rw [bcT (decide_eq_true (by omega)), bcT (decide_eq_true (by omega))]
theorem up_sub {x : UInt8} (h : 97 ≤ x.toNat ∧ x.toNat ≤ 122) : toByte (IntKind.u8.wrap ((x.toNat : Int) - 32)) = upB x ∧ (0 ≤ IntKind.u8.wrap ((x.toNat : Int) - 32) ∧ IntKind.u8.wrap ((x.toNat : Int) - 32) < 256) := by
  have e : IntKind.u8.wrap ((x.toNat : Int) - 32) = (x.toNat : Int) - 32 := u8_in (by omega) (by omega)
  rw [e]
  refine ⟨?_, by omega, by omega⟩
  unfold upB toByte
  rw [bcT (decide_eq_true h)]
  congr 1; omega
theorem loopUp (l : List UInt8) (hl : l.length ≤ 9223372036854775807) : Tri Tryz.prog (.loop ((loopBodies (bodyOf Tryz.f41)).headD .skip)) (stUp l l.length 0).toA (.exit 0) (finUp (l.map upB) l.length).toA 0 := by
  have h0 : l = grS l 0 := by unfold grS; simp
  have key := loop_rounds (ι := { p : Nat // p ≤ l.length }) (ent_sound (NF := 64) (m := 18446744073709551616) tab0_ok host nolv_ok 30) (x := (loopBodies (bodyOf Tryz.f41)).headD .skip) (K := 0) (lv := {}) (NF := 64) (m := 18446744073709551616) (fun x hx id e h1 h2 => by cases h2) (fun n => hasN [3, 4] n) (fun n => hasN [3] n) (fun p => stUp (grS l p.1) l.length (p.1 : Int)) (fun p => l.length - p.1) (fun p => (.exit 0, finUp (l.map upB) l.length)) ?_ (fun p => by simp) ⟨0, Nat.zero_le _⟩
  · simp only at key
    rw [← h0] at key
    exact key
  rintro ⟨p, hp⟩
  simp only
  rw [roundUp]
  by_cases hlt : p < l.length
  · have hlt' : p < (grS l p).length := by rw [gr_len hp]; exact hlt
    have hw : IntKind.i64.wrap ((p : Int) + 1) = ((p + 1 : Nat) : Int) := by rw [i64_in (by omega) (by omega)]; rfl
    have htl : ((l.take p).map upB).length = p := by simp; omega
    have hb : byteAt (grS l p) ((p : Int).toNat * 1) = (l[p].toNat : Int) := by rw [Nat.mul_one, Int.toNat_natCast, gr_at hlt]; exact byte_mid _ _ _ htl
    have hW : uW (grS l p) p = IntKind.u8.wrap ((l[p].toNat : Int) - 32) := by unfold uW; rw [hb]
    have hset : (grS l p).set ((p : Int).toNat * 1) (upB l[p]) = grS l (p + 1) := by rw [Nat.mul_one, Int.toNat_natCast, gr_at hlt, gr_next hlt, set_mid _ _ _ _ htl]
    unfold uN
    rw [hw, hb, hW, inU_ok hlt hlt', inU_ok hlt hlt', inU_ok hlt hlt', bcT (b := decide ((p : Int) < (l.length : Int))) (decide_eq_true (by omega))]
    refine .inl ⟨⟨p + 1, hlt⟩, by simp only; omega, trivial, ?_⟩
    by_cases h1 : 97 ≤ l[p].toNat
    · rw [bcT (b := decide ((l[p].toNat : Int) ≥ 97)) (decide_eq_true (by omega))]
      by_cases h2 : l[p].toNat ≤ 122
      · have hs := up_sub (x := l[p]) ⟨h1, h2⟩
        rw [bcT (b := decide ((l[p].toNat : Int) ≤ 122)) (decide_eq_true (by omega)), bcT (b := decide (0 ≤ (p : Int) ∧ _)) (by rw [decide_eq_true_eq]; omega), bcT (b := _ && _) (by rw [Nat.mul_one, Int.toNat_natCast, decide_eq_true hlt', decide_eq_true hs.2]; rfl), hs.1, hset]
      · have hu : upB l[p] = l[p] := by unfold upB; rw [bcF (decide_eq_false (by omega))]
        rw [bcF (b := decide ((l[p].toNat : Int) ≤ 122)) (decide_eq_false (by omega)), gr_next hlt, hu, gr_at hlt]
    · have hu : upB l[p] = l[p] := by unfold upB; rw [bcF (decide_eq_false (by omega))]
      rw [bcF (b := decide ((l[p].toNat : Int) ≥ 97)) (decide_eq_false (by omega)), gr_next hlt, hu, gr_at hlt]
  · right
    have : p = l.length := by omega
    subst this
    rw [bcF (b := decide _) (decide_eq_false (by omega))]
    have : grS l l.length = l.map upB := by unfold grS; simp
    rw [this]
def eUpL : Nat → PState → LAns := fun K t => match K, t with
  | 0, ⟨none :: none :: none :: some (.vec 0 n) :: some (.int .i64 i) :: rs, some (.vecB l 5) :: rm⟩ =>
    .chk (nonesV 30 rs) (.chk (nonesB 64 rm) (.chk (decide (n = l.length ∧ i = 0 ∧ l.length ≤ 9223372036854775807)) (.out (.exit 0) (finUp (l.map upB) l.length))))
  | _, _ => .fail
def lvUp : FuncId → Lv := fun f => match f with
  | 41 => { keep := fun _ => some [3, 4], ent := fun i => match i with | 3 => some eUpL | _ => none }
  | _ => {}
theorem lvUp_ok : LvOK Tryz.prog lvUp := by
  intro f fn body hf hb K x hx id e hid he t
  by_cases h : f = 41
  · subst h
    obtain rfl : fn = Tryz.f41 := (Option.some.inj (Tryz.func41.symm.trans hf)).symm
    have hbody : body = bodyOf Tryz.f41 := by unfold bodyOf; rw [hb]; rfl
    subst hbody
    have h1 : loopBodies (bodyOf Tryz.f41) = [(loopBodies (bodyOf Tryz.f41)).headD .skip] := by kernel_rfl
    rw [h1] at hx
    have hx' := List.mem_singleton.1 hx
    have h2 : id = 3 := by
      have h3 : headReg ((loopBodies (bodyOf Tryz.f41)).headD .skip) = some 3 := by kernel_rfl
      rw [hx', h3] at hid; exact (Option.some.inj hid).symm
    subst h2
    have he' : eUpL = e := Option.some.inj he
    subst he'
    rw [hx']
    clear hx hx' hid he hb hf h1
    unfold eUpL
    split
    · rename_i n i rs l rm
      refine ⟨fun g1 => ⟨fun g2 => ⟨fun g3 => ?_, fun _ => trivial⟩, fun _ => trivial⟩, fun _ => trivial⟩
      obtain ⟨k1, k2, k3⟩ := of_decide_eq_true g3
      subst k1; subst k2
      rw [nonesV_eq _ _ g1, nonesB_eq _ _ g2]
      exact loopUp l k3
    · trivial
  · exfalso
    have : (lvUp f).ent id = none := by
      unfold lvUp
      split
      · exact absurd rfl h
      · rfl
    rw [this] at he; cases he
theorem upperD_ok : EntOK Tryz.prog 41 eGreat := fun args pre => by
  unfold eGreat
  split
  · rename_i l
    have e : Comes tab0 lvUp 41 [.str l] [] (.chk (decide (l.length = l.length ∧ (0 : Int) = 0 ∧ l.length ≤ 9223372036854775807)) (.br (decide (l.length ≤ (l.map upB).length)) (.ret (.str ((l.map upB).take l.length)) []) .fail)) := by unfold Comes; kernel_rfl
    refine of_run (ans_comes tab0_ok e lvUp_ok) fun r h => ?_
    obtain ⟨h1, h⟩ := chk_run h
    have hl := of_decide_eq_true h1
    rw [← h]
    simp only [Ans.run, Ans.chk]
    rw [bcT (b := decide (_ ∧ _)) (by rw [decide_eq_true_eq]; refine ⟨?_, ?_, by omega⟩ <;> trivial), bcT (b := decide (l.length ≤ (l.map upB).length)) (decide_eq_true (by simp)), List.take_of_length_le (by simp)]
  · trivial
end Go.Proofs.YtanhlbdcjonaoaaGreatDoor

/- Layer 2, the document's own answers: plain names; names between apostrophes; what is ahead of a sign. -/
set_option linter.unusedVariables false
set_option linter.unusedSimpArgs false
namespace Go.Proofs.YtanhlbdcjonaoaaGreatDoor
open Go Sx

/-- May a byte stand in a plain name, at such a place? -/
def plOne (i : Nat) (c : UInt8) : Bool := letB c.toNat || c.toNat == 95 || (digB c.toNat && !(Nat.beq i 0))
def plR : Nat → List UInt8 → Bool
  | _, [] => true
  | i, c :: r => plOne i c && plR (i + 1) r
def ibP (l : List UInt8) (p : Int) (x : Option (Ex × PState)) : Option (Ex × PState) := bcond (decide (0 ≤ p ∧ p.toNat < l.length)) x none
theorem ibP_ok {l : List UInt8} {p : Nat} {x : Option (Ex × PState)} (h : p < l.length) : ibP l p x = x := by unfold ibP; rw [bcT (decide_eq_true (by omega))]
def finPl (l : List UInt8) : PState := ⟨some (.str l) :: List.replicate 38 none, List.replicate 64 none⟩
def finPf (l : List UInt8) : PState := ⟨some (.str l) :: none :: some (.bool false) :: List.replicate 36 none, List.replicate 64 none⟩
def nxPl (l : List UInt8) (p : Int) : Option (Ex × PState) := some (.normal, stPl l (IntKind.i64.wrap (p + 1)))
theorem roundPl (l : List UInt8) (p : Nat) : code (ent (R := Ex × PState) Tryz.prog tabLD nolv 64 18446744073709551616 30) Tryz.prog {} 0 64 18446744073709551616 ((loopBodies (bodyOf Tryz.f27)).headD .skip) (stPl l p) (endK 0 64 (fun n => hasN [0, 3] n) (fun n => hasN [0, 2] n)) =
    bcond (decide ((p : Int) < (l.length : Int))) (ibP l p (ibP l p (bcond (!letB (byteAt l (p : Int).toNat)) (ibP l p (bcond (byteAt l (p : Int).toNat != 95) (bcond (!digB (byteAt l (p : Int).toNat)) (some (.ret, finPf l)) (bcond ((p : Int) == 0) (some (.ret, finPf l)) (nxPl l p))) (nxPl l p))) (nxPl l p)))) (some (.exit 0, finPl l)) := by kernel_rfl
def resPl (l : List UInt8) (b : Bool) : Ex × PState := bcond b (.exit 0, finPl l) (.ret, finPf l)
theorem byte_get {l : List UInt8} {p : Nat} (h : p < l.length) : byteAt l p = (l[p].toNat : Int) := by unfold byteAt; simp [h]
theorem loopPl (l : List UInt8) (hl : l.length ≤ 9223372036854775807) : Tri Tryz.prog (.loop ((loopBodies (bodyOf Tryz.f27)).headD .skip)) (stPl l 0).toA (resPl l (plR 0 l)).1 (resPl l (plR 0 l)).2.toA 0 := by
  have key := loop_rounds (ι := { p : Nat // p ≤ l.length }) (ent_sound (NF := 64) (m := 18446744073709551616) tabLD_ok host nolv_ok 30) (x := (loopBodies (bodyOf Tryz.f27)).headD .skip) (K := 0) (lv := {}) (NF := 64) (m := 18446744073709551616) (fun x hx id e h1 h2 => by cases h2) (fun n => hasN [0, 3] n) (fun n => hasN [0, 2] n) (fun p => stPl l (p.1 : Int)) (fun p => l.length - p.1) (fun p => resPl l (plR p.1 (l.drop p.1))) ?_ (fun p => by
      simp only [resPl]; cases plR p.1 (l.drop p.1) <;> simp [bcond]) ⟨0, Nat.zero_le _⟩
  · exact key
  rintro ⟨p, hp⟩
  simp only
  rw [roundPl, Int.toNat_natCast]
  by_cases h : p < l.length
  · have hw : IntKind.i64.wrap ((p : Int) + 1) = ((p + 1 : Nat) : Int) := by rw [i64_in (by omega) (by omega)]; rfl
    rw [bcT (b := decide ((p : Int) < (l.length : Int))) (decide_eq_true (by omega)), ibP_ok h, ibP_ok h, ibP_ok h, byte_get h, List.drop_eq_getElem_cons h, plR]
    unfold nxPl
    rw [hw]
    have next : plOne p l[p] = true → (∃ j : { p : Nat // p ≤ l.length }, l.length - j.1 < l.length - p ∧ resPl l (plR j.1 (l.drop j.1)) = resPl l (plOne p l[p] && plR (p + 1) (l.drop (p + 1))) ∧ (some (Ex.normal, stPl l ((p + 1 : Nat) : Int)) : Option (Ex × PState)) = some (.normal, stPl l (j.1 : Int))) := fun e =>
      ⟨⟨p + 1, h⟩, by simp only; omega, by rw [e]; rfl, rfl⟩
    unfold plOne at next ⊢
    cases h1 : letB (l[p].toNat : Int) with
    | true =>
      have := next (by rw [h1]; rfl)
      rw [h1] at this
      rw [bcF (b := !true) rfl]; exact .inl this
    | false =>
      rw [h1] at next
      rw [bcT (b := !false) rfl]
      by_cases h2 : l[p].toNat = 95
      · rw [bcF (b := ((l[p].toNat : Int) != 95)) (by rw [h2]; rfl)]
        have hb : (l[p].toNat == 95) = true := beq_iff_eq.2 h2
        rw [hb] at next ⊢
        exact .inl (next rfl)
      · have hb : (l[p].toNat == 95) = false := beq_eq_false_iff_ne.2 h2
        rw [bcT (b := ((l[p].toNat : Int) != 95)) (by rw [bne_iff_ne]; omega)]
        rw [hb] at next ⊢
        cases h3 : digB (l[p].toNat : Int) with
        | false => rw [bcT (b := !false) rfl]; exact .inr rfl
        | true =>
          rw [h3] at next
          rw [bcF (b := !true) rfl]
          cases p with
          | zero => exact .inr rfl
          | succ p =>
            rw [bcF (b := (((p + 1 : Nat) : Int) == 0)) (beq_eq_false_iff_ne.2 (by omega))]
            exact .inl (next rfl)
  · right
    have : p = l.length := by omega
    subst this
    rw [bcF (b := decide _) (decide_eq_false (by omega)), List.drop_length]
    rfl
def ePlL : Nat → PState → LAns := fun K t => match K, t with
  | 0, ⟨some (.str l) :: none :: none :: some (.int .i64 i) :: rs, rm⟩ =>
    .chk (nonesV 35 rs) (.chk (nonesB 64 rm) (.chk (decide (i = 0 ∧ l.length ≤ 9223372036854775807)) (.br (plR 0 l) (.out (.exit 0) (finPl l)) (.out .ret (finPf l)))))
  | _, _ => .fail
def lvPl : FuncId → Lv := fun f => match f with
  | 27 => { keep := fun _ => some [0, 3], ent := fun i => match i with | 2 => some ePlL | _ => none }
  | _ => {}
theorem lvPl_ok : LvOK Tryz.prog lvPl := by
  intro f fn body hf hb K x hx id e hid he t
  by_cases h : f = 27
  · subst h
    obtain rfl : fn = Tryz.f27 := (Option.some.inj (Tryz.func27.symm.trans hf)).symm
    have hbody : body = bodyOf Tryz.f27 := by unfold bodyOf; rw [hb]; rfl
    subst hbody
    have h1 : loopBodies (bodyOf Tryz.f27) = [(loopBodies (bodyOf Tryz.f27)).headD .skip] := by kernel_rfl
    rw [h1] at hx
    have hx' := List.mem_singleton.1 hx
    have h2 : id = 2 := by
      have h3 : headReg ((loopBodies (bodyOf Tryz.f27)).headD .skip) = some 2 := by kernel_rfl
      rw [hx', h3] at hid; exact (Option.some.inj hid).symm
    subst h2
    have he' : ePlL = e := Option.some.inj he
    subst he'
    rw [hx']
    clear hx hx' hid he hb hf h1
    unfold ePlL
    split
    · rename_i l i rs rm
      refine ⟨fun g1 => ⟨fun g2 => ⟨fun g3 => ?_, fun _ => trivial⟩, fun _ => trivial⟩, fun _ => trivial⟩
      obtain ⟨k1, k2⟩ := of_decide_eq_true g3
      subst k1
      rw [nonesV_eq _ _ g1, nonesB_eq _ _ g2]
      have := loopPl l k2
      unfold resPl at this
      exact ⟨fun hc => by rw [bcT hc] at this; exact this, fun hc => by rw [bcF hc] at this; exact this⟩
    · trivial
  · exfalso
    have : (lvPl f).ent id = none := by
      unfold lvPl
      split
      · exact absurd rfl h
      · rfl
    rw [this] at he; cases he
def plD (l : List UInt8) : Bool := plR 0 l && !(l == [])
def ePlainD : Ent := fun args pre => match args, pre with
  | [.str l], [] => .chk (decide (l.length ≤ 1000000)) (.ret (.bool (plD l)) [])
  | _, _ => .fail
theorem plainD_ok : EntOK Tryz.prog 27 ePlainD := fun args pre => by
  unfold ePlainD
  split
  · rename_i l
    have e : Comes tabLD lvPl 27 [.str l] [] (.chk (decide ((0 : Int) = 0 ∧ l.length ≤ 9223372036854775807)) (.br (plR 0 l) (.ret (.bool (decide ((l.length : Int) > 0))) []) (.ret (.bool false) []))) := by unfold Comes; kernel_rfl
    refine of_run (ans_comes tabLD_ok e lvPl_ok) fun r h => ?_
    obtain ⟨h1, h⟩ := chk_run h
    have hl := of_decide_eq_true h1
    rw [← h]
    simp only [Ans.run, Ans.chk]
    rw [bcT (b := decide (_ ∧ _)) (by rw [decide_eq_true_eq]; refine ⟨?_, by omega⟩; trivial)]
    unfold plD
    cases plR 0 l with
    | false => rfl
    | true =>
      cases l with
      | nil => rfl
      | cons c r => rw [bcT rfl, decide_eq_true (by simp only [List.length_cons]; omega)]; rfl
  · trivial

/-! ### Names between apostrophes -/
/-- Behind the first apostrophe, from a place on: the name, and the place behind the last one; below 0: there is none. -/
def uqR : Nat → List UInt8 → Nat → List UInt8 → List UInt8 × Int
  | 0, _, _, _ => ([], -1)
  | f + 1, l, p, o => bcond (decide (p < l.length)) (bcond (!(l.getD p 0 == 39)) (uqR f l (p + 1) (o ++ [l.getD p 0]))
      (bcond (decide (p + 1 < l.length) && l.getD (p + 1) 0 == 39) (uqR f l (p + 2) (o ++ [39])) (o, ((p + 1 : Nat) : Int)))) ([], -1)
def pcU (l : List UInt8) (p : Int) : List UInt8 := List.take ((IntKind.i64.wrap (p + 1)).toNat - p.toNat) (List.drop p.toNat l)
def swA (p : Int) : Int := IntKind.i64.wrap (p + 1)
def finUr (l o : List UInt8) (z : Int) : PState := ⟨some (.str l) :: none :: some (.str o) :: some (.int .i64 z) :: List.replicate 46 none, List.replicate 64 none⟩
def finUx (l : List UInt8) : PState := ⟨some (.str l) :: List.replicate 49 none, List.replicate 64 none⟩
theorem roundUq (l o : List UInt8) (p : Nat) : code (ent (R := Ex × PState) Tryz.prog tab0 nolv 64 18446744073709551616 30) Tryz.prog {} 0 64 18446744073709551616 ((loopBodies (bodyOf Tryz.f63)).headD .skip) (stUq l o p) (endK 0 64 (fun n => hasN [0, 4, 5] n) (fun n => hasN [0, 2, 3] n)) =
    bcond (decide ((p : Int) < (l.length : Int))) (ibP l p (bcond (byteAt l (p : Int).toNat != 39)
      (bcond (decide (0 ≤ (p : Int) ∧ 0 ≤ swA p ∧ (p : Int).toNat ≤ (swA p).toNat ∧ (swA p).toNat ≤ l.length)) (bcond (decide (o.length + (pcU l p).length ≤ 9223372036854775807)) (some (.normal, stUq l (o ++ pcU l p) (swA p))) none) none)
      (bcond (decide (swA p < (l.length : Int))) (ibP l (swA p) (bcond (byteAt l (swA p).toNat == 39) (bcond (decide (o.length + [(39 : UInt8)].length ≤ 9223372036854775807)) (some (.normal, stUq l (o ++ [39]) (swA (swA p)))) none) (some (.ret, finUr l o (swA p))))) (some (.ret, finUr l o (swA p))))))
      (some (.exit 0, finUx l)) := by kernel_rfl
end Go.Proofs.YtanhlbdcjonaoaaGreatDoor

/- Layer 2, the document's own answers: names between apostrophes, and what is ahead of a sign: the loops. -/
set_option linter.unusedVariables false
set_option linter.unusedSimpArgs false
namespace Go.Proofs.YtanhlbdcjonaoaaGreatDoor
open Go Sx

def resUq (l : List UInt8) (r : List UInt8 × Int) : Ex × PState := bcond (decide (r.2 < 0)) (.exit 0, finUx l) (.ret, finUr l r.1 r.2)
theorem loopUq (l : List UInt8) (hl : l.length ≤ 1000000) : Tri Tryz.prog (.loop ((loopBodies (bodyOf Tryz.f63)).headD .skip)) (stUq l [] 1).toA (resUq l (uqR l.length l 1 [])).1 (resUq l (uqR l.length l 1 [])).2.toA 0 := by
  have key := loop_rounds (ι := { q : Nat × Nat × List UInt8 // l.length ≤ q.2.1 + q.1 ∧ q.2.2.length ≤ q.2.1 ∧ q.2.1 ≤ l.length + 1 }) (ent_sound (NF := 64) (m := 18446744073709551616) tab0_ok host nolv_ok 30) (x := (loopBodies (bodyOf Tryz.f63)).headD .skip) (K := 0) (lv := {}) (NF := 64) (m := 18446744073709551616) (fun x hx id e h1 h2 => by cases h2) (fun n => hasN [0, 4, 5] n) (fun n => hasN [0, 2, 3] n) (fun q => stUq l q.1.2.2 (q.1.2.1 : Int)) (fun q => l.length + 1 - q.1.2.1) (fun q => resUq l (uqR q.1.1 l q.1.2.1 q.1.2.2)) ?_ (fun q => by
      unfold resUq; cases decide ((uqR q.1.1 l q.1.2.1 q.1.2.2).2 < 0) <;> simp [bcond]) ⟨(l.length, 1, []), by show l.length ≤ 1 + l.length; omega, Nat.zero_le _, by show 1 ≤ l.length + 1; omega⟩
  · exact key
  rintro ⟨⟨n, p, o⟩, h1, h2, h3⟩
  simp only at h1 h2 h3 ⊢
  rw [roundUq]
  by_cases h : p < l.length
  · have hw : swA (p : Int) = ((p + 1 : Nat) : Int) := by unfold swA; rw [i64_in (by omega) (by omega)]; rfl
    have hw2 : swA (((p + 1 : Nat)) : Int) = ((p + 2 : Nat) : Int) := by unfold swA; rw [i64_in (by omega) (by omega)]; rfl
    have hpc : pcU l p = [l[p]] := by
      have : (IntKind.i64.wrap ((p : Int) + 1)) = ((p + 1 : Nat) : Int) := hw
      unfold pcU
      rw [this, Int.toNat_natCast, Int.toNat_natCast, show p + 1 - p = 1 by omega, List.drop_eq_getElem_cons h]; rfl
    have hg : l.getD p 0 = l[p] := by simp [List.getD_eq_getElem?_getD, List.getElem?_eq_getElem h]
    obtain ⟨n, rfl⟩ : ∃ k, n = k + 1 := ⟨n - 1, by omega⟩
    simp only [uqR]
    rw [bcT (b := decide ((p : Int) < (l.length : Int))) (decide_eq_true (by omega)), ibP_ok h, Int.toNat_natCast, byte_get h, bcT (b := decide (p < l.length)) (decide_eq_true h), hg, hw, hw2, hpc]
    by_cases hc : l[p] = 39
    · have e1 : ((l[p].toNat : Int) != 39) = false := by rw [hc]; rfl
      have e2 : (!(l[p] == 39)) = false := by rw [hc]; rfl
      rw [e1, bcF rfl, e2, bcF rfl]
      by_cases hp1 : p + 1 < l.length
      · have hg1 : l.getD (p + 1) 0 = l[p + 1] := by simp [List.getD_eq_getElem?_getD, List.getElem?_eq_getElem hp1]
        rw [bcT (b := decide (((p + 1 : Nat) : Int) < (l.length : Int))) (decide_eq_true (by omega)), ibP_ok hp1, Int.toNat_natCast, byte_get hp1, hg1, decide_eq_true hp1, Bool.true_and]
        by_cases hc1 : l[p + 1] = 39
        · have e3 : ((l[p + 1].toNat : Int) == 39) = true := by rw [hc1]; rfl
          have e4 : (l[p + 1] == 39) = true := by rw [hc1]; rfl
          rw [e3, bcT rfl, e4, bcT rfl, bcT (b := decide (o.length + _ ≤ _)) (decide_eq_true (by simp only [List.length_cons, List.length_nil]; omega))]
          exact .inl ⟨⟨(n, p + 2, o ++ [39]), by simp only; omega, by simp only [List.length_append, List.length_cons, List.length_nil]; omega, by simp only; omega⟩, by simp only; omega, rfl, rfl⟩
        · have e3 : ((l[p + 1].toNat : Int) == 39) = false := by
            rw [beq_eq_false_iff_ne]; intro e; apply hc1
            exact UInt8.toNat_inj.1 (by show _ = 39; omega)
          have e4 : (l[p + 1] == 39) = false := beq_eq_false_iff_ne.2 hc1
          rw [e3, bcF rfl, e4, bcF rfl]
          right
          unfold resUq
          rw [bcF (decide_eq_false (by simp only; omega))]
      · rw [bcF (b := decide (((p + 1 : Nat) : Int) < (l.length : Int))) (decide_eq_false (by omega)), decide_eq_false hp1, Bool.false_and, bcF rfl]
        right
        unfold resUq
        rw [bcF (decide_eq_false (by simp only; omega))]
    · have e1 : ((l[p].toNat : Int) != 39) = true := by
        rw [bne_iff_ne]; intro e; apply hc
        exact UInt8.toNat_inj.1 (by show _ = 39; omega)
      have e2 : (!(l[p] == 39)) = true := by rw [Bool.not_eq_true', beq_eq_false_iff_ne]; exact hc
      rw [e1, bcT rfl, e2, bcT rfl, bcT (b := decide (0 ≤ (p : Int) ∧ _)) (by rw [decide_eq_true_eq, Int.toNat_natCast]; omega), bcT (b := decide (o.length + _ ≤ _)) (decide_eq_true (by simp only [List.length_cons, List.length_nil]; omega))]
      exact .inl ⟨⟨(n, p + 1, o ++ [l[p]]), by simp only; omega, by simp only [List.length_append, List.length_cons, List.length_nil]; omega, by simp only; omega⟩, by simp only; omega, rfl, rfl⟩
  · right
    rw [bcF (b := decide ((p : Int) < (l.length : Int))) (decide_eq_false (by omega))]
    have : uqR n l p o = ([], -1) := by
      cases n with
      | zero => rfl
      | succ n => simp only [uqR]; rw [bcF (decide_eq_false h)]
    rw [this]; rfl
def eUqL : Nat → PState → LAns := fun K t => match K, t with
  | 0, ⟨some (.str l) :: none :: none :: none :: some (.str []) :: some (.int .i64 i) :: rs, rm⟩ =>
    .chk (nonesV 44 rs) (.chk (nonesB 64 rm) (.chk (decide (i = 1 ∧ l.length ≤ 1000000)) (.br (decide ((uqR l.length l 1 []).2 < 0)) (.out (.exit 0) (finUx l)) (.out .ret (finUr l (uqR l.length l 1 []).1 (uqR l.length l 1 []).2)))))
  | _, _ => .fail
def lvUq : FuncId → Lv := fun f => match f with
  | 63 => { keep := fun _ => some [0, 4, 5], ent := fun i => match i with | 5 => some eUqL | _ => none }
  | _ => {}
theorem lvUq_ok : LvOK Tryz.prog lvUq := by
  intro f fn body hf hb K x hx id e hid he t
  by_cases h : f = 63
  · subst h
    obtain rfl : fn = Tryz.f63 := (Option.some.inj (Tryz.func63.symm.trans hf)).symm
    have hbody : body = bodyOf Tryz.f63 := by unfold bodyOf; rw [hb]; rfl
    subst hbody
    have h1 : loopBodies (bodyOf Tryz.f63) = [(loopBodies (bodyOf Tryz.f63)).headD .skip] := by kernel_rfl
    rw [h1] at hx
    have hx' := List.mem_singleton.1 hx
    have h2 : id = 5 := by
      have h3 : headReg ((loopBodies (bodyOf Tryz.f63)).headD .skip) = some 5 := by kernel_rfl
      rw [hx', h3] at hid; exact (Option.some.inj hid).symm
    subst h2
    have he' : eUqL = e := Option.some.inj he
    subst he'
    rw [hx']
    clear hx hx' hid he hb hf h1
    unfold eUqL
    split
    · rename_i l i rs rm
      refine ⟨fun g1 => ⟨fun g2 => ⟨fun g3 => ?_, fun _ => trivial⟩, fun _ => trivial⟩, fun _ => trivial⟩
      obtain ⟨k1, k2⟩ := of_decide_eq_true g3
      subst k1
      rw [nonesV_eq _ _ g1, nonesB_eq _ _ g2]
      have := loopUq l k2
      unfold resUq at this
      exact ⟨fun hc => by rw [bcT hc] at this; exact this, fun hc => by rw [bcF hc] at this; exact this⟩
    · trivial
  · exfalso
    have : (lvUq f).ent id = none := by
      unfold lvUq
      split
      · exact absurd rfl h
      · rfl
    rw [this] at he; cases he

/-! ### Up to the sign -/
def skF : List UInt8 → Nat
  | [] => 0
  | c :: r => bcond (c == 33) 0 (skF r + 1)
theorem skF_le : ∀ l : List UInt8, skF l ≤ l.length
  | [] => Nat.le_refl _
  | c :: r => by
    have := skF_le r
    simp only [skF, List.length_cons]
    cases c == 33 <;> simp only [bcond] <;> omega
theorem roundSh (l : List UInt8) (p : Nat) : code (ent (R := Ex × PState) Tryz.prog tab0 nolv 64 18446744073709551616 30) Tryz.prog {} 0 64 18446744073709551616 ((loopBodies (bodyOf Tryz.f38)).headD .skip) (stSh l p) (endK 0 64 (fun n => hasN [0, 5] n) (fun n => hasN [0, 5] n)) =
    bcond (decide ((p : Int) < (l.length : Int))) (ibP l p (bcond (byteAt l (p : Int).toNat != 33) (some (.normal, stSh l (swA p))) (some (.exit 0, stSh l p)))) (some (.exit 0, stSh l p)) := by kernel_rfl
theorem loopSh (l : List UInt8) (hl : l.length ≤ 1000000) : Tri Tryz.prog (.loop ((loopBodies (bodyOf Tryz.f38)).headD .skip)) (stSh l 0).toA (.exit 0) (stSh l (skF l : Int)).toA 0 := by
  have key := loop_rounds (ι := { p : Nat // p + skF (l.drop p) = skF l ∧ p ≤ l.length }) (ent_sound (NF := 64) (m := 18446744073709551616) tab0_ok host nolv_ok 30) (x := (loopBodies (bodyOf Tryz.f38)).headD .skip) (K := 0) (lv := {}) (NF := 64) (m := 18446744073709551616) (fun x hx id e h1 h2 => by cases h2) (fun n => hasN [0, 5] n) (fun n => hasN [0, 5] n) (fun p => stSh l (p.1 : Int)) (fun p => l.length - p.1) (fun p => (.exit 0, stSh l (skF l : Int))) ?_ (fun p => by simp) ⟨0, by simp, Nat.zero_le _⟩
  · exact key
  rintro ⟨p, h1, h2⟩
  simp only at h1 h2 ⊢
  rw [roundSh]
  by_cases h : p < l.length
  · have hw : swA (p : Int) = ((p + 1 : Nat) : Int) := by unfold swA; rw [i64_in (by omega) (by omega)]; rfl
    rw [bcT (b := decide ((p : Int) < (l.length : Int))) (decide_eq_true (by omega)), ibP_ok h, Int.toNat_natCast, byte_get h, hw]
    rw [List.drop_eq_getElem_cons h, skF] at h1
    by_cases hc : l[p] = 33
    · have e1 : ((l[p].toNat : Int) != 33) = false := by rw [hc]; rfl
      have e2 : (l[p] == 33) = true := by rw [hc]; rfl
      rw [e2, bcT rfl] at h1
      rw [e1, bcF rfl, ← h1]
      exact .inr rfl
    · have e1 : ((l[p].toNat : Int) != 33) = true := by
        rw [bne_iff_ne]; intro e; apply hc
        exact UInt8.toNat_inj.1 (by show _ = 33; omega)
      have e2 : (l[p] == 33) = false := beq_eq_false_iff_ne.2 hc
      rw [e2, bcF rfl] at h1
      rw [e1, bcT rfl]
      exact .inl ⟨⟨p + 1, by omega, h⟩, by simp only; omega, trivial, rfl⟩
  · have : p = l.length := by omega
    subst this
    rw [List.drop_length] at h1
    rw [bcF (b := decide _) (decide_eq_false (by omega)), ← h1]
    exact .inr rfl
def eShL : Nat → PState → LAns := fun K t => match K, t with
  | 0, ⟨some (.str l) :: none :: none :: none :: none :: some (.int .i64 i) :: rs, rm⟩ =>
    .chk (nonesV 51 rs) (.chk (nonesB 64 rm) (.chk (decide (i = 0 ∧ l.length ≤ 1000000)) (.out (.exit 0) (stSh l (skF l : Int)))))
  | _, _ => .fail
def lvSh : FuncId → Lv := fun f => match f with
  | 38 => { keep := fun _ => some [0, 5], ent := fun i => match i with | 4 => some eShL | _ => none }
  | _ => {}
theorem lvSh_ok : LvOK Tryz.prog lvSh := by
  intro f fn body hf hb K x hx id e hid he t
  by_cases h : f = 38
  · subst h
    obtain rfl : fn = Tryz.f38 := (Option.some.inj (Tryz.func38.symm.trans hf)).symm
    have hbody : body = bodyOf Tryz.f38 := by unfold bodyOf; rw [hb]; rfl
    subst hbody
    have h1 : loopBodies (bodyOf Tryz.f38) = [(loopBodies (bodyOf Tryz.f38)).headD .skip] := by kernel_rfl
    rw [h1] at hx
    have hx' := List.mem_singleton.1 hx
    have h2 : id = 4 := by
      have h3 : headReg ((loopBodies (bodyOf Tryz.f38)).headD .skip) = some 4 := by kernel_rfl
      rw [hx', h3] at hid; exact (Option.some.inj hid).symm
    subst h2
    have he' : eShL = e := Option.some.inj he
    subst he'
    rw [hx']
    clear hx hx' hid he hb hf h1
    unfold eShL
    split
    · rename_i l i rs rm
      refine ⟨fun g1 => ⟨fun g2 => ⟨fun g3 => ?_, fun _ => trivial⟩, fun _ => trivial⟩, fun _ => trivial⟩
      obtain ⟨k1, k2⟩ := of_decide_eq_true g3
      subst k1
      rw [nonesV_eq _ _ g1, nonesB_eq _ _ g2]
      exact loopSh l k2
    · trivial
  · exfalso
    have : (lvSh f).ent id = none := by
      unfold lvSh
      split
      · exact absurd rfl h
      · rfl
    rw [this] at he; cases he
def eUO (U : List UInt8 → List UInt8 × Int) : Ent := fun args pre => match args, pre with
  | [.str l], [] => .chk (decide (l.length ≤ 1000000)) (.ret (.tuple [.str (U l).1, .int .i64 (U l).2]) [])
  | _, _ => .fail
def eBO (P : List UInt8 → Bool) : Ent := fun args pre => match args, pre with
  | [.str l], [] => .chk (decide (l.length ≤ 1000000)) (.ret (.bool (P l)) [])
  | _, _ => .fail
def tabSh (U : List UInt8 → List UInt8 × Int) (P N : List UInt8 → Bool) : Tab := (63, eUO U) :: (27, eBO P) :: (49, eBO N) :: tab0
end Go.Proofs.YtanhlbdcjonaoaaGreatDoor

/- Layer 2: what a text is, by the program's own test. -/
set_option linter.unusedVariables false
set_option linter.unusedSimpArgs false
namespace Go.Proofs.YtanhlbdcjonaoaaGreatDoor
open Go Sx

/-- No sign from p on is below 32, and none is 127. -/
def ctlB (l : List UInt8) : Nat → Nat → Bool
  | 0, _ => true
  | n + 1, p => bcond (decide (p < l.length)) (bcond (decide (((Utf8.decode ⟨l.toArray⟩ p).1 : Int) < 32)) false (bcond (((Utf8.decode ⟨l.toArray⟩ p).1 : Int) == 127) false (ctlB l n (p + (Utf8.decode ⟨l.toArray⟩ p).2)))) true

def st56 (u l : List UInt8) (p : Nat) : PState :=
  ⟨[some (.str u), none, some (.bool false), none, none, none, some (.ptr 0 0), none, none, none, none, none, none, none, none, none, none, none], some (.raw (.iter l p)) :: List.replicate 64 none⟩
def fin56 (u : List UInt8) : PState :=
  ⟨[some (.str u), none, some (.bool false), none, none, none, none, none, none, none, none, none, none, none, none, none, none, none], List.replicate 64 none⟩

theorem round56 (u l : List UInt8) (p : Nat) : code noH Tryz.prog {} 0 64 1 ((loopBodies (bodyOf Tryz.f67)).headD .skip) (st56 u l p) (endK 0 64 (fun n => hasN [0, 2, 6] n) (fun n => hasN [0, 2] n)) =
    bcond (decide (p < l.length)) (bcond (decide (((Utf8.decode ⟨l.toArray⟩ p).1 : Int) < 32)) (some (.ret, fin56 u)) (bcond (((Utf8.decode ⟨l.toArray⟩ p).1 : Int) == 127) (some (.ret, fin56 u)) (some (.normal, st56 u l (p + (Utf8.decode ⟨l.toArray⟩ p).2))))) (some (.exit 0, fin56 u)) := by kernel_rfl

theorem loop56 (u l : List UInt8) : Tri Tryz.prog (.loop ((loopBodies (bodyOf Tryz.f67)).headD .skip)) (st56 u l 0).toA (bcond (ctlB l l.length 0) (.exit 0) .ret) (fin56 u).toA 0 := by
  refine loop_rounds (ι := { q : Nat × Nat // l.length ≤ q.1 + q.2 }) noH_ok (lv := {}) (NF := 64) (m := 1) (fun x hx id e h1 h2 => by cases h2) (fun n => hasN [0, 2, 6] n) (fun n => hasN [0, 2] n) (fun q => st56 u l q.1.1) (fun q => q.1.2) (fun q => (bcond (ctlB l q.1.2 q.1.1) (.exit 0) .ret, fin56 u)) ?_ (fun q => by simp only; cases ctlB l q.1.2 q.1.1 <;> simp [bcond]) ⟨(0, l.length), by simp⟩
  rintro ⟨⟨p, n⟩, hq⟩
  simp only at hq ⊢
  rw [round56]
  cases n with
  | zero => exact .inr (by rw [bcF (by simp; omega)]; rfl)
  | succ n =>
    simp only [ctlB]
    by_cases h1 : p < l.length
    · have e1 : decide (p < l.length) = true := by simpa using h1
      rw [e1]
      cases e2 : decide (((Utf8.decode ⟨l.toArray⟩ p).1 : Int) < 32) with
      | true => exact .inr rfl
      | false =>
        cases e3 : (((Utf8.decode ⟨l.toArray⟩ p).1 : Int) == 127) with
        | true => exact .inr rfl
        | false =>
          have hd : 1 ≤ (Utf8.decode ⟨l.toArray⟩ p).2 := Lib.width_pos _ _
          exact .inl ⟨⟨(p + (Utf8.decode ⟨l.toArray⟩ p).2, n), by simp only; omega⟩, by simp, rfl, rfl⟩
    · have e1 : decide (p < l.length) = false := by simpa using h1
      rw [e1]; exact .inr rfl

def e56 : Nat → PState → LAns := fun K t => match K, t with
  | 0, ⟨[some (.str u), none, some (.bool false), none, none, none, some (.ptr 0 0), none, none, none, none, none, none, none, none, none, none, none], some (.raw (.iter l 0)) :: rest⟩ =>
    .chk (nonesB 64 rest) (.br (ctlB l l.length 0) (.out (.exit 0) (fin56 u)) (.out .ret (fin56 u)))
  | _, _ => .fail
def lv56 : FuncId → Lv := fun f => match f with
  | 67 => { keep := fun _ => some [0, 2, 6], ent := fun i => match i with | 2 => some e56 | _ => none }
  | _ => {}
theorem lv56_ok : LvOK Tryz.prog lv56 := by
  intro f fn body hf hb K x hx id e hid he t
  by_cases h : f = 67
  · subst h
    obtain rfl : fn = Tryz.f67 := (Option.some.inj (Tryz.func67.symm.trans hf)).symm
    have hbody : body = bodyOf Tryz.f67 := by unfold bodyOf; rw [hb]; rfl
    subst hbody
    have h1 : loopBodies (bodyOf Tryz.f67) = [(loopBodies (bodyOf Tryz.f67)).headD .skip] := by kernel_rfl
    rw [h1] at hx
    have hx' := List.mem_singleton.1 hx
    have h2 : id = 2 := by
      have h3 : headReg ((loopBodies (bodyOf Tryz.f67)).headD .skip) = some 2 := by kernel_rfl
      rw [hx', h3] at hid; exact (Option.some.inj hid).symm
    subst h2
    have he' : e56 = e := Option.some.inj he
    subst he'
    rw [hx']
    clear hx hx' hid he hb hf h1
    unfold e56
    split
    · rename_i u l rest
      refine ⟨fun hn => ?_, fun _ => trivial⟩
      rw [nonesB_eq _ _ hn]
      have := loop56 u l
      refine ⟨fun hc => ?_, fun hc => ?_⟩
      · rw [bcT hc] at this; exact this
      · rw [bcF hc] at this; exact this
    · trivial
  · exfalso
    have : (lv56 f).ent id = none := by
      unfold lv56
      split
      · exact absurd rfl h
      · rfl
    rw [this] at he; cases he

def textB (l : List UInt8) : Bool := ctlB l l.length 0 && Lib.validD l
def eIsText : Ent := fun args pre => match args, pre with
  | [.str l], [] => .chk (decide (l.length ≤ 9223372036854775807)) (.ret (.bool (textB l)) [])
  | _, _ => .fail
def tab4 : Tab := (78, eValid) :: tab1
theorem tab4_ok : TabOK Tryz.prog tab4 := .cons valid_ok tab1_ok
theorem isText_ok : EntOK Tryz.prog 67 eIsText := fun args pre => by
  unfold eIsText
  split
  · rename_i l
    have e : Comes tab4 lv56 67 [.str l] [] (.br (ctlB l l.length 0) (.chk (decide (l.length ≤ 9223372036854775807)) (.ret (.bool (Lib.validD l)) [])) (.ret (.bool false) [])) := by unfold Comes; kernel_rfl
    refine of_run (ans_comes tab4_ok e lv56_ok) fun r h => ?_
    obtain ⟨h1, h⟩ := chk_run h
    rw [← h]
    simp only [Ans.run, Ans.chk, h1, textB]
    cases ctlB l l.length 0 with
    | true => rfl
    | false => rfl
  · trivial

end Go.Proofs.YtanhlbdcjonaoaaGreatDoor

/- Layer 2: sheets' names, by the program; the first sign of a text, by the document's own answer. -/
set_option linter.unusedVariables false
set_option linter.unusedSimpArgs false
namespace Go.Proofs.YtanhlbdcjonaoaaGreatDoor
open Go Sx

def tab5 : Tab := (67, eIsText) :: tab4
theorem tab5_ok : TabOK Tryz.prog tab5 := .cons isText_ok tab4_ok
/-- May a text be a sheet's name? -/
def sheetB (l : List UInt8) : Bool := !(l == []) && decide (l.length ≤ 30) && textB l
def eIsSheetP : Ent := fun args pre => match args, pre with
  | [.str l], [] => .ret (.bool (sheetB l)) []
  | _, _ => .fail
theorem isSheetP_ok : EntOK Tryz.prog 48 eIsSheetP := fun args pre => by
  unfold eIsSheetP
  split
  · rename_i l
    have e : Comes tab5 nolv 48 [.str l] [] (.br (!(l == [])) (.br (decide ((l.length : Int) ≤ 30)) (.chk (decide (l.length ≤ 9223372036854775807)) (.ret (.bool (textB l)) [])) (.ret (.bool false) [])) (.ret (.bool false) [])) := by unfold Comes; kernel_rfl
    refine of_run (ans_comes tab5_ok e) fun r h => ?_
    rw [← h]
    simp only [Ans.run, Ans.chk, sheetB]
    cases h1 : !(l == [])
    · rfl
    · by_cases h2 : l.length ≤ 30
      · rw [bcT rfl, bcT (by simpa using (by omega : (l.length : Int) ≤ 30)), bcT (by simpa using (by omega : l.length ≤ 9223372036854775807))]
        simp [h2]
      · rw [bcT rfl, bcF (by simpa using (by omega : ¬ (l.length : Int) ≤ 30))]
        simp [h2]
  · trivial

def sizeN (b : Nat) : Nat := if b < 194 then 0 else if b < 224 then 2 else if b < 240 then 3 else if b < 245 then 4 else 0
def loN (b : Nat) : Nat := if b = 224 then 160 else if b = 240 then 144 else 128
def hiN (b : Nat) : Nat := if b = 237 then 159 else if b = 244 then 143 else 191
def no0 : Ans := .ret (.int .i64 0) []
def signAns (b : Nat) (l : List UInt8) : Ans :=
  if b < 128 then .ret (.int .i64 1) [] else
  if sizeN b = 0 then no0 else
  .br (decide ((l.length : Int) < (sizeN b : Int))) no0
    (.chk (decide (0 ≤ (1 : Int) ∧ Int.toNat 1 < l.length)) (.br (decide (IntKind.i64.wrap (byteAt l (Int.toNat 1)) < (loN b : Int))) no0
      (.chk (decide (0 ≤ (1 : Int) ∧ Int.toNat 1 < l.length)) (.br (decide (IntKind.i64.wrap (byteAt l (Int.toNat 1)) > (hiN b : Int))) no0
        (if sizeN b = 2 then .ret (.int .i64 2) [] else
          .chk (decide (0 ≤ (2 : Int) ∧ Int.toNat 2 < l.length)) (.br (decide (byteAt l (Int.toNat 2) < 128)) no0
            (.chk (decide (0 ≤ (2 : Int) ∧ Int.toNat 2 < l.length)) (.br (decide (byteAt l (Int.toNat 2) > 191)) no0
              (if sizeN b = 3 then .ret (.int .i64 3) [] else
                .chk (decide (0 ≤ IntKind.i64.wrap (2 + 1) ∧ (IntKind.i64.wrap (2 + 1)).toNat < l.length)) (.br (decide (byteAt l (IntKind.i64.wrap (2 + 1)).toNat < 128)) no0
                  (.chk (decide (0 ≤ IntKind.i64.wrap (2 + 1) ∧ (IntKind.i64.wrap (2 + 1)).toNat < l.length)) (.br (decide (byteAt l (IntKind.i64.wrap (2 + 1)).toNat > 191)) no0
                    (.ret (.int .i64 4) [])))))))))))))

end Go.Proofs.YtanhlbdcjonaoaaGreatDoor
