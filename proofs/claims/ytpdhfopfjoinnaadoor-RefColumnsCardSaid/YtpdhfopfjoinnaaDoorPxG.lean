/- The evaluator, part G: functions without a text of Go. -/
import Derived.Test.YtpdhfopfjoinnaaDoorPxF
import Derived.Test.YtpdhfopfjoinnaaDoorSxX
import Derived.Lib.Bytealg
import Derived.Lib.MakeNoZero
set_option linter.unusedVariables false
set_option linter.unusedSimpArgs false
namespace Go.Proofs.YtpdhfopfjoinnaaDoor.Sx
open Go
variable {P : Program}

theorem TabOK.nil : TabOK P [] := fun f e h => by simp at h
theorem TabOK.cons {T : Tab} {f : FuncId} {e : Ent} (h : EntOK P f e) (k : TabOK P T) : TabOK P ((f, e) :: T) := fun g e' hg => by
  rw [List.lookup_cons] at hg
  split at hg
  · rename_i hb
    have := beq_iff_eq.1 hb
    subst this
    cases hg; exact h
  · exact k g e' hg

/-- abi.NoEscape: the pointer as it is. -/
def eSame : Ent := fun args pre => match args with | [v] => .ret v pre | _ => .fail
theorem eSame_ok {f : FuncId} {fn : Func} (hf : P.funcs[f]? = some fn) (h1 : (fn.name == "runtime.NumGoroutine") = false) (h2 : fn.body.isNone = true) (h3 : Extern.findNext fn = none) (h4 : Extern.find fn = some Extern.AbiNoEscape.same) : EntOK P f eSame := by
  intro args pre
  unfold eSame
  split
  · intro w E vs hvs hp
    obtain ⟨x, zs, hx, hz, rfl⟩ := denL_cons.1 hvs
    simp only [denL, Option.some.injEq] at hz
    subst hz
    refine .inr ⟨x, w, ?_, E, x, rfl, hx, PostR.same hp⟩
    rw [run_callFunc_extern hf h1 h2 h3 (e := Extern.AbiNoEscape.same) h4]
    rfl
  · trivial

/-- bytealg.IndexByteString: where a byte stands first. -/
def eIndexByte : Ent := fun args pre => match args with
  | [.str s, .int .u8 c] => .ret (.int .i64 (Lib.indexByte s c.toNat.toUInt8)) pre
  | _ => .fail
theorem eIndexByte_ok {f : FuncId} {fn : Func} (hf : P.funcs[f]? = some fn) (h1 : (fn.name == "runtime.NumGoroutine") = false) (h2 : fn.body.isNone = true) (h3 : Extern.findNext fn = none) (h4 : Extern.find fn = some Extern.BytealgIndexByte.indexByte) : EntOK P f eIndexByte := by
  intro args pre
  unfold eIndexByte
  split
  · rename_i s c
    intro w E vs hvs hp
    obtain ⟨x, zs, hx, hz, rfl⟩ := denL_cons.1 hvs
    obtain ⟨y, us, hy, hu, rfl⟩ := denL_cons.1 hz
    simp only [denL, Option.some.injEq] at hu
    subst hu
    have hx : x = .string ⟨s.toArray⟩ := by simpa [den] using hx.symm
    have hy : y = .int .u8 c := by simpa [den] using hy.symm
    subst hx; subst hy
    refine .inr ⟨_, w, ?_, E, _, rfl, rfl, PostR.same hp⟩
    rw [run_callFunc_extern hf h1 h2 h3 (e := Extern.BytealgIndexByte.indexByte) h4]
    rw [Lib.run_indexByteString]; rfl
  · trivial

/-- bytealg.CountString: how often a byte is there. -/
def eCount : Ent := fun args pre => match args with
  | [.str s, .int .u8 c] => .ret (.int .i64 (Lib.countByte s c.toNat.toUInt8)) pre
  | _ => .fail
theorem eCount_ok {f : FuncId} {fn : Func} (hf : P.funcs[f]? = some fn) (h1 : (fn.name == "runtime.NumGoroutine") = false) (h2 : fn.body.isNone = true) (h3 : Extern.findNext fn = none) (h4 : Extern.find fn = some Extern.BytealgCount.count) : EntOK P f eCount := by
  intro args pre
  unfold eCount
  split
  · rename_i s c
    intro w E vs hvs hp
    obtain ⟨x, zs, hx, hz, rfl⟩ := denL_cons.1 hvs
    obtain ⟨y, us, hy, hu, rfl⟩ := denL_cons.1 hz
    simp only [denL, Option.some.injEq] at hu
    subst hu
    have hx : x = .string ⟨s.toArray⟩ := by simpa [den] using hx.symm
    have hy : y = .int .u8 c := by simpa [den] using hy.symm
    subst hx; subst hy
    refine .inr ⟨_, w, ?_, E, _, rfl, rfl, PostR.same hp⟩
    rw [run_callFunc_extern hf h1 h2 h3 (e := Extern.BytealgCount.count) h4]
    rw [Lib.run_countString]; rfl
  · trivial

/-- bytealg.MakeNoZero: a new row of bytes, whatever they are. -/
def eMake (e : TypeId) : Ent := fun args pre => match args, pre with
  | [.int .i64 n], [] => .chk (decide (0 ≤ n ∧ n ≤ 281474976710656)) (.ret (.vec 0 n.toNat) [.vecB [] e])
  | _, _ => .fail
theorem eMake_ok {f : FuncId} {fn : Func} {t e : TypeId} (hf : P.funcs[f]? = some fn) (h1 : (fn.name == "runtime.NumGoroutine") = false) (h2 : fn.body.isNone = true) (h3 : Extern.findNext fn = none) (h4 : Extern.find fn = some (Extern.BytealgMakeNoZero.makeNoZero fn.params #[t])) (ht : P.underlying t = some (.slice e)) : EntOK P f (eMake e) := by
  intro args pre
  unfold eMake
  split
  · rename_i n
    refine ⟨fun hb => ?_, fun _ => trivial⟩
    · have hb := of_decide_eq_true hb
      intro w E vs hvs hp
      obtain ⟨x, zs, hx, hz, rfl⟩ := denL_cons.1 hvs
      simp only [denL, Option.some.injEq] at hz
      subst hz
      have hx : x = .int .i64 (n.toNat : Nat) := by
        have : x = .int .i64 n := by simpa [den] using hx.symm
        rw [this]; congr 1; omega
      subst hx
      obtain ⟨cs, hrun, hle, _⟩ := Lib.run_makeNoZero (P := P) w fn.params t e ht n.toNat (by omega)
      have hE : ∀ m, E m = none := fun m => hp.fresh m (Nat.zero_le _)
      refine .inr ⟨.slice (some ⟨w.heap.size, 0, none⟩) n.toNat cs.size, w.drew.drew.alloc (.cells cs e), ?_, E.set 0 (w.heap.size, { n := cs.size }), _, rfl, by simp [den, Env.set_same]; omega, ?_⟩
      · rw [run_callFunc_extern hf h1 h2 h3 (e := Extern.BytealgMakeNoZero.makeNoZero fn.params #[t]) h4, hrun]; rfl
      · have hold : ∀ j : Nat, j < w.heap.size → (w.drew.drew.alloc (.cells cs e)).heap[j]? = w.heap[j]? := fun j hj => by
          show (w.heap.push (.cells cs e))[j]? = _
          rw [Array.getElem?_push, if_neg (by omega)]
        have hnew : (w.drew.drew.alloc (.cells cs e)).heap[w.heap.size]? = some (.cells cs e) := by
          show (w.heap.push (.cells cs e))[w.heap.size]? = _
          simp
        exact {
          le := .set (hE 0)
          cut := fun m hm => by rw [Env.set_other _ _ (by simp at hm; omega)]; exact hE m
          objs := fun m o hm => by
            cases m with
            | succ m => simp at hm
            | zero =>
              simp at hm; subst hm
              exact ⟨_, _, Env.set_same _ _ _, [], cs.toList, ⟨rfl, rfl⟩, ⟨(0, 0), by rw [hnew]; simp, .inl rfl⟩, by simp, rfl, rfl⟩
          made := fun m b c o _ hm hEm ht' => by
            cases m with
            | succ m => simp at hm
            | zero =>
              rw [Env.set_same] at hEm; cases hEm; exact .inl (Nat.le_refl _)
          keep := fun j hj _ => hold j hj
          newApart := fun m m' o o' b c b' c' _ _ hm hm' _ _ _ _ hne => by
            cases m with
            | succ m => simp at hm
            | zero => cases m' with
              | succ m' => simp at hm'
              | zero => exact absurd rfl hne
          grow := by show w.heap.size ≤ (w.heap.push (.cells cs e)).size; simp
          os := rfl, tape := rfl, output := rfl }
  · trivial

end Go.Proofs.YtpdhfopfjoinnaaDoor.Sx
