/- The symbolic executor, part K: every operation but a call of a function is sound: all together. -/
import Derived.Test.YtpdhfopfjoinnaaDoorSxJ
set_option linter.unusedSimpArgs false
set_option linter.unusedVariables false
namespace Go.Proofs.YtpdhfopfjoinnaaDoor.Sx
open Go

variable {P : Program} {E : Env} {w : World}

theorem den2 {a b : AV} {x y : Value} (h : denL E [a, b] = some [x, y]) : den E a = some x ∧ den E b = some y := by
  obtain ⟨h1, h2⟩ := denL_split h; exact ⟨h1, den1 h2⟩

theorem boundA_len {d : Nat} {lo : Option Operand} {vs rest : List AV} {ob : List Prop} {n : Nat} (h : boundA d lo vs = some (ob, n, rest)) : vs.length = lo.toArray.size + rest.length := by
  unfold boundA at h
  split at h
  · cases h; simp
  · cases h; simp; omega
  · cases h

theorem sliceBounds_nil {isSlice : Bool} {len cap : Nat} {lo hi mx : Option Value} : True := trivial

theorem good_sliceE {o : Oper} {ρ : Operand → Value} {t : TypeId} {p : Operand} {lo hi mx : Option Operand} {x : AV} {vs : List AV} {h : Hint} {cs : List AObj} {F : Foot} {r : Res} (ho : o.op = .slice t p lo hi mx)
    (hx : den E x = some (ρ p)) (hv : denL E vs = some ((lo.toArray ++ hi.toArray ++ mx.toArray).toList.map ρ)) (hf : foot h (.slice t p lo hi mx) (x :: vs) = some F) (hp : Pre E w F cs) (hm : mx.isSome → hi.isSome)
    (hr : sliceA P h t lo hi mx x vs cs = some r) (kk : AllP r.obl) : Good E w F r.upd r.new r.val ((execOp ρ o).run P w) := by
  have hrun : (execOp ρ o).run P w = ((Instr.sliceAt t (ρ p) (lo.map ρ) (hi.map ρ) (mx.map ρ)).run P w).andThen fun v w' => .ok (.value v) w' := by
    simp only [execOp, ho, Sem.run_bind]; rfl
  rw [hrun]
  unfold sliceA at hr
  split at hr
  · rename_i n e nm off hu
    simp only [foot, Option.some.injEq] at hf
    split at hr
    · cases hr
    rename_i hi'
    obtain ⟨ie, hi'⟩ := Option.ne_none_iff_exists'.1 (by simpa using hi')
    split at hr
    · rename_i ob l u m hb
      cases hr
      obtain ⟨b, c, hb', hpx⟩ := ptr_den hx
      refine good_fin (x := .slice (some ⟨b, if m = l then off else off + l * P.cellsOf e, none⟩) (u - l) (m - l)) (by rw [← hf]; rfl) (by rw [← hf]; rfl) kk fun hob => ⟨?_, by simp [den, hb']⟩
      obtain ⟨hs, _⟩ := boundsA_run (P := P) (w := w) (isSlice := false) hb hv hob hm
      simp only [Instr.sliceAt, Sem.run_bind, run_underlying' hu, Result.andThen_ok, hpx, Instr.sureAddr, Sem.run_pure, hs, run_sizeOf' hi', ite_addr]
    · cases hr
  · rename_i s hu
    simp only [foot, Option.some.injEq] at hf
    split at hr
    · rename_i ob l u m hb
      split at hr
      · rename_i hmx
        cases hr
        have hpx : ρ p = .string ⟨s.toArray⟩ := by simpa [den] using hx.symm
        refine good_fin (x := .string ⟨((s.drop l).take (u - l)).toArray⟩) (by rw [← hf]; rfl) (by rw [← hf]; rfl) kk fun hob => ⟨?_, rfl⟩
        obtain ⟨hs, _⟩ := boundsA_run (P := P) (w := w) (isSlice := false) hb hv hob hm
        have hmx' : mx = none := by simpa using hmx
        subst hmx'
        have hsz : (ByteArray.mk s.toArray).size = s.length := rfl
        simp only [Option.map_none] at hs
        simp only [Instr.sliceAt, Instr.slice, Sem.run_bind, run_underlying' hu, Result.andThen_ok, hpx, Option.map_none, Option.isSome_none, Bool.false_eq_true, if_false, hsz, hs, take_extract, Sem.run_pure]
      · cases hr
    · cases hr
  · rename_i e nm off len cap hu
    simp only [foot, Option.some.injEq] at hf
    split at hr
    · cases hr
    rename_i hi'
    obtain ⟨ie, hi'⟩ := Option.ne_none_iff_exists'.1 (by simpa using hi')
    split at hr
    · rename_i ob l u m hb
      cases hr
      obtain ⟨b, c, hb', hpx⟩ := slice_den hx
      refine good_fin (x := .slice (some ⟨b, if m = l then off else off + l * P.cellsOf e, none⟩) (u - l) (m - l)) (by rw [← hf]; rfl) (by rw [← hf]; rfl) kk fun hob => ⟨?_, by simp [den, hb']⟩
      obtain ⟨hs, _⟩ := boundsA_run (P := P) (w := w) (isSlice := true) hb hv hob hm
      simp only [Instr.sliceAt, Instr.slice, Sem.run_bind, run_underlying' hu, Result.andThen_ok, hpx, Sem.run_pure, hs, run_sizeOf' hi', Option.map_some]
      rw [← ite_addr]
      split <;> rfl
    · cases hr
  · rename_i e nm len ob hu
    simp only [foot, Option.some.injEq] at hf
    split at hr
    · cases hr
    rename_i hi'
    obtain ⟨ie, hi'⟩ := Option.ne_none_iff_exists'.1 (by simpa using hi')
    split at hr
    · rename_i c te sz
      split at hr
      · cases hr
      rename_i hsz
      have hsz : sz = P.cellsOf e := by simpa using hsz
      subst hsz
      split at hr
      · rename_i oo u hb
        obtain ⟨b, cc, hb', hpx⟩ := vec_den hx
        have key : AllP oo → 0 < P.cellsOf e → u * P.cellsOf e ≤ c.length → Good E w F r.upd [] (.vec nm u) (((Instr.sliceAt t (ρ p) ((none : Option Operand).map ρ) (hi.map ρ) ((none : Option Operand).map ρ)).run P w).andThen fun v w' => .ok (.value v) w') := by
          intro hoo hpos hle
          obtain ⟨b', c', hb2, hobj⟩ := hp.objs 0 nm _ (by rw [← hf]; rfl) rfl
          rw [hb'] at hb2; cases hb2
          have hu' : u ≤ cc.n := by
            obtain ⟨xs, ys, hx', _, hl, _⟩ := hobj
            have := denC_length hx'
            have h2 : u * P.cellsOf e ≤ cc.n * P.cellsOf e := by rw [← hl, List.length_append]; omega
            exact Nat.le_of_mul_le_mul_right h2 hpos
          have hb1 : boundsA len cc.n none hi none vs = some (oo ++ [0 ≤ u, u ≤ cc.n, cc.n ≤ cc.n], 0, u, cc.n) := by
            unfold boundsA
            simp only [show ∀ d v, boundA d none v = some ([], d, v) from fun _ _ => rfl, hb, List.nil_append, List.append_nil]
          obtain ⟨hs, _⟩ := boundsA_run (P := P) (w := w) (isSlice := true) (ρ := ρ) hb1 (by simpa using hv) (allP_append.2 ⟨hoo, Nat.zero_le _, hu', Nat.le_refl _, trivial⟩) (by simp)
          refine Good.pure (by rw [← hf]; rfl) (by rw [← hf]) (x := .slice (some ⟨b, 0, none⟩) u cc.n) ?_ (by have hcap := vec_cap hx hb'; simp only [den, hb', Option.bind_some]; rw [if_pos ⟨hcap.1, hcap.2.1, hu'⟩])
          simp only [Option.map_none] at hs
          simp only [Instr.sliceAt, Instr.slice, Sem.run_bind, run_underlying' hu, Result.andThen_ok, hpx, Sem.run_pure, Option.map_none, hs, run_sizeOf' hi', Option.map_some]
          congr 2
          simp [Addr.add_none]
        split at hr
        · rename_i v' hv'
          cases hr
          obtain ⟨k1, k2⟩ := allP_append.1 kk
          obtain ⟨k2, k3, k4, _⟩ := k2
          have k4 : AV.vec nm u = v' := k4
          simp only [← k4]
          exact key k1 k2 k3
        · cases hr
          obtain ⟨k1, k2⟩ := allP_append.1 kk
          obtain ⟨k2, k3, _⟩ := k2
          exact key k1 k2 k3
      · cases hr
    · cases hr
  · rename_i e nm len hu
    simp only [foot, Option.some.injEq] at hf
    split at hr
    · cases hr
    rename_i hi'
    obtain ⟨ie, hi'⟩ := Option.ne_none_iff_exists'.1 (by simpa using hi')
    split at hr
    · split at hr
      · rename_i oo u hb
        cases hr
        obtain ⟨b, cc, hb', hx'⟩ := dsl_den hx
        rcases hx' with ⟨hz, h0, hpx⟩ | ⟨hz, hle, hpx⟩
        · subst h0
          refine good_fin (x := .slice none 0 0) (by rw [← hf]; rfl) (by rw [← hf]; rfl) kk fun hob => ?_
          obtain ⟨hoo, hu0, _⟩ := allP_append.1 hob
          have hu0 : u = 0 := by have : u ≤ 0 := hu0; omega
          subst hu0
          refine ⟨?_, by simp [den, hb', hz]⟩
          have hb1 : boundsA 0 0 none hi none vs = some (oo ++ [0 ≤ 0, 0 ≤ 0, 0 ≤ 0], 0, 0, 0) := by
            unfold boundsA
            simp only [show ∀ d v, boundA d none v = some ([], d, v) from fun _ _ => rfl, hb, List.nil_append, List.append_nil]
          obtain ⟨hs, _⟩ := boundsA_run (P := P) (w := w) (isSlice := true) (ρ := ρ) hb1 (by simpa using hv) (allP_append.2 ⟨hoo, Nat.zero_le _, Nat.le_refl _, Nat.le_refl _, trivial⟩) (by simp)
          simp only [Option.map_none] at hs
          simp only [Instr.sliceAt, Instr.slice, Sem.run_bind, run_underlying' hu, Result.andThen_ok, hpx, Sem.run_pure, Option.map_none, hs, run_sizeOf' hi']
          simp
        · refine good_fin (x := .slice (some ⟨b, cc.o, none⟩) u cc.n) (by rw [← hf]; rfl) (by rw [← hf]; rfl) kk fun hob => ?_
          obtain ⟨hoo, hu0, _⟩ := allP_append.1 hob
          have hu0 : u ≤ len := hu0
          refine ⟨?_, by simp [den, hb', hz, show u ≤ cc.n by omega]⟩
          have hb1 : boundsA len cc.n none hi none vs = some (oo ++ [0 ≤ u, u ≤ cc.n, cc.n ≤ cc.n], 0, u, cc.n) := by
            unfold boundsA
            simp only [show ∀ d v, boundA d none v = some ([], d, v) from fun _ _ => rfl, hb, List.nil_append, List.append_nil]
          obtain ⟨hs, _⟩ := boundsA_run (P := P) (w := w) (isSlice := true) (ρ := ρ) hb1 (by simpa using hv) (allP_append.2 ⟨hoo, Nat.zero_le _, by omega, Nat.le_refl _, trivial⟩) (by simp)
          simp only [Option.map_none] at hs
          simp only [Instr.sliceAt, Instr.slice, Sem.run_bind, run_underlying' hu, Result.andThen_ok, hpx, Sem.run_pure, Option.map_none, hs, run_sizeOf' hi', Option.map_some]
          congr 2
          simp [Addr.add_none]
      · cases hr
    · cases hr
  · rename_i e hu
    simp only [foot, Option.some.injEq] at hf
    split at hr
    · cases hr
    rename_i hi'
    obtain ⟨ie, hi'⟩ := Option.ne_none_iff_exists'.1 (by simpa using hi')
    split at hr
    · rename_i ob l u m hb
      cases hr
      have hpx : ρ p = .slice none 0 0 := by simpa [den] using hx.symm
      refine good_fin (x := .slice none 0 0) (by rw [← hf]; rfl) (by rw [← hf]; rfl) kk fun hob => ⟨?_, rfl⟩
      obtain ⟨hs, h1, h2, h3⟩ := boundsA_run (P := P) (w := w) (isSlice := true) hb hv hob hm
      simp only [Instr.sliceAt, Instr.slice, Sem.run_bind, run_underlying' hu, Result.andThen_ok, hpx, Sem.run_pure, hs, run_sizeOf' hi', Option.map_none]
      congr 3
      · split <;> rfl
      · omega
      · omega
    · cases hr
  · cases hr

end Go.Proofs.YtpdhfopfjoinnaaDoor.Sx
