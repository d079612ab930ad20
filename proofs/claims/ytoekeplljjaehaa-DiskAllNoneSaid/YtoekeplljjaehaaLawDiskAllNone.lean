/- DiskAllNone
   For every input the law returns true, and each argument reads afterwards as it read before: no condition. -/
import Derived.Test.YtoekeplljjaehaaDkY1
import Derived.Test.YtoekeplljjaehaaDkY2
import Derived.Test.YtoekeplljjaehaaGr10
import Derived.Test.YtoekeplljjaehaaDkN
import Derived.Test.YtoekeplljjaehaaRows
namespace Go.Proofs.Ytoekeplljjaehaa.diskAllNone
open Go Sx Go.ChangeShapes Go.WideShapes Go.ChangeAt Go.RowKit Go.ChangeMaps
set_option linter.unusedVariables false
set_option linter.unusedSimpArgs false
theorem own : ownKnob Try.prog.godebug = none := by kernel_rfl

set_option maxRecDepth 100000 in
theorem lifted (os : Os) (started : os.Started) (H : Type) (enc : TypeId × Value → H) :
    ReturnsInHanded {} Try.checked os 5 .any (Rows.diskAllNoneSpec.pre6 enc Try.prog Try.f5 Rows.diskAllNoneRow.domain false) (Rows.diskAllNoneSpec.post enc Try.prog Try.f5 false true false false) := by
  refine returnsInHanded_of_change (C := Try.checked) own started (by kernel_rfl) Try.func5
    (ChangeSpec.witness6 (enc := enc) (C := Try.checked) false ⟨#[], #[.slice none 0 0, .slice none 0 0], []⟩ 8 (by kernel_rfl) (by kernel_rfl) (by kernel_rfl) (by kernel_rfl)) ?_
  intro W base args ds gs before hval0 hW hcnd _
  have hval : ∀ (j : Nat) t v, Try.f5.params[j]? = some t → args[j]? = some v → Value.okWide Try.prog W .any base t v := hval0
  have hW' := hW
  obtain ⟨p, q, hA0, hV, rfl, hfz, hnd⟩ := hW
  have hA : DataW.TrodAll enc Try.prog W 0 (fun _ => true) true Try.f5.params.toList args.toList ds p := hA0
  have hAk := hA
  rw [Try.params5] at hA hval
  obtain ⟨v0, vs0, d0, ds0, p0, q0, hargs, rfl, rfl, h0, r0⟩ := trodAll_cons hA
  obtain ⟨v1, vs1, d1, ds1, p1, q1, rfl, rfl, rfl, h1, r1⟩ := trodAll_cons r0
  obtain ⟨rfl, rfl, rfl⟩ := trodAll_nil r1
  obtain rfl : args = #[v0, v1] := by cases args; simp_all
  obtain ⟨rfl, rfl⟩ := trodVars_none hV
  obtain ⟨rows, l, b, c, hden, hl, hobj⟩ := open_acts (hval 0 22 v0 rfl rfl) h0
  obtain ⟨rows', l', b', c', hden', hl', hobj'⟩ := open_acts (hval 1 22 v1 rfl rfl) h1
  clear hA0 hval0
  have hlt : ∀ x ∈ p0 ++ (p1 ++ []), x.block < W.heap.size := fun x hx => hW'.lt x (by simpa using hx)
  have hm : Meets Try.prog 5 [.dsl 0 l, .dsl 1 l'] ([frm false rows, frm false rows'].map PObj.toA) (.bool true) ([fr rows, fr rows'].map PObj.toA) := by
    cases h0 : (fillP (rows'.take 8)).isEmpty with
    | true => exact meets_ent (tAn_ok eFilN_ok) host ((cN0 false false l l' rows rows').trans (allNone_N hl hl' h0))
    | false => exact meets_ent (tAn_ok eFilV_ok) host ((cNV false false l l' rows rows').trans (allNone_V hl hl' h0)) (lvN_ok _ _ _ _ _ _ _ _)
  refine (law_calls_rows (P := Try.prog) (f := 5) (xs := [v0, v1]) (E := fun n => if n = 0 then some (b, c) else if n = 1 then some (b', c') else none) (by decide) Try.call5 hm
    (by
      have hE0 := hden (fun n => if n = 0 then some (b, c) else if n = 1 then some (b', c') else none) 0 rfl
      have hE1 := hden' (fun n => if n = 0 then some (b, c) else if n = 1 then some (b', c') else none) 1 rfl
      simp only [denL, hE0, hE1]) (fun n o h => ?_) (fun n h => ?_) (fun g l => by cases l)).mono fun e W' ⟨he, hg, hheap⟩ => ?_
  · match n, h with
    | 0, h => cases h; exact ⟨rfl, b, c, rfl, hobj _⟩
    | 1, h => cases h; exact ⟨rfl, b', c', rfl, hobj' _⟩
    | n + 2, h => simp [frm] at h
  · have h : 2 ≤ n := h
    rw [if_neg (by omega), if_neg (by omega)]
  · subst he
    refine ⟨_, rfl, post_of_kept (pv := []) hW' (fun _ _ _ => (trodAll_cons_mk (shut_bool Try.underlying4 _) trodAll_mk0)) (fun sp hsp => DataW.TrodAll.respare kids full (by rw [Try.params5]; decide) (trodAll_carry hAk fun x hx => kept_same hheap (hlt x hx)) (fun x hx => hsp x (by simpa using hx))) (fun _ _ => rfl) (by simp)
      hg (ok_one (by kernel_rfl) rfl (okWide_bool_mk Try.underlying4 _))⟩

theorem over : Rows.diskAllNoneRow.holds Try.pinned (OpenSpec.ofChange Rows.diskAllNoneSpec) :=
  OpenClaim.holds_of_wide 5 Try.f5 rfl rfl rfl rfl rfl rfl rfl ⟨rfl, rfl, rfl, rfl, rfl⟩ rfl rfl rfl rfl rfl (by kernel_rfl) Try.func5 (by kernel_rfl)
    (of_decide_eq_true (by kernel_rfl)) (by unfold Func.isWrapper; first | (rw [if_pos (by decide +kernel)]; kernel_rfl) | (rw [if_neg (by decide +kernel)]; exact ⟨rfl, rfl⟩))
    (fun os started H enc _ => lifted os started H enc)

theorem proved : Rows.DiskAllNoneSaid :=
  over
end Go.Proofs.Ytoekeplljjaehaa.diskAllNone
