/- DiskSynced
   For every input the law returns true, and each argument reads afterwards as it read before: no condition. -/
import Derived.Test.YtoekeplljjaehaaDsD1
import Derived.Test.YtoekeplljjaehaaDsD2
import Derived.Test.YtoekeplljjaehaaGr10
import Derived.Test.YtoekeplljjaehaaGr13
import Derived.Test.YtoekeplljjaehaaRows
namespace Go.Proofs.Ytoekeplljjaehaa.diskSynced
open Go Sx Go.ChangeShapes Go.WideShapes Go.ChangeAt Go.RowKit Go.ChangeMaps
set_option linter.unusedVariables false
set_option linter.unusedSimpArgs false
theorem own : ownKnob Try.prog.godebug = none := by kernel_rfl

set_option maxRecDepth 100000 in
theorem lifted (os : Os) (started : os.Started) (H : Type) (enc : TypeId × Value → H) :
    ReturnsInHanded {} Try.checked os 4 .any (Rows.diskSyncedSpec.pre6 enc Try.prog Try.f4 Rows.diskSyncedRow.domain false) (Rows.diskSyncedSpec.post enc Try.prog Try.f4 false true false false) := by
  refine returnsInHanded_of_change (C := Try.checked) own started (by kernel_rfl) Try.func4
    (ChangeSpec.witness6 (enc := enc) (C := Try.checked) false ⟨#[], #[.slice none 0 0, .slice none 0 0, .slice none 0 0], []⟩ 8 (by kernel_rfl) (by kernel_rfl) (by kernel_rfl) (by kernel_rfl)) ?_
  intro W base args ds gs before hval0 hW hcnd _
  have hval : ∀ (j : Nat) t v, Try.f4.params[j]? = some t → args[j]? = some v → Value.okWide Try.prog W .any base t v := hval0
  have hW' := hW
  obtain ⟨p, q, hA0, hV, rfl, hfz, hnd⟩ := hW
  have hA : DataW.TrodAll enc Try.prog W 0 (fun _ => true) true Try.f4.params.toList args.toList ds p := hA0
  have hAk := hA
  rw [Try.params4] at hA hval
  obtain ⟨v0, vs0, d0, ds0, p0, q0, hargs, rfl, rfl, h0, r0⟩ := trodAll_cons hA
  obtain ⟨v1, vs1, d1, ds1, p1, q1, rfl, rfl, rfl, h1, r1⟩ := trodAll_cons r0
  obtain ⟨v2, vs2, d2, ds2, p2, q2, rfl, rfl, rfl, h2, r2⟩ := trodAll_cons r1
  obtain ⟨rfl, rfl, rfl⟩ := trodAll_nil r2
  obtain rfl : args = #[v0, v1, v2] := by cases args; simp_all
  obtain ⟨rfl, rfl⟩ := trodVars_none hV
  obtain ⟨rows, l, b, c, hden, hl, hobj⟩ := open_acts (hval 0 22 v0 rfl rfl) h0
  obtain ⟨rows', l', b', c', hden', hl', hobj'⟩ := open_acts (hval 1 22 v1 rfl rfl) h1
  obtain ⟨ks, lk, bk, ck, hdenk, hlk, hik, hobjk⟩ := open_ks (hval 2 29 v2 rfl rfl) h2
  clear hA0 hval0
  have hlt : ∀ x ∈ p0 ++ (p1 ++ (p2 ++ [])), x.block < W.heap.size := fun x hx => hW'.lt x (by simpa using hx)
  have hm : Meets Try.prog 4 [.dsl 0 l, .dsl 1 l', .dsl 2 lk] ([frm false rows, frm false rows', .flatI false ks].map PObj.toA) (.bool true) ((pS rows rows' ks).map PObj.toA) := by
    cases h0 : (fillP (rows'.take 8)).isEmpty with
    | true => exact meets_ent (tSd_ok eFilN_ok eKp0_ok) host ((cS_0 l l' lk rows rows' ks).trans (synced_0 hl hl' h0)) (lvSy_ok _ _ _ _ _ _ _ _)
    | false =>
      obtain ⟨q1, q2⟩ := synced_V hl hl' hlk hik h0
      cases he : (keepS (fillP (rows'.take 8)).length ks).isEmpty with
      | true => exact meets_ent (tSd_ok eFilV_ok eKpE_ok) host ((cS_E l l' lk rows rows' ks).trans (q1 he)) (lvSy_ok _ _ _ _ _ _ _ _)
      | false => exact meets_ent (tSd_ok eFilV_ok eKpV_ok) host ((cS_V l l' lk rows rows' ks).trans (q2 he)) (lvSy_ok _ _ _ _ _ _ _ _)
  refine (law_calls_rows (P := Try.prog) (f := 4) (xs := [v0, v1, v2]) (E := fun n => if n = 0 then some (b, c) else if n = 1 then some (b', c') else if n = 2 then some (bk, ck) else none) (by decide) Try.call4 hm
    (by
      have hE0 := hden (fun n => if n = 0 then some (b, c) else if n = 1 then some (b', c') else if n = 2 then some (bk, ck) else none) 0 rfl
      have hE1 := hden' (fun n => if n = 0 then some (b, c) else if n = 1 then some (b', c') else if n = 2 then some (bk, ck) else none) 1 rfl
      have hE2 := hdenk (fun n => if n = 0 then some (b, c) else if n = 1 then some (b', c') else if n = 2 then some (bk, ck) else none) 2 rfl
      simp only [denL, hE0, hE1, hE2]) (fun n o h => ?_) (fun n h => ?_) (fun g l => by cases l)).mono fun e W' ⟨he, hg, hheap⟩ => ?_
  · match n, h with
    | 0, h => cases h; exact ⟨rfl, b, c, rfl, hobj _⟩
    | 1, h => cases h; exact ⟨rfl, b', c', rfl, hobj' _⟩
    | 2, h => cases h; exact ⟨rfl, bk, ck, rfl, hobjk _⟩
    | n + 3, h => simp [frm] at h
  · have h : 3 ≤ n := h
    rw [if_neg (by omega), if_neg (by omega), if_neg (by omega)]
  · subst he
    refine ⟨_, rfl, post_of_kept (pv := []) hW' (fun _ _ _ => (trodAll_cons_mk (shut_bool Try.underlying4 _) trodAll_mk0)) (fun sp hsp => DataW.TrodAll.respare kids full (by rw [Try.params4]; decide) (trodAll_carry hAk fun x hx => kept_same hheap (hlt x hx)) (fun x hx => hsp x (by simpa using hx))) (fun _ _ => rfl) (by simp)
      hg (ok_one (by kernel_rfl) rfl (okWide_bool_mk Try.underlying4 _))⟩

theorem over : Rows.diskSyncedRow.holds Try.pinned (OpenSpec.ofChange Rows.diskSyncedSpec) :=
  OpenClaim.holds_of_wide 4 Try.f4 rfl rfl rfl rfl rfl rfl rfl ⟨rfl, rfl, rfl, rfl, rfl⟩ rfl rfl rfl rfl rfl (by kernel_rfl) Try.func4 (by kernel_rfl)
    (of_decide_eq_true (by kernel_rfl)) (by unfold Func.isWrapper; first | (rw [if_pos (by decide +kernel)]; kernel_rfl) | (rw [if_neg (by decide +kernel)]; exact ⟨rfl, rfl⟩))
    (fun os started H enc _ => lifted os started H enc)

theorem proved : Rows.DiskSyncedSaid :=
  over
end Go.Proofs.Ytoekeplljjaehaa.diskSynced
