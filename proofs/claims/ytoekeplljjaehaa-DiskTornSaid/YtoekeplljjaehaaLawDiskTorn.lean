/- DiskTorn
   For every input the law returns true, and each argument reads afterwards as it read before: no condition. -/
import Derived.Test.YtoekeplljjaehaaDtE1
import Derived.Test.YtoekeplljjaehaaGr09
import Derived.Test.YtoekeplljjaehaaGr12
import Derived.Test.YtoekeplljjaehaaRows
namespace Go.Proofs.Ytoekeplljjaehaa.diskTorn
open Go Sx Go.ChangeShapes Go.WideShapes Go.ChangeAt Go.RowKit Go.ChangeMaps
set_option linter.unusedVariables false
set_option linter.unusedSimpArgs false
theorem own : ownKnob Try.prog.godebug = none := by kernel_rfl

set_option maxRecDepth 100000 in
theorem lifted (os : Os) (started : os.Started) (H : Type) (enc : TypeId × Value → H) :
    ReturnsInHanded {} Try.checked os 7 .any (Rows.diskTornSpec.pre6 enc Try.prog Try.f7 Rows.diskTornRow.domain false) (Rows.diskTornSpec.post enc Try.prog Try.f7 false true false false) := by
  refine returnsInHanded_of_change (C := Try.checked) own started (by kernel_rfl) Try.func7
    (ChangeSpec.witness6 (enc := enc) (C := Try.checked) false ⟨#[], #[.slice none 0 0, .int .i64 0, .string ⟨#[]⟩, .slice none 0 0], []⟩ 8 (by kernel_rfl) (by kernel_rfl) (by kernel_rfl) (by kernel_rfl)) ?_
  intro W base args ds gs before hval0 hW hcnd _
  have hval : ∀ (j : Nat) t v, Try.f7.params[j]? = some t → args[j]? = some v → Value.okWide Try.prog W .any base t v := hval0
  have hW' := hW
  obtain ⟨p, q, hA0, hV, rfl, hfz, hnd⟩ := hW
  have hA : DataW.TrodAll enc Try.prog W 0 (fun _ => true) true Try.f7.params.toList args.toList ds p := hA0
  have hAk := hA
  rw [Try.params7] at hA hval
  obtain ⟨v0, vs0, d0, ds0, p0, q0, hargs, rfl, rfl, h0, r0⟩ := trodAll_cons hA
  obtain ⟨v1, vs1, d1, ds1, p1, q1, rfl, rfl, rfl, h1, r1⟩ := trodAll_cons r0
  obtain ⟨v2, vs2, d2, ds2, p2, q2, rfl, rfl, rfl, h2, r2⟩ := trodAll_cons r1
  obtain ⟨v3, vs3, d3, ds3, p3, q3, rfl, rfl, rfl, h3, r3⟩ := trodAll_cons r2
  obtain ⟨rfl, rfl, rfl⟩ := trodAll_nil r3
  obtain rfl : args = #[v0, v1, v2, v3] := by cases args; simp_all
  obtain ⟨rfl, rfl⟩ := trodVars_none hV
  obtain ⟨rows, l, b, c, hden, hl, hobj⟩ := open_acts (hval 0 22 v0 rfl rfl) h0
  obtain ⟨a1, rfl, rfl, rfl, w1⟩ := open_int Try.underlying3 (hval 1 3 v1 rfl rfl) h1
  obtain ⟨s2, rfl, rfl, rfl, w2⟩ := open_string Try.underlying9 (hval 2 9 v2 rfl rfl) h2
  obtain ⟨ks, lk, b', c', hden', hlk, hik, hobj'⟩ := open_ks (hval 3 29 v3 rfl rfl) h3
  clear hA0 hval0
  have hlt : ∀ x ∈ p0 ++ ([] ++ ([] ++ (p3 ++ []))), x.block < W.heap.size := fun x hx => hW'.lt x (by simpa using hx)
  have hm : Meets Try.prog 7 [.dsl 0 l, .int .i64 a1, .str s2.data.toList, .dsl 1 lk] ([frm false rows, .flatI false ks].map PObj.toA) (.bool true) ((pT2 rows ks).map PObj.toA) := by
    obtain ⟨q0, q1, q2⟩ := torn_true (s := s2.data.toList) hl (i64B_to (wf_i64 w1)) hlk hik
    cases h0 : (tS a1 s2.data.toList).isEmpty with
    | true => exact meets_ent (tTo_ok eWrN_ok ePa0_ok eKp0_ok) host ((cT_0 l lk rows ks a1 s2.data.toList).trans (q0 h0))
    | false =>
      cases he : (keepS (pTs a1 s2.data.toList).length ks).isEmpty with
      | true => exact meets_ent (tTo_ok eWrV_ok ePaV_ok eKpE_ok) host ((cT_E l lk rows ks a1 s2.data.toList).trans (q1 h0 he)) (lvTE_ok _ _ _ _ _ _)
      | false => exact meets_ent (tTo_ok eWrV_ok ePaV_ok eKpV_ok) host ((cT_V l lk rows ks a1 s2.data.toList).trans (q2 h0 he)) (lvTV_ok _ _ _ _ _ _ _ _)
  refine (law_calls_rows (P := Try.prog) (f := 7) (xs := [v0, .int .i64 a1, .string s2, v3]) (E := fun n => if n = 0 then some (b, c) else if n = 1 then some (b', c') else none) (by decide) Try.call7 hm
    (by
      have hE0 := hden (fun n => if n = 0 then some (b, c) else if n = 1 then some (b', c') else none) 0 rfl
      have hE1 := hden' (fun n => if n = 0 then some (b, c) else if n = 1 then some (b', c') else none) 1 rfl
      simp only [denL, hE0, hE1]; simp [den]) (fun n o h => ?_) (fun n h => ?_) (fun g l => by cases l)).mono fun e W' ⟨he, hg, hheap⟩ => ?_
  · match n, h with
    | 0, h => cases h; exact ⟨rfl, b, c, rfl, hobj _⟩
    | 1, h => cases h; exact ⟨rfl, b', c', rfl, hobj' _⟩
    | n + 2, h => simp [frm] at h
  · have h : 2 ≤ n := h
    rw [if_neg (by omega), if_neg (by omega)]
  · subst he
    refine ⟨_, rfl, post_of_kept (pv := []) hW' (fun _ _ _ => (trodAll_cons_mk (shut_bool Try.underlying4 _) trodAll_mk0)) (fun sp hsp => DataW.TrodAll.respare kids full (by rw [Try.params7]; decide) (trodAll_carry hAk fun x hx => kept_same hheap (hlt x hx)) (fun x hx => hsp x (by simpa using hx))) (fun _ _ => rfl) (by simp)
      hg (ok_one (by kernel_rfl) rfl (okWide_bool_mk Try.underlying4 _))⟩

theorem over : Rows.diskTornRow.holds Try.pinned (OpenSpec.ofChange Rows.diskTornSpec) :=
  OpenClaim.holds_of_wide 7 Try.f7 rfl rfl rfl rfl rfl rfl rfl ⟨rfl, rfl, rfl, rfl, rfl⟩ rfl rfl rfl rfl rfl (by kernel_rfl) Try.func7 (by kernel_rfl)
    (of_decide_eq_true (by kernel_rfl)) (by unfold Func.isWrapper; first | (rw [if_pos (by decide +kernel)]; kernel_rfl) | (rw [if_neg (by decide +kernel)]; exact ⟨rfl, rfl⟩))
    (fun os started H enc _ => lifted os started H enc)

theorem proved : Rows.DiskTornSaid :=
  over
end Go.Proofs.Ytoekeplljjaehaa.diskTorn
