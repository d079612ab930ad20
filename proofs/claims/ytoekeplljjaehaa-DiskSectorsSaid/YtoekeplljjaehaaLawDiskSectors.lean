/- DiskSectors
   For every input the law returns true, and each argument reads afterwards as it read before: no condition. -/
import Derived.Test.YtoekeplljjaehaaDuF1
import Derived.Test.YtoekeplljjaehaaDuG
import Derived.Test.YtoekeplljjaehaaGr13
import Derived.Test.YtoekeplljjaehaaRows
namespace Go.Proofs.Ytoekeplljjaehaa.diskSectors
open Go Sx Go.ChangeShapes Go.WideShapes Go.ChangeAt Go.RowKit Go.ChangeMaps
set_option linter.unusedVariables false
set_option linter.unusedSimpArgs false
theorem own : ownKnob Try.prog.godebug = none := by kernel_rfl

set_option maxRecDepth 100000 in
theorem lifted (os : Os) (started : os.Started) (H : Type) (enc : TypeId × Value → H) :
    ReturnsInHanded {} Try.checked os 6 .any (Rows.diskSectorsSpec.pre6 enc Try.prog Try.f6 Rows.diskSectorsRow.domain false) (Rows.diskSectorsSpec.post enc Try.prog Try.f6 false true false false) := by
  refine returnsInHanded_of_change (C := Try.checked) own started (by kernel_rfl) Try.func6
    (ChangeSpec.witness6 (enc := enc) (C := Try.checked) false ⟨#[], #[.slice none 0 0, .agg #[.string ⟨#[]⟩, .string ⟨#[]⟩, .string ⟨#[]⟩, .string ⟨#[]⟩, .string ⟨#[]⟩], .slice none 0 0], []⟩ 8 (by kernel_rfl) (by kernel_rfl) (by kernel_rfl) (by kernel_rfl)) ?_
  intro W base args ds gs before hval0 hW hcnd _
  have hval : ∀ (j : Nat) t v, Try.f6.params[j]? = some t → args[j]? = some v → Value.okWide Try.prog W .any base t v := hval0
  have hW' := hW
  obtain ⟨p, q, hA0, hV, rfl, hfz, hnd⟩ := hW
  have hA : DataW.TrodAll enc Try.prog W 0 (fun _ => true) true Try.f6.params.toList args.toList ds p := hA0
  have hAk := hA
  rw [Try.params6] at hA hval
  obtain ⟨v0, vs0, d0, ds0, p0, q0, hargs, rfl, rfl, h0, r0⟩ := trodAll_cons hA
  obtain ⟨v1, vs1, d1, ds1, p1, q1, rfl, rfl, rfl, h1, r1⟩ := trodAll_cons r0
  obtain ⟨v2, vs2, d2, ds2, p2, q2, rfl, rfl, rfl, h2, r2⟩ := trodAll_cons r1
  obtain ⟨rfl, rfl, rfl⟩ := trodAll_nil r2
  obtain rfl : args = #[v0, v1, v2] := by cases args; simp_all
  obtain ⟨rfl, rfl⟩ := trodVars_none hV
  obtain ⟨rows, l, b, c, hden, hl, hobj⟩ := open_acts (hval 0 22 v0 rfl rfl) h0
  obtain ⟨s0, s1, s2, s3, s4, rfl⟩ := open_five (hval 1 53 v1 rfl rfl) h1
  obtain ⟨ks, lk, b', c', hden', hlk, hik, hobj'⟩ := open_ks (hval 2 29 v2 rfl rfl) h2
  clear hA0 hval0
  have hlt : ∀ x ∈ p0 ++ (p1 ++ (p2 ++ [])), x.block < W.heap.size := fun x hx => hW'.lt x (by simpa using hx)
  have hm : Meets Try.prog 6 (argsE l lk [s0.data.toList, s1.data.toList, s2.data.toList, s3.data.toList, s4.data.toList]) ([frm false rows, .flatI false ks].map PObj.toA) (.bool true) ((pT2 rows ks).map PObj.toA) := by
    generalize [s0.data.toList, s1.data.toList, s2.data.toList, s3.data.toList, s4.data.toList] = ll
    obtain ⟨q0, q1, q2⟩ := sectors_true (l := ll) hl hlk hik
    cases h0 : (pE ll 5 0).isEmpty with
    | true => exact meets_ent (tSe_ok eKp0_ok) host ((cE_0 l lk rows ks ll).trans (q0 h0)) (lvSe_ok (fun e he => by cases he; exact eEN_ok _ _ _ _ _ _) (fun e he => by cases he))
    | false =>
      cases he : (keepS (pE ll 5 0).length ks).isEmpty with
      | true => exact meets_ent (tSe_ok eKpE_ok) host ((cE_E l lk rows ks ll).trans (q1 h0 he)) (lvSe_ok (fun e he => by cases he; exact eEV_ok _ _ _ _ _ _) (fun e he => by cases he))
      | false => exact meets_ent (tSe_ok eKpV_ok) host ((cE_V l lk rows ks ll).trans (q2 h0 he)) (lvSe_ok (fun e he => by cases he; exact eEV_ok _ _ _ _ _ _) (fun e he => by cases he; exact eGL_ok _ _ _ _ _ _ _))
  refine (law_calls_rows (P := Try.prog) (f := 6) (xs := [v0, .agg #[.string s0, .string s1, .string s2, .string s3, .string s4], v2]) (E := fun n => if n = 0 then some (b, c) else if n = 1 then some (b', c') else none) (by decide) Try.call6 hm
    (by
      have hE0 := hden (fun n => if n = 0 then some (b, c) else if n = 1 then some (b', c') else none) 0 rfl
      have hE1 := hden' (fun n => if n = 0 then some (b, c) else if n = 1 then some (b', c') else none) 1 rfl
      have hd : den (fun n => if n = 0 then some (b, c) else if n = 1 then some (b', c') else none) (.agg [.str s0.data.toList, .str s1.data.toList, .str s2.data.toList, .str s3.data.toList, .str s4.data.toList]) = some (.agg #[.string s0, .string s1, .string s2, .string s3, .string s4]) := by simp [den, denL, allOne, Value.oneCell']
      show denL _ [.dsl 0 l, .agg [.str s0.data.toList, .str s1.data.toList, .str s2.data.toList, .str s3.data.toList, .str s4.data.toList], .dsl 1 lk] = _
      simp only [denL, hE0, hE1, hd]) (fun n o h => ?_) (fun n h => ?_) (fun g l => by cases l)).mono fun e W' ⟨he, hg, hheap⟩ => ?_
  · match n, h with
    | 0, h => cases h; exact ⟨rfl, b, c, rfl, hobj _⟩
    | 1, h => cases h; exact ⟨rfl, b', c', rfl, hobj' _⟩
    | n + 2, h => simp [frm] at h
  · have h : 2 ≤ n := h
    rw [if_neg (by omega), if_neg (by omega)]
  · subst he
    refine ⟨_, rfl, post_of_kept (pv := []) hW' (fun _ _ _ => (trodAll_cons_mk (shut_bool Try.underlying4 _) trodAll_mk0)) (fun sp hsp => DataW.TrodAll.respare kids full (by rw [Try.params6]; decide) (trodAll_carry hAk fun x hx => kept_same hheap (hlt x hx)) (fun x hx => hsp x (by simpa using hx))) (fun _ _ => rfl) (by simp)
      hg (ok_one (by kernel_rfl) rfl (okWide_bool_mk Try.underlying4 _))⟩

theorem over : Rows.diskSectorsRow.holds Try.pinned (OpenSpec.ofChange Rows.diskSectorsSpec) :=
  OpenClaim.holds_of_wide 6 Try.f6 rfl rfl rfl rfl rfl rfl rfl ⟨rfl, rfl, rfl, rfl, rfl⟩ rfl rfl rfl rfl rfl (by kernel_rfl) Try.func6 (by kernel_rfl)
    (of_decide_eq_true (by kernel_rfl)) (by unfold Func.isWrapper; first | (rw [if_pos (by decide +kernel)]; kernel_rfl) | (rw [if_neg (by decide +kernel)]; exact ⟨rfl, rfl⟩))
    (fun os started H enc _ => lifted os started H enc)

theorem proved : Rows.DiskSectorsSaid :=
  over
end Go.Proofs.Ytoekeplljjaehaa.diskSectors
