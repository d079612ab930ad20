/- ValReads: for every input the law returns true, and each argument reads afterwards as it read before: no condition but the tables that the row lists, tied to the program's text. -/
import Derived.Test.YtdomenmfkbfakaaGreatDoorReJ
import Derived.Test.YtdomenmfkbfakaaGreatDoorGr15
import Derived.Test.YtdomenmfkbfakaaGreatDoorCards
import Derived.Test.YtdomenmfkbfakaaGreatDoorTie
import Derived.LaidMore
import Derived.Lay
import Derived.SevenTiedAt
import Derived.Stop.Joined
set_option linter.unusedVariables false
set_option linter.unusedSimpArgs false
namespace Go.Proofs.YtdomenmfkbfakaaGreatDoor.valReads
open Go Sx Go.ChangeShapes Go.WideShapes Go.ChangeAt Go.RowKit Go.ChangeMaps
theorem own : ownKnob Tryz.prog.godebug = none := by kernel_rfl

set_option maxRecDepth 100000 in
theorem lifted (os : Os) (started : os.Started) (H : Type) (enc : TypeId × Value → H) :
    ReturnsInHanded {} Tryz.checked os 4 .any (fun w args => (Rows.valReadsSpec.pre enc Tryz.prog Tryz.f4 Rows.valReadsRow.domain false w args ∧ laidMetH Tryz.prog Rows.valReadsRow.laid w) ∧ sizedMet enc Tryz.prog Tryz.f4 (OpenSpec.ofChange Rows.valReadsSpec) false w args)
      (Rows.valReadsSpec.post enc Tryz.prog Tryz.f4 false true false false) := by
  refine returnsInHanded_both (C := Tryz.checked) (X := fun w _ => laidMetH Tryz.prog Rows.valReadsRow.laid w) (fun _ _ _ hh h => h.of_heap hh) own started (by kernel_rfl) Tryz.func4
    (ChangeSpec.witness_shaped (enc := enc) (C := Tryz.checked) (os := os) (X := fun w _ => laidMetH Tryz.prog Rows.valReadsRow.laid w) false (World.laidAll Tryz.prog os Rows.valReadsRow.laid)
      #[.string ⟨#[]⟩, .int .i64 0, .int .i64 0, .slice none 0 0, .agg #[.int .i64 0, .int .i64 0]] 8 (World.laidAll_os _ _ _)
      (World.shaped_of_ZipB (by kernel_rfl) (by kernel_rfl)) (by kernel_rfl) (by kernel_rfl) (by kernel_rfl)
      (by rw [MakeChecks.laidMetH_plain _ _ _ (by kernel_rfl)]; exact laidMet_laidAll _ (by kernel_rfl) (by kernel_rfl))) ?_
  intro W base args ds gs before hval0 hW hL hsh
  have hval : ∀ (j : Nat) t v, Tryz.f4.params[j]? = some t → args[j]? = some v → Value.okWide Tryz.prog W .any base t v := hval0
  have hW' := hW
  obtain ⟨p, q, hA0, hV, rfl, hfz, hnd⟩ := hW
  have hA : DataW.TrodAll enc Tryz.prog W 0 (fun _ => true) true Tryz.f4.params.toList args.toList ds p := hA0
  have hAk := hA
  rw [Tryz.params4] at hA hval
  obtain ⟨u, us, du, dus, pu, qu, hargs, rfl, rfl, hu, r⟩ := trodAll_cons hA
  obtain ⟨v0, vs0, d0, ds0, p0, q0, rfl, rfl, rfl, h0, r0⟩ := trodAll_cons r
  obtain ⟨v1, vs1, d1, ds1, p1, q1, rfl, rfl, rfl, h1, r1⟩ := trodAll_cons r0
  obtain ⟨v2, vs2, d2, ds2, p2, q2, rfl, rfl, rfl, h2, r2⟩ := trodAll_cons r1
  obtain ⟨v3, vs3, d3, ds3, p3, q3, rfl, rfl, rfl, h3, r3⟩ := trodAll_cons r2
  obtain ⟨rfl, rfl, rfl⟩ := trodAll_nil r3
  obtain rfl : args = #[u, v0, v1, v2, v3] := by cases args; simp_all
  obtain ⟨rfl, rfl⟩ := trodVars_none hV
  obtain ⟨z, rfl, rfl, rfl, _⟩ := open_string Tryz.underlying9 (hval 0 9 u rfl rfl) hu
  obtain ⟨a0, rfl, rfl, rfl, w0⟩ := open_int Tryz.underlying3 (hval 1 3 v0 rfl rfl) h0
  obtain ⟨a1, rfl, rfl, rfl, w1⟩ := open_int Tryz.underlying3 (hval 2 3 v1 rfl rfl) h1
  obtain ⟨rows, l, b, c, hden, hl, hobj, hund⟩ := open_raws (hval 3 26 v2 rfl rfl) h2
  obtain ⟨c0, c1, rfl, w3, w4⟩ := open_pair (hval 4 41 v3 rfl rfl) h3
  clear hA0 hval0
  have hlt : ∀ x ∈ [] ++ ([] ++ ([] ++ (p2 ++ (p3 ++ [])))), x.block < W.heap.size := fun x hx => hW'.lt x (by simpa using hx)
  have hm := vr_meets (z := z.data.toList) (inI_of w0) (inI_of w1) w3 w4 hl eVal_ok awake_ok
  refine (law_calls_rows (P := Tryz.prog) (f := 4) (xs := [.string z, .int .i64 a0, .int .i64 a1, v2, .agg #[.int .i64 c0, .int .i64 c1]]) (E := fun n => if n = 0 then some (b, c) else none) (by decide) Tryz.call4 hm
    (by
      have hE0 := hden (fun n => if n = 0 then some (b, c) else none) 0 rfl
      simp only [denL, hE0]
      simp [denL, den, allOne, Value.oneCell']) (fun n o h => ?_) (fun n h => ?_) (glob_of_laid (show laidMetH Tryz.prog Rows.valReadsRow.laid W from hL) hsh) (fun m b' c' k e1 e2 => ?_)).mono fun e W' ⟨he, hg, hheap⟩ => ?_
  · cases n with
    | zero => cases h; exact ⟨rfl, b, c, rfl, hobj _⟩
    | succ n => simp at h
  · have h : 1 ≤ n := h
    rw [if_neg (by omega)]
  · split at e1
    · cases e1; exact absurd e2 (hund k)
    · cases e1
  · subst he
    refine ⟨_, rfl, post_of_kept (pv := []) hW' (fun _ _ _ => (trodAll_cons_mk (shut_bool Tryz.underlying4 _) trodAll_mk0)) (fun sp hsp => DataW.TrodAll.respare kids full (by rw [Tryz.params4]; decide) (trodAll_carry hAk fun x hx => kept_same hheap (hlt x (by simpa using hx))) (fun x hx => hsp x (by simpa using hx))) (fun _ _ => rfl) (by simp)
      hg (ok_one (by kernel_rfl) rfl (okWide_bool_mk Tryz.underlying4 _))⟩

theorem over : Rows.valReadsRow.holds Tryz.pinned (OpenSpec.ofChange Rows.valReadsSpec) :=
  OpenClaim.holds_of_wide 4 Tryz.f4 rfl rfl rfl rfl rfl rfl rfl ⟨rfl, rfl, rfl, rfl, rfl⟩ rfl rfl rfl rfl rfl (by kernel_rfl) Tryz.func4 (by kernel_rfl)
    (of_decide_eq_true (by kernel_rfl)) (by unfold Func.isWrapper; first | (rw [if_pos (by decide +kernel)]; kernel_rfl) | (rw [if_neg (by decide +kernel)]; exact ⟨rfl, rfl⟩))
    (fun os started H enc _ => lifted os started H enc)

theorem proved : Rows.ValReadsCardSaid :=
  Claim7.holds_tied_plain_at .later [] [.data, .data, .pinned] true (true, "2044a488535f445c33ab7e039c7b21a9a923e301e18fa575939a2f0690c3c9b6") false over (fun _ h => by cases h) (by kernel_rfl) (fun _ h => by cases h) valReads_row_tie rfl ⟨rfl, rfl⟩ (by kernel_rfl) rfl
    (fun f fn hf hfn => by
      obtain rfl : f = 4 := Option.some.inj ((show Tryz.prog.funcNamed "tabula/tabulalaw03.ValReads" = some 4 by kernel_rfl).symm.trans hf) |>.symm
      obtain rfl : fn = Tryz.f4 := (Option.some.inj (Tryz.func4.symm.trans hfn)).symm
      exact ⟨by kernel_rfl, fun j t ht => by
        rw [Tryz.params4] at ht
        have hm : t ∈ [9, 3, 3, 26, 41] := by simpa using Array.mem_of_getElem? ht
        have hall : ([9, 3, 3, 26, 41].all fun u => !Tryz.prog.wantsStandIn u) = true := by kernel_rfl
        exact (show Tryz.prog.wantsStandIn t = false by simpa using List.all_eq_true.1 hall t hm)⟩)
    (by kernel_rfl)
end Go.Proofs.YtdomenmfkbfakaaGreatDoor.valReads
