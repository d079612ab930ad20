/- RefTells: for every input the law returns true, and each argument reads afterwards as it read before: no condition but the tables that the row lists, tied to the program's text. -/
import Derived.Test.YtanhlbdcjonaoaaGreatDoorGr21
import Derived.Test.YtanhlbdcjonaoaaGreatDoorGr07
import Derived.Test.YtanhlbdcjonaoaaGreatDoorSxZ
import Derived.Test.YtanhlbdcjonaoaaGreatDoorCards
import Derived.Test.YtanhlbdcjonaoaaGreatDoorTie
import Derived.LaidMore
import Derived.Lay
import Derived.SevenTiedAt
import Derived.Stop.Joined
set_option linter.unusedVariables false
set_option linter.unusedSimpArgs false
namespace Go.Proofs.YtanhlbdcjonaoaaGreatDoor.refTells
open Go Sx Go.ChangeShapes Go.WideShapes Go.ChangeAt Go.RowKit Go.ChangeMaps
theorem own : ownKnob Tryz.prog.godebug = none := by kernel_rfl
theorem ref_facts {s : ByteArray} {r c : Int} {a b d : Bool} (h : ∀ x ∈ ([.str s, .int .i64 r, .int .i64 c, .bool a, .bool b, .bool d] : List FV), x.ok) : inI r = true ∧ inI c = true ∧ s.data.toList.length ≤ 9223372036854775807 :=
  ⟨inI_iff.2 (wf_i64 (h (.int .i64 r) (by simp))), inI_iff.2 (wf_i64 (h (.int .i64 c) (by simp))), by have := str_max (h (.str s) (by simp)); simpa using this⟩
theorem area_facts {a0 a1 a2 a3 a4 : Int} (h : ∀ x ∈ ([.int .i64 a0, .int .i64 a1, .int .i64 a2, .int .i64 a3, .int .i64 a4] : List FV), x.ok) : Ar.inB ⟨a0, a1, a2, a3, a4⟩ = true := by
  simp only [Ar.inB, Bool.and_eq_true]
  exact ⟨⟨⟨⟨inI_iff.2 (wf_i64 (h (.int .i64 a0) (by simp))), inI_iff.2 (wf_i64 (h (.int .i64 a1) (by simp)))⟩, inI_iff.2 (wf_i64 (h (.int .i64 a2) (by simp)))⟩, inI_iff.2 (wf_i64 (h (.int .i64 a3) (by simp)))⟩, inI_iff.2 (wf_i64 (h (.int .i64 a4) (by simp)))⟩
theorem at_facts {a0 a1 a2 : Int} (h : ∀ x ∈ ([.int .i64 a0, .int .i64 a1, .int .i64 a2] : List FV), x.ok) : inI a0 = true ∧ inI a1 = true ∧ inI a2 = true :=
  ⟨inI_iff.2 (wf_i64 (h (.int .i64 a0) (by simp))), inI_iff.2 (wf_i64 (h (.int .i64 a1) (by simp))), inI_iff.2 (wf_i64 (h (.int .i64 a2) (by simp)))⟩

set_option maxRecDepth 100000 in
theorem lifted (os : Os) (started : os.Started) (H : Type) (enc : TypeId × Value → H) :
    ReturnsInHanded {} Tryz.checked os 3 .any (fun w args => (Rows.refTellsSpec.pre enc Tryz.prog Tryz.f3 Rows.refTellsRow.domain false w args ∧ laidMetH Tryz.prog Rows.refTellsRow.laid w) ∧ sizedMet enc Tryz.prog Tryz.f3 (OpenSpec.ofChange Rows.refTellsSpec) false w args)
      (Rows.refTellsSpec.post enc Tryz.prog Tryz.f3 false true false false) := by
  refine returnsInHanded_of_change_and (C := Tryz.checked) (X := fun w _ => laidMetH Tryz.prog Rows.refTellsRow.laid w) (fun _ _ _ hh h => h.of_heap hh) own started (by kernel_rfl) Tryz.func3
    (ChangeSpec.witness_shaped (enc := enc) (C := Tryz.checked) (os := os) (X := fun w _ => laidMetH Tryz.prog Rows.refTellsRow.laid w) false (World.laidAll Tryz.prog os Rows.refTellsRow.laid)
      #[.agg #[.string ⟨#[]⟩, .int .i64 0, .int .i64 0, .bool false, .bool false, .bool false], .agg #[.string ⟨#[]⟩, .int .i64 0, .int .i64 0, .bool false, .bool false, .bool false], .agg #[.int .i64 0, .int .i64 0, .int .i64 0, .int .i64 0, .int .i64 0], .agg #[.int .i64 0, .int .i64 0, .int .i64 0, .int .i64 0, .int .i64 0], .agg #[.int .i64 0, .int .i64 0, .int .i64 0], .string ⟨#[]⟩, .int .i64 0, .int .i64 0, .int .i64 0] 8 (World.laidAll_os _ _ _)
      (World.shaped_of_ZipB (by kernel_rfl) (by kernel_rfl)) (by kernel_rfl) (by kernel_rfl) (by kernel_rfl)
      (by rw [MakeChecks.laidMetH_plain _ _ _ (by kernel_rfl)]; exact laidMet_laidAll _ (by kernel_rfl) (by kernel_rfl))) ?_
  intro W base args ds gs before hval0 hW hcnd _ hL _
  have hval : ∀ (j : Nat) t v, Tryz.f3.params[j]? = some t → args[j]? = some v → Value.okWide Tryz.prog W .any base t v := hval0
  have hW' := hW
  obtain ⟨p, q, hA0, hV, rfl, hfz, hnd⟩ := hW
  have hA : DataW.TrodAll enc Tryz.prog W 0 (fun _ => true) true Tryz.f3.params.toList args.toList ds p := hA0
  rw [Tryz.params3] at hA hval
  obtain ⟨v0, vs0, d0, ds0, p0, q0, hargs, rfl, rfl, h0, r0⟩ := trodAll_cons hA
  obtain ⟨v1, vs1, d1, ds1, p1, q1, rfl, rfl, rfl, h1, r1⟩ := trodAll_cons r0
  obtain ⟨v2, vs2, d2, ds2, p2, q2, rfl, rfl, rfl, h2, r2⟩ := trodAll_cons r1
  obtain ⟨v3, vs3, d3, ds3, p3, q3, rfl, rfl, rfl, h3, r3⟩ := trodAll_cons r2
  obtain ⟨v4, vs4, d4, ds4, p4, q4, rfl, rfl, rfl, h4, r4⟩ := trodAll_cons r3
  obtain ⟨v5, vs5, d5, ds5, p5, q5, rfl, rfl, rfl, h5, r5⟩ := trodAll_cons r4
  obtain ⟨v6, vs6, d6, ds6, p6, q6, rfl, rfl, rfl, h6, r6⟩ := trodAll_cons r5
  obtain ⟨v7, vs7, d7, ds7, p7, q7, rfl, rfl, rfl, h7, r7⟩ := trodAll_cons r6
  obtain ⟨v8, vs8, d8, ds8, p8, q8, rfl, rfl, rfl, h8, r8⟩ := trodAll_cons r7
  obtain ⟨rfl, rfl, rfl⟩ := trodAll_nil r8
  obtain rfl : args = #[v0, v1, v2, v3, v4, v5, v6, v7, v8] := by cases args; simp_all
  obtain ⟨rfl, rfl⟩ := trodVars_none hV
  obtain ⟨x0, rfl, rfl, rfl, w0, k0⟩ := open_flat (ks := [.str, .int .i64, .int .i64, .bool, .bool, .bool]) Tryz.underlying23 (by kernel_rfl) (by kernel_rfl) (by kernel_rfl) (hval 0 23 v0 rfl rfl) h0
  obtain ⟨a0_0, a0_1, a0_2, a0_3, a0_4, a0_5, rfl⟩ := kinds_siibbb k0
  obtain ⟨x1, rfl, rfl, rfl, w1, k1⟩ := open_flat (ks := [.str, .int .i64, .int .i64, .bool, .bool, .bool]) Tryz.underlying23 (by kernel_rfl) (by kernel_rfl) (by kernel_rfl) (hval 1 23 v1 rfl rfl) h1
  obtain ⟨a1_0, a1_1, a1_2, a1_3, a1_4, a1_5, rfl⟩ := kinds_siibbb k1
  obtain ⟨x2, rfl, rfl, rfl, w2, k2⟩ := open_flat (ks := [.int .i64, .int .i64, .int .i64, .int .i64, .int .i64]) Tryz.underlying25 (by kernel_rfl) (by kernel_rfl) (by kernel_rfl) (hval 2 25 v2 rfl rfl) h2
  obtain ⟨a2_0, a2_1, a2_2, a2_3, a2_4, rfl⟩ := five_ints k2
  obtain ⟨x3, rfl, rfl, rfl, w3, k3⟩ := open_flat (ks := [.int .i64, .int .i64, .int .i64, .int .i64, .int .i64]) Tryz.underlying25 (by kernel_rfl) (by kernel_rfl) (by kernel_rfl) (hval 3 25 v3 rfl rfl) h3
  obtain ⟨a3_0, a3_1, a3_2, a3_3, a3_4, rfl⟩ := five_ints k3
  obtain ⟨x4, rfl, rfl, rfl, w4, k4⟩ := open_flat (ks := [.int .i64, .int .i64, .int .i64]) Tryz.underlying27 (by kernel_rfl) (by kernel_rfl) (by kernel_rfl) (hval 4 27 v4 rfl rfl) h4
  obtain ⟨a4_0, a4_1, a4_2, rfl⟩ := three_ints k4
  obtain ⟨s5, rfl, rfl, rfl, w5⟩ := open_string Tryz.underlying9 (hval 5 9 v5 rfl rfl) h5
  obtain ⟨a6, rfl, rfl, rfl, w6⟩ := open_int Tryz.underlying3 (hval 6 3 v6 rfl rfl) h6
  obtain ⟨a7, rfl, rfl, rfl, w7⟩ := open_int Tryz.underlying3 (hval 7 3 v7 rfl rfl) h7
  obtain ⟨a8, rfl, rfl, rfl, w8⟩ := open_int Tryz.underlying3 (hval 8 3 v8 rfl rfl) h8
  clear hA0 hval0
  simp only [List.append_nil] at hW'
  have hm := tells_law ⟨a0_0.data.toList, a0_1, a0_2, a0_3, a0_4, a0_5⟩ ⟨a1_0.data.toList, a1_1, a1_2, a1_3, a1_4, a1_5⟩ ⟨a2_0, a2_1, a2_2, a2_3, a2_4⟩ ⟨a3_0, a3_1, a3_2, a3_3, a3_4⟩ a4_0 a4_1 a4_2 s5.data.toList a6 a7 a8 (ref_facts w0).1 (ref_facts w0).2.1 (ref_facts w0).2.2 (ref_facts w1).1 (ref_facts w1).2.1 (ref_facts w1).2.2 (area_facts w2) (area_facts w3) (at_facts w4).1 (at_facts w4).2.1 (at_facts w4).2.2 (by have := str_max w5; simpa using this) (inI_iff.2 (wf_i64 w6)) (inI_iff.2 (wf_i64 w7)) (inI_iff.2 (wf_i64 w8))
  have S0 : ∀ {W' : World} {sp : Nat → Bool} {b : Nat} {hd : Bool}, DataW.Trod enc Tryz.prog W' b sp hd 23 _ _ [] := fun {W' sp b hd} => shut_flat (enc := enc) (w := W') (base := b) (spare := sp) (held := hd) Tryz.underlying23 (by kernel_rfl) (by kernel_rfl) (by kernel_rfl) w0
  have S1 : ∀ {W' : World} {sp : Nat → Bool} {b : Nat} {hd : Bool}, DataW.Trod enc Tryz.prog W' b sp hd 23 _ _ [] := fun {W' sp b hd} => shut_flat (enc := enc) (w := W') (base := b) (spare := sp) (held := hd) Tryz.underlying23 (by kernel_rfl) (by kernel_rfl) (by kernel_rfl) w1
  have S2 : ∀ {W' : World} {sp : Nat → Bool} {b : Nat} {hd : Bool}, DataW.Trod enc Tryz.prog W' b sp hd 25 _ _ [] := fun {W' sp b hd} => shut_flat (enc := enc) (w := W') (base := b) (spare := sp) (held := hd) Tryz.underlying25 (by kernel_rfl) (by kernel_rfl) (by kernel_rfl) w2
  have S3 : ∀ {W' : World} {sp : Nat → Bool} {b : Nat} {hd : Bool}, DataW.Trod enc Tryz.prog W' b sp hd 25 _ _ [] := fun {W' sp b hd} => shut_flat (enc := enc) (w := W') (base := b) (spare := sp) (held := hd) Tryz.underlying25 (by kernel_rfl) (by kernel_rfl) (by kernel_rfl) w3
  have S4 : ∀ {W' : World} {sp : Nat → Bool} {b : Nat} {hd : Bool}, DataW.Trod enc Tryz.prog W' b sp hd 27 _ _ [] := fun {W' sp b hd} => shut_flat (enc := enc) (w := W') (base := b) (spare := sp) (held := hd) Tryz.underlying27 (by kernel_rfl) (by kernel_rfl) (by kernel_rfl) w4
  refine (law_calls (P := Tryz.prog) (f := 3) (xs := [.agg #[.string a0_0, .int .i64 a0_1, .int .i64 a0_2, .bool a0_3, .bool a0_4, .bool a0_5], .agg #[.string a1_0, .int .i64 a1_1, .int .i64 a1_2, .bool a1_3, .bool a1_4, .bool a1_5], .agg #[.int .i64 a2_0, .int .i64 a2_1, .int .i64 a2_2, .int .i64 a2_3, .int .i64 a2_4], .agg #[.int .i64 a3_0, .int .i64 a3_1, .int .i64 a3_2, .int .i64 a3_3, .int .i64 a3_4], .agg #[.int .i64 a4_0, .int .i64 a4_1, .int .i64 a4_2], .string s5, .int .i64 a6, .int .i64 a7, .int .i64 a8]) (x := .bool true) Tryz.call3 hm (by simp [denL, den, allOne, Value.oneCell', Rf.v, Ar.v]) (by simp [den]) W (glob_of_laid hL)).mono fun e W' ⟨he, hg⟩ => ?_
  subst he
  exact ⟨_, rfl, post_of_kept (pa := []) (pv := []) hW' (fun _ _ _ => (trodAll_cons_mk (shut_bool Tryz.underlying4 _) trodAll_mk0)) (fun sp _ => (trodAll_cons_mk S0 (trodAll_cons_mk S1 (trodAll_cons_mk S2 (trodAll_cons_mk S3 (trodAll_cons_mk S4 (trodAll_cons_mk (shut_string Tryz.underlying9 w5) (trodAll_cons_mk (shut_int Tryz.underlying3 w6) (trodAll_cons_mk (shut_int Tryz.underlying3 w7) (trodAll_cons_mk (shut_int Tryz.underlying3 w8) trodAll_mk0)))))))))) (fun _ _ => rfl) rfl
    hg (ok_one (by kernel_rfl) rfl (okWide_bool_mk Tryz.underlying4 _))⟩

theorem over : Rows.refTellsRow.holds Tryz.pinned (OpenSpec.ofChange Rows.refTellsSpec) :=
  OpenClaim.holds_of_wide 3 Tryz.f3 rfl rfl rfl rfl rfl rfl rfl ⟨rfl, rfl, rfl, rfl, rfl⟩ rfl rfl rfl rfl rfl (by kernel_rfl) Tryz.func3 (by kernel_rfl)
    (of_decide_eq_true (by kernel_rfl)) (by unfold Func.isWrapper; first | (rw [if_pos (by decide +kernel)]; kernel_rfl) | (rw [if_neg (by decide +kernel)]; exact ⟨rfl, rfl⟩))
    (fun os started H enc _ => lifted os started H enc)


theorem proved : Rows.RefTellsCardSaid :=
  Claim7.holds_tied_plain_at .later [] [.data, .data, .data, .data, .sentinel, .sentinel, .pinned] true (true, "b9d0863de5013355c2c3a76b0b31d8caec4fabba767b75ba4b6aee1743f490cb") true over (fun _ h => by cases h) (by kernel_rfl) (fun _ h => by cases h) refTells_row_tie rfl ⟨rfl, rfl⟩ (by kernel_rfl) rfl
    (fun f fn hf hfn => by
      obtain rfl : f = 3 := Option.some.inj ((show Tryz.prog.funcNamed "tabula/tabulalaw02.RefTells" = some 3 by kernel_rfl).symm.trans hf) |>.symm
      obtain rfl : fn = Tryz.f3 := (Option.some.inj (Tryz.func3.symm.trans hfn)).symm
      exact ⟨by kernel_rfl, fun j t ht => by
        rw [Tryz.params3] at ht
        have hm : t ∈ [23, 23, 25, 25, 27, 9, 3, 3, 3] := by simpa using Array.mem_of_getElem? ht
        have hall : ([23, 23, 25, 25, 27, 9, 3, 3, 3].all fun u => !Tryz.prog.wantsStandIn u) = true := by kernel_rfl
        exact (show Tryz.prog.wantsStandIn t = false by simpa using List.all_eq_true.1 hall t hm)⟩)
    (by kernel_rfl)
end Go.Proofs.YtanhlbdcjonaoaaGreatDoor.refTells
