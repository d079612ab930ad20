import Derived.Test.YtphhepnldndbhaaGreatDoorGr13
import Derived.Test.YtphhepnldndbhaaGreatDoorGr10
import Derived.Test.YtphhepnldndbhaaGreatDoorCards
import Derived.Test.YtphhepnldndbhaaGreatDoorTie
import Derived.LaidMore
import Derived.Lay
import Derived.SevenTiedAt
import Derived.Stop.Joined
set_option linter.unusedVariables false
set_option linter.unusedSimpArgs false
namespace Go.Proofs.YtphhepnldndbhaaGreatDoor.spillTells
open Go Sx Go.ChangeShapes Go.WideShapes Go.ChangeAt Go.RowKit Go.ChangeMaps
theorem own : ownKnob Tryz.prog.godebug = none := by kernel_rfl
set_option maxRecDepth 100000 in
theorem lifted (os : Os) (started : os.Started) (H : Type) (enc : TypeId × Value → H) :
    ReturnsInHanded {} Tryz.checked os 3 .any (fun w args => (Rows.spillTellsSpec.pre enc Tryz.prog Tryz.f3 Rows.spillTellsRow.domain false w args ∧ laidMetH Tryz.prog Rows.spillTellsRow.laid w) ∧ sizedMet enc Tryz.prog Tryz.f3 (OpenSpec.ofChange Rows.spillTellsSpec) false w args)
      (Rows.spillTellsSpec.post enc Tryz.prog Tryz.f3 false true false false) := by
  refine returnsInHanded_both (C := Tryz.checked) (X := fun w _ => laidMetH Tryz.prog Rows.spillTellsRow.laid w) (fun _ _ _ hh h => h.of_heap hh) own started (by kernel_rfl) Tryz.func3
    (ChangeSpec.witness_shaped (enc := enc) (C := Tryz.checked) (os := os) (X := fun w _ => laidMetH Tryz.prog Rows.spillTellsRow.laid w) false (World.laidAll Tryz.prog os Rows.spillTellsRow.laid)
      #[.slice none 0 0, .slice none 0 0, .int .i64 0, .agg #[.int .i64 0, .int .i64 0, .int .i64 0, .int .i64 0, .int .i64 0], .slice none 0 0, .agg #[.int .i64 0, .int .i64 0, .int .i64 0]] 8 (World.laidAll_os _ _ _)
      (World.shaped_of_ZipB (by kernel_rfl) (by kernel_rfl)) (by kernel_rfl) (by kernel_rfl) (by kernel_rfl)
      (by rw [MakeChecks.laidMetH_plain _ _ _ (by kernel_rfl)]; exact laidMet_laidAll _ (by kernel_rfl) (by kernel_rfl))) ?_
  intro W base args ds gs before hval0 hW hL hsh
  have hval : ∀ (j : Nat) t v, Tryz.f3.params[j]? = some t → args[j]? = some v → Value.okWide Tryz.prog W .any base t v := hval0
  have hW' := hW
  obtain ⟨p, q, hA0, hV, rfl, hfz, hnd⟩ := hW
  have hA : DataW.TrodAll enc Tryz.prog W 0 (fun _ => true) true Tryz.f3.params.toList args.toList ds p := hA0
  have hAk := hA
  rw [Tryz.params3] at hA hval
  obtain ⟨v0, vs0, d0, ds0, p0, q0, hargs, rfl, rfl, h0, r0⟩ := trodAll_cons hA
  obtain ⟨v1, vs1, d1, ds1, p1, q1, rfl, rfl, rfl, h1, r1⟩ := trodAll_cons r0
  obtain ⟨v2, vs2, d2, ds2, p2, q2, rfl, rfl, rfl, h2, r2⟩ := trodAll_cons r1
  obtain ⟨v3, vs3, d3, ds3, p3, q3, rfl, rfl, rfl, h3, r3⟩ := trodAll_cons r2
  obtain ⟨v4, vs4, d4, ds4, p4, q4, rfl, rfl, rfl, h4, r4⟩ := trodAll_cons r3
  obtain ⟨v5, vs5, d5, ds5, p5, q5, rfl, rfl, rfl, h5, r5⟩ := trodAll_cons r4
  obtain ⟨rfl, rfl, rfl⟩ := trodAll_nil r5
  obtain rfl : args = #[v0, v1, v2, v3, v4, v5] := by cases args; simp_all
  obtain ⟨rfl, rfl⟩ := trodVars_none hV
  obtain ⟨R, a, b0, k0, hden0, hA1, hobj0, hund0⟩ := open_ats (hval 0 22 v0 rfl rfl) h0
  obtain ⟨Z, z, b1, k1, hden1, hZ1, hobj1, hund1⟩ := open_sizes (hval 1 23 v1 rfl rfl) h1
  obtain ⟨a2, rfl, rfl, rfl, w2⟩ := open_int Tryz.underlying3 (hval 2 3 v2 rfl rfl) h2
  obtain ⟨o0, o1, o2, o3, o4, rfl, g1, g2⟩ := Dp.open_spillv (hval 3 27 v3 rfl rfl) h3
  obtain ⟨S, nS, b2, k2, hden2, hS1, hobj2, hund2⟩ := Dp.open_spills (hval 4 28 v4 rfl rfl) h4
  obtain ⟨x5, rfl, rfl, rfl, w5, k15⟩ := open_flat (ks := [.int .i64, .int .i64, .int .i64]) Tryz.underlying25 (by kernel_rfl) (by kernel_rfl) (by kernel_rfl) (hval 5 25 v5 rfl rfl) h5
  obtain ⟨s, r, c, rfl⟩ := three_ints k15
  have is : inI s = true := inI_of (w5 (.int .i64 s) (by simp))
  have ir : inI r = true := inI_of (w5 (.int .i64 r) (by simp))
  have ic : inI c = true := inI_of (w5 (.int .i64 c) (by simp))
  clear hA0 hval0
  have hlt : ∀ x ∈ (p0 ++ (p1 ++ ([] ++ (p3 ++ (p4 ++ ([] ++ [])))))), x.block < W.heap.size := fun x hx => hW'.lt x (by simpa using hx)
  have hm := Dp.st_meets (o0 := o0) (o3 := o3) (o4 := o4) hA1 hZ1 hS1 (inI_of w2) g1 g2 is ir ic
  refine (law_calls_rows (P := Tryz.prog) (f := 3) (xs := [v0, v1, .int .i64 a2, .agg #[.int .i64 o0, .int .i64 o1, .int .i64 o2, .int .i64 o3, .int .i64 o4], v4, .agg #[.int .i64 s, .int .i64 r, .int .i64 c]]) (E := fun n => if n = 0 then some (b0, k0) else if n = 1 then some (b1, k1) else if n = 2 then some (b2, k2) else none) (by decide) Tryz.call3 hm
    (by
      have hE0 := hden0 (fun n => if n = 0 then some (b0, k0) else if n = 1 then some (b1, k1) else if n = 2 then some (b2, k2) else none) 0 rfl
      have hE1 := hden1 (fun n => if n = 0 then some (b0, k0) else if n = 1 then some (b1, k1) else if n = 2 then some (b2, k2) else none) 1 rfl
      have hE2 := hden2 (fun n => if n = 0 then some (b0, k0) else if n = 1 then some (b1, k1) else if n = 2 then some (b2, k2) else none) 2 rfl
      simp only [denL, hE0, hE1, hE2]
      try simp [denL, den, allOne, Value.oneCell']) (fun n o h => ?_) (fun n h => ?_) (glob_of_laid (show laidMetH Tryz.prog Rows.spillTellsRow.laid W from hL) hsh) (fun m b' c' k e1 e2 => ?_)).mono fun e W' ⟨he, hg, hheap⟩ => ?_
  · match n with
    | 0 => cases h; exact ⟨rfl, b0, k0, rfl, hobj0 _⟩
    | 1 => cases h; exact ⟨rfl, b1, k1, rfl, hobj1 _⟩
    | 2 => cases h; exact ⟨rfl, b2, k2, rfl, hobj2 _⟩
    | n + 3 => simp at h
  · have h : 3 ≤ n := h
    rw [if_neg (by omega), if_neg (by omega), if_neg (by omega)]
  · split at e1
    · cases e1; exact absurd e2 (hund0 k)
    · split at e1
      · cases e1; exact absurd e2 (hund1 k)
      · split at e1
        · cases e1; exact absurd e2 (hund2 k)
        · cases e1
  · subst he
    refine ⟨_, rfl, post_of_kept (pv := []) hW' (fun _ _ _ => (trodAll_cons_mk (shut_bool Tryz.underlying4 _) trodAll_mk0)) (fun sp hsp => DataW.TrodAll.respare kids full (by rw [Tryz.params3]; decide) (trodAll_carry hAk fun x hx => kept_same hheap (hlt x (by simpa using hx))) (fun x hx => hsp x (by simpa using hx))) (fun _ _ => rfl) (by simp)
      hg (ok_one (by kernel_rfl) rfl (okWide_bool_mk Tryz.underlying4 _))⟩
theorem and_i {a b : Bool} (ha : a = true) (hb : b = true) : (a && b) = true := by rw [ha, hb]; rfl
theorem j0 : (Rows.spillTellsRow.wf (OpenSpec.ofChange Rows.spillTellsSpec)) = true := by kernel_rfl
theorem j1 : (laidOutB Tryz.prog) = true := by kernel_rfl
theorem j2 : (mapsRowed Tryz.prog) = true := by kernel_rfl
theorem j3 : (Tryz.f3.params.all (Tryz.prog.readableRec ·)) = true := by kernel_rfl
theorem j4 : (namedTie Tryz.prog Rows.spillTellsRow.named Rows.spillTellsSpec.vars) = true := by kernel_rfl
theorem j5 : ((Rows.spillTellsRow.stops == [])) = true := by kernel_rfl
theorem j6 : ((Tryz.prog.stops == [])) = true := by kernel_rfl
theorem j7 : ((Rows.spillTellsRow.knobs == [])) = true := by kernel_rfl
theorem j8 : ((Tryz.prog.stopKnobs == [])) = true := by kernel_rfl
theorem j9 : ((Rows.spillTellsRow.inPlace == Tryz.prog.inPlace 3)) = true := by kernel_rfl
theorem j10 : ((Rows.spillTellsRow.unfollowed == Tryz.prog.unfollowed 3)) = true := by kernel_rfl
theorem j11 : ((Rows.spillTellsRow.recurses == Tryz.prog.recurses 3)) = true := by kernel_rfl
theorem j12 : ((Rows.spillTellsRow.named == Tryz.prog.varsNamed 3)) = true := by kernel_rfl
theorem j13 : ((Rows.spillTellsRow.maps == (Tryz.f3.params.toList ++ Rows.spillTellsSpec.plain.varTypes Tryz.prog).any (Tryz.prog.mapsRec ·))) = true := by kernel_rfl
theorem j14 : ((Rows.spillTellsRow.ifaces == (Tryz.f3.params.toList ++ Rows.spillTellsSpec.plain.varTypes Tryz.prog).any (Tryz.prog.ifacesRec ·))) = true := by kernel_rfl
theorem j15 : ((Rows.spillTellsRow.mapsOut == Tryz.prog.mapsAmong Tryz.f3.resultTypes.toList)) = true := by kernel_rfl
theorem j16 : ((Rows.spillTellsRow.loops == (Tryz.f3.params.toList ++ Rows.spillTellsSpec.plain.varTypes Tryz.prog).any (Tryz.prog.loopsFrom ·))) = true := by kernel_rfl
theorem j17 : ((Rows.spillTellsRow.wideKeys == (Tryz.f3.params.toList ++ Rows.spillTellsSpec.plain.varTypes Tryz.prog ++ Tryz.f3.resultTypes.toList).any (Tryz.prog.wideKeysFrom ·))) = true := by kernel_rfl
theorem j18 : (Rows.spillTellsSpec.vars.all (Tryz.prog.varReadable ·)) = true := by kernel_rfl
theorem j20 : ((Rows.spillTellsRow.ifacesOut == Tryz.f3.resultTypes.toList.any (Tryz.prog.ifacesRec ·))) = true := by kernel_rfl
theorem j21 : ((Rows.spillTellsRow.loopsOut == Tryz.f3.resultTypes.toList.any (Tryz.prog.loopsFrom ·))) = true := by kernel_rfl
theorem j22 : ((Rows.spillTellsRow.plainKeys == Tryz.prog.plainKeys)) = true := by kernel_rfl
theorem j23 : (Rows.spillTellsRow.shortTexts.isNone) = true := by kernel_rfl
theorem j24 : (Tryz.prog.stopsHeard) = true := by kernel_rfl
theorem j25 : (Tryz.prog.mayEnter) = true := by kernel_rfl
theorem j26 : ((Rows.spillTellsRow.lifted == Tryz.prog.liftsFinal)) = true := by kernel_rfl
theorem j27 : ((Tryz.prog.make == some Rows.spillTellsRow.make)) = true := by kernel_rfl
theorem j29 : ((Rows.spillTellsRow.pinned == Rows.spillTellsRow.pinnedBy)) = true := by kernel_rfl
theorem j30 : ((Rows.spillTellsRow.veiled == (Tryz.f3.params.toList ++ Rows.spillTellsSpec.plain.varTypes Tryz.prog ++ Tryz.f3.resultTypes.toList).any (Tryz.prog.veiledRec ·))) = true := by kernel_rfl
theorem j31 : (Rows.spillTellsRow.veiledFits Tryz.prog Tryz.f3.params.toList (Tryz.f3.params.toList ++ Rows.spillTellsSpec.plain.varTypes Tryz.prog ++ Tryz.f3.resultTypes.toList)) = true := by kernel_rfl
theorem closed : joinedFacts Tryz.prog 3 Tryz.f3 Rows.spillTellsSpec Rows.spillTellsRow = true := by
  unfold joinedFacts
  exact (and_i (and_i (and_i (and_i (and_i (and_i (and_i (and_i (and_i (and_i (and_i (and_i (and_i (and_i (and_i (and_i (and_i (and_i (and_i (and_i (and_i (and_i (and_i (and_i (and_i (and_i (and_i (and_i (and_i (and_i (and_i j0 j1) j2) j3) j4) j5) j6) j7) j8) j9) j10) j11) j12) j13) j14) j15) j16) j17) j18) (by kernel_rfl)) j20) j21) j22) j23) j24) j25) j26) j27) (by kernel_rfl)) j29) j30) j31)
theorem named : Tryz.prog.funcNamed "tabula/tabulalaw14.SpillTells" = some 3 := by kernel_rfl
theorem over : Rows.spillTellsRow.holds Tryz.pinned (OpenSpec.ofChange Rows.spillTellsSpec) :=
  OpenClaim.holds_of_wide 3 Tryz.f3 rfl rfl rfl rfl rfl rfl rfl ⟨rfl, rfl, rfl, rfl, rfl⟩ rfl rfl rfl rfl rfl named Tryz.func3 closed
    (of_decide_eq_true (by kernel_rfl)) (by unfold Func.isWrapper; first | (rw [if_pos (by decide +kernel)]; kernel_rfl) | (rw [if_neg (by decide +kernel)]; exact ⟨rfl, rfl⟩))
    (fun os started H enc _ => lifted os started H enc)
theorem byText : Rows.spillTellsRow.wfByText (OpenSpec.ofChange Rows.spillTellsSpec) = true := by kernel_rfl
theorem mainT : Tryz.checked.prog.mainIs = some (true, "c85f2c943e6e02ad8e55fb0b6724a11ed4d36683a9ef96ef3ceb05c9857922f3".toList) := by kernel_rfl
theorem lookT : true = Tryz.checked.prog.looks [] := by kernel_rfl
theorem stand : ([22, 23, 3, 27, 28, 25].all fun u => !Tryz.prog.wantsStandIn u) = true := by kernel_rfl
theorem goes : false = Rows.spillTellsRow.goesBy Tryz.checked.prog := by kernel_rfl
theorem proved : Rows.SpillTellsCardSaid :=
  Claim7.holds_tied_plain_at .later [] [.data, .data, .data, .data, .sentinel, .sentinel, .data, .data, .pinned] true (true, "c85f2c943e6e02ad8e55fb0b6724a11ed4d36683a9ef96ef3ceb05c9857922f3") true over (fun _ h => by cases h) byText (fun _ h => by cases h) spillTells_row_tie rfl ⟨rfl, rfl⟩ mainT rfl
    (fun f fn hf hfn => by
      obtain rfl : f = 3 := Option.some.inj ((show Tryz.prog.funcNamed "tabula/tabulalaw14.SpillTells" = some 3 from named).symm.trans hf) |>.symm
      obtain rfl : fn = Tryz.f3 := (Option.some.inj (Tryz.func3.symm.trans hfn)).symm
      exact ⟨lookT, fun j t ht => by
        rw [Tryz.params3] at ht
        have hm : t ∈ [22, 23, 3, 27, 28, 25] := by simpa using Array.mem_of_getElem? ht
        exact (show Tryz.prog.wantsStandIn t = false by simpa using List.all_eq_true.1 stand t hm)⟩)
    goes
end Go.Proofs.YtphhepnldndbhaaGreatDoor.spillTells
