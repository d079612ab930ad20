/- SpillMore: for every input the law returns true, and each argument reads afterwards as it read before: no condition but the tables that the row lists, tied to the program's text. -/
import Derived.Test.YtphhepnldndbhaaGreatDoorSrP
import Derived.Test.YtphhepnldndbhaaGreatDoorGr12
import Derived.Test.YtphhepnldndbhaaGreatDoorCards
import Derived.Test.YtphhepnldndbhaaGreatDoorTie
import Derived.LaidMore
import Derived.Lay
import Derived.SevenTiedAt
import Derived.Stop.Joined
set_option linter.unusedVariables false
set_option linter.unusedSimpArgs false
namespace Go.Proofs.YtphhepnldndbhaaGreatDoor.spillMore
open Go Sx Go.ChangeShapes Go.WideShapes Go.ChangeAt Go.RowKit Go.ChangeMaps
theorem own : ownKnob Tryz.prog.godebug = none := by kernel_rfl

set_option maxRecDepth 100000 in
theorem lifted (os : Os) (started : os.Started) (H : Type) (enc : TypeId × Value → H) :
    ReturnsInHanded {} Tryz.checked os 6 .any (fun w args => (Rows.spillMoreSpec.pre enc Tryz.prog Tryz.f6 Rows.spillMoreRow.domain false w args ∧ laidMetH Tryz.prog Rows.spillMoreRow.laid w) ∧ sizedMet enc Tryz.prog Tryz.f6 (OpenSpec.ofChange Rows.spillMoreSpec) false w args)
      (Rows.spillMoreSpec.post enc Tryz.prog Tryz.f6 false true false false) := by
  refine returnsInHanded_both (C := Tryz.checked) (X := fun w _ => laidMetH Tryz.prog Rows.spillMoreRow.laid w) (fun _ _ _ hh h => h.of_heap hh) own started (by kernel_rfl) Tryz.func6
    (ChangeSpec.witness_shaped (enc := enc) (C := Tryz.checked) (os := os) (X := fun w _ => laidMetH Tryz.prog Rows.spillMoreRow.laid w) false (World.laidAll Tryz.prog os Rows.spillMoreRow.laid)
      #[.slice none 0 0, .slice none 0 0, .int .i64 0] 8 (World.laidAll_os _ _ _)
      (World.shaped_of_ZipB (by kernel_rfl) (by kernel_rfl)) (by kernel_rfl) (by kernel_rfl) (by kernel_rfl)
      (by rw [MakeChecks.laidMetH_plain _ _ _ (by kernel_rfl)]; exact laidMet_laidAll _ (by kernel_rfl) (by kernel_rfl))) ?_
  intro W base args ds gs before hval0 hW hL hsh
  have hval : ∀ (j : Nat) t v, Tryz.f6.params[j]? = some t → args[j]? = some v → Value.okWide Tryz.prog W .any base t v := hval0
  have hW' := hW
  obtain ⟨p, q, hA0, hV, rfl, hfz, hnd⟩ := hW
  have hA : DataW.TrodAll enc Tryz.prog W 0 (fun _ => true) true Tryz.f6.params.toList args.toList ds p := hA0
  have hAk := hA
  rw [Tryz.params6] at hA hval
  obtain ⟨v0, vs0, d0, ds0, p0, q0, hargs, rfl, rfl, h0, r0⟩ := trodAll_cons hA
  obtain ⟨v1, vs1, d1, ds1, p1, q1, rfl, rfl, rfl, h1, r1⟩ := trodAll_cons r0
  obtain ⟨v2, vs2, d2, ds2, p2, q2, rfl, rfl, rfl, h2, r2⟩ := trodAll_cons r1
  obtain ⟨rfl, rfl, rfl⟩ := trodAll_nil r2
  obtain rfl : args = #[v0, v1, v2] := by cases args; simp_all
  obtain ⟨rfl, rfl⟩ := trodVars_none hV
  obtain ⟨R, a, b0, k0, hden0, hA1, hobj0, hund0⟩ := open_ats (hval 0 22 v0 rfl rfl) h0
  obtain ⟨Z, z, b1, k1, hden1, hZ1, hobj1, hund1⟩ := open_sizes (hval 1 23 v1 rfl rfl) h1
  obtain ⟨a2, rfl, rfl, rfl, w2⟩ := open_int Tryz.underlying3 (hval 2 3 v2 rfl rfl) h2
  clear hA0 hval0
  have hlt : ∀ x ∈ (p0 ++ (p1 ++ ([] ++ []))), x.block < W.heap.size := fun x hx => hW'.lt x (by simpa using hx)
  have hm := sm_meets hA1 hZ1 (inI_of w2)
  refine (law_calls_rows (P := Tryz.prog) (f := 6) (xs := [v0, v1, .int .i64 a2]) (E := fun n => if n = 0 then some (b0, k0) else if n = 1 then some (b1, k1) else none) (by decide) Tryz.call6 hm
    (by
      have hE0 := hden0 (fun n => if n = 0 then some (b0, k0) else if n = 1 then some (b1, k1) else none) 0 rfl
      have hE1 := hden1 (fun n => if n = 0 then some (b0, k0) else if n = 1 then some (b1, k1) else none) 1 rfl
      simp only [denL, hE0, hE1]
      try simp [denL, den, allOne, Value.oneCell']) (fun n o h => ?_) (fun n h => ?_) (glob_of_laid (show laidMetH Tryz.prog Rows.spillMoreRow.laid W from hL) hsh) (fun m b' c' k e1 e2 => ?_)).mono fun e W' ⟨he, hg, hheap⟩ => ?_
  · match n with
    | 0 => cases h; exact ⟨rfl, b0, k0, rfl, hobj0 _⟩
    | 1 => cases h; exact ⟨rfl, b1, k1, rfl, hobj1 _⟩
    | n + 2 => simp at h
  · have h : 2 ≤ n := h
    rw [if_neg (by omega), if_neg (by omega)]
  · split at e1
    · cases e1; exact absurd e2 (hund0 k)
    · split at e1
      · cases e1; exact absurd e2 (hund1 k)
      · cases e1
  · subst he
    refine ⟨_, rfl, post_of_kept (pv := []) hW' (fun _ _ _ => (trodAll_cons_mk (shut_bool Tryz.underlying4 _) trodAll_mk0)) (fun sp hsp => DataW.TrodAll.respare kids full (by rw [Tryz.params6]; decide) (trodAll_carry hAk fun x hx => kept_same hheap (hlt x (by simpa using hx))) (fun x hx => hsp x (by simpa using hx))) (fun _ _ => rfl) (by simp)
      hg (ok_one (by kernel_rfl) rfl (okWide_bool_mk Tryz.underlying4 _))⟩

theorem and_i {a b : Bool} (ha : a = true) (hb : b = true) : (a && b) = true := by rw [ha, hb]; rfl
theorem j0 : (Rows.spillMoreRow.wf (OpenSpec.ofChange Rows.spillMoreSpec)) = true := by kernel_rfl
theorem j1 : (laidOutB Tryz.prog) = true := by kernel_rfl
theorem j2 : (mapsRowed Tryz.prog) = true := by kernel_rfl
theorem j3 : (Tryz.f6.params.all (Tryz.prog.readableRec ·)) = true := by kernel_rfl
theorem j4 : (namedTie Tryz.prog Rows.spillMoreRow.named Rows.spillMoreSpec.vars) = true := by kernel_rfl
theorem j5 : ((Rows.spillMoreRow.stops == [])) = true := by kernel_rfl
theorem j6 : ((Tryz.prog.stops == [])) = true := by kernel_rfl
theorem j7 : ((Rows.spillMoreRow.knobs == [])) = true := by kernel_rfl
theorem j8 : ((Tryz.prog.stopKnobs == [])) = true := by kernel_rfl
theorem j9 : ((Rows.spillMoreRow.inPlace == Tryz.prog.inPlace 6)) = true := by kernel_rfl
theorem j10 : ((Rows.spillMoreRow.unfollowed == Tryz.prog.unfollowed 6)) = true := by kernel_rfl
theorem j11 : ((Rows.spillMoreRow.recurses == Tryz.prog.recurses 6)) = true := by kernel_rfl
theorem j12 : ((Rows.spillMoreRow.named == Tryz.prog.varsNamed 6)) = true := by kernel_rfl
theorem j13 : ((Rows.spillMoreRow.maps == (Tryz.f6.params.toList ++ Rows.spillMoreSpec.plain.varTypes Tryz.prog).any (Tryz.prog.mapsRec ·))) = true := by kernel_rfl
theorem j14 : ((Rows.spillMoreRow.ifaces == (Tryz.f6.params.toList ++ Rows.spillMoreSpec.plain.varTypes Tryz.prog).any (Tryz.prog.ifacesRec ·))) = true := by kernel_rfl
theorem j15 : ((Rows.spillMoreRow.mapsOut == Tryz.prog.mapsAmong Tryz.f6.resultTypes.toList)) = true := by kernel_rfl
theorem j16 : ((Rows.spillMoreRow.loops == (Tryz.f6.params.toList ++ Rows.spillMoreSpec.plain.varTypes Tryz.prog).any (Tryz.prog.loopsFrom ·))) = true := by kernel_rfl
theorem j17 : ((Rows.spillMoreRow.wideKeys == (Tryz.f6.params.toList ++ Rows.spillMoreSpec.plain.varTypes Tryz.prog ++ Tryz.f6.resultTypes.toList).any (Tryz.prog.wideKeysFrom ·))) = true := by kernel_rfl
theorem j18 : (Rows.spillMoreSpec.vars.all (Tryz.prog.varReadable ·)) = true := by kernel_rfl
theorem j20 : ((Rows.spillMoreRow.ifacesOut == Tryz.f6.resultTypes.toList.any (Tryz.prog.ifacesRec ·))) = true := by kernel_rfl
theorem j21 : ((Rows.spillMoreRow.loopsOut == Tryz.f6.resultTypes.toList.any (Tryz.prog.loopsFrom ·))) = true := by kernel_rfl
theorem j22 : ((Rows.spillMoreRow.plainKeys == Tryz.prog.plainKeys)) = true := by kernel_rfl
theorem j23 : (Rows.spillMoreRow.shortTexts.isNone) = true := by kernel_rfl
theorem j24 : (Tryz.prog.stopsHeard) = true := by kernel_rfl
theorem j25 : (Tryz.prog.mayEnter) = true := by kernel_rfl
theorem j26 : ((Rows.spillMoreRow.lifted == Tryz.prog.liftsFinal)) = true := by kernel_rfl
theorem j27 : ((Tryz.prog.make == some Rows.spillMoreRow.make)) = true := by kernel_rfl
theorem j29 : ((Rows.spillMoreRow.pinned == Rows.spillMoreRow.pinnedBy)) = true := by kernel_rfl
theorem j30 : ((Rows.spillMoreRow.veiled == (Tryz.f6.params.toList ++ Rows.spillMoreSpec.plain.varTypes Tryz.prog ++ Tryz.f6.resultTypes.toList).any (Tryz.prog.veiledRec ·))) = true := by kernel_rfl
theorem j31 : (Rows.spillMoreRow.veiledFits Tryz.prog Tryz.f6.params.toList (Tryz.f6.params.toList ++ Rows.spillMoreSpec.plain.varTypes Tryz.prog ++ Tryz.f6.resultTypes.toList)) = true := by kernel_rfl
theorem closed : joinedFacts Tryz.prog 6 Tryz.f6 Rows.spillMoreSpec Rows.spillMoreRow = true := by
  unfold joinedFacts
  exact (and_i (and_i (and_i (and_i (and_i (and_i (and_i (and_i (and_i (and_i (and_i (and_i (and_i (and_i (and_i (and_i (and_i (and_i (and_i (and_i (and_i (and_i (and_i (and_i (and_i (and_i (and_i (and_i (and_i (and_i (and_i j0 j1) j2) j3) j4) j5) j6) j7) j8) j9) j10) j11) j12) j13) j14) j15) j16) j17) j18) (by kernel_rfl)) j20) j21) j22) j23) j24) j25) j26) j27) (by kernel_rfl)) j29) j30) j31)
theorem named : Tryz.prog.funcNamed "tabula/tabulalaw14.SpillMore" = some 6 := by kernel_rfl
theorem over : Rows.spillMoreRow.holds Tryz.pinned (OpenSpec.ofChange Rows.spillMoreSpec) :=
  OpenClaim.holds_of_wide 6 Tryz.f6 rfl rfl rfl rfl rfl rfl rfl ⟨rfl, rfl, rfl, rfl, rfl⟩ rfl rfl rfl rfl rfl named Tryz.func6 closed
    (of_decide_eq_true (by kernel_rfl)) (by unfold Func.isWrapper; first | (rw [if_pos (by decide +kernel)]; kernel_rfl) | (rw [if_neg (by decide +kernel)]; exact ⟨rfl, rfl⟩))
    (fun os started H enc _ => lifted os started H enc)
theorem byText : Rows.spillMoreRow.wfByText (OpenSpec.ofChange Rows.spillMoreSpec) = true := by kernel_rfl
theorem mainT : Tryz.checked.prog.mainIs = some (true, "c85f2c943e6e02ad8e55fb0b6724a11ed4d36683a9ef96ef3ceb05c9857922f3".toList) := by kernel_rfl
theorem lookT : true = Tryz.checked.prog.looks [] := by kernel_rfl
theorem stand : ([22, 23, 3].all fun u => !Tryz.prog.wantsStandIn u) = true := by kernel_rfl
theorem goes : false = Rows.spillMoreRow.goesBy Tryz.checked.prog := by kernel_rfl
theorem proved : Rows.SpillMoreCardSaid :=
  Claim7.holds_tied_plain_at .later [] [.data, .data, .data, .data, .sentinel, .sentinel, .data, .data, .pinned] true (true, "c85f2c943e6e02ad8e55fb0b6724a11ed4d36683a9ef96ef3ceb05c9857922f3") true over (fun _ h => by cases h) byText (fun _ h => by cases h) spillMore_row_tie rfl ⟨rfl, rfl⟩ mainT rfl
    (fun f fn hf hfn => by
      obtain rfl : f = 6 := Option.some.inj ((show Tryz.prog.funcNamed "tabula/tabulalaw14.SpillMore" = some 6 from named).symm.trans hf) |>.symm
      obtain rfl : fn = Tryz.f6 := (Option.some.inj (Tryz.func6.symm.trans hfn)).symm
      exact ⟨lookT, fun j t ht => by
        rw [Tryz.params6] at ht
        have hm : t ∈ [22, 23, 3] := by simpa using Array.mem_of_getElem? ht
        exact (show Tryz.prog.wantsStandIn t = false by simpa using List.all_eq_true.1 stand t hm)⟩)
    goes
end Go.Proofs.YtphhepnldndbhaaGreatDoor.spillMore
