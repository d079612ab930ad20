/- RefMeet: for every input the law returns true, and each argument reads afterwards as it read before: no condition but the tables that the row lists, tied to the program's text. -/
import Derived.Test.YtpdhfopfjoinnaaDoorRbD
import Derived.Test.YtpdhfopfjoinnaaDoorSxZ
import Derived.Test.YtpdhfopfjoinnaaDoorCards
import Derived.Test.YtpdhfopfjoinnaaDoorTie
import Derived.LaidMore
import Derived.Lay
import Derived.SevenTiedAt
import Derived.Stop.Joined
set_option linter.unusedVariables false
set_option linter.unusedSimpArgs false
namespace Go.Proofs.YtpdhfopfjoinnaaDoor.refMeet
open Go Sx Go.ChangeShapes Go.WideShapes Go.ChangeAt Go.RowKit Go.ChangeMaps
theorem own : ownKnob Tryd.prog.godebug = none := by kernel_rfl

theorem glob_none (W : World) : GlobOK W fun _ => False := fun g l h => by cases h

theorem at_meet (a0 a1 a2 a3 a4 b0 b1 b2 b3 b4 c0 c1 c2 c3 c4 p0 p1 p2 : Int) (wa : ∀ x ∈ [FV.int .i64 a0, .int .i64 a1, .int .i64 a2, .int .i64 a3, .int .i64 a4], x.ok) (wb : ∀ x ∈ [FV.int .i64 b0, .int .i64 b1, .int .i64 b2, .int .i64 b3, .int .i64 b4], x.ok) (wc : ∀ x ∈ [FV.int .i64 c0, .int .i64 c1, .int .i64 c2, .int .i64 c3, .int .i64 c4], x.ok) (wp : ∀ x ∈ [FV.int .i64 p0, .int .i64 p1, .int .i64 p2], x.ok) :
    Meets Tryd.prog 7 [.agg [.int .i64 a0, .int .i64 a1, .int .i64 a2, .int .i64 a3, .int .i64 a4], .agg [.int .i64 b0, .int .i64 b1, .int .i64 b2, .int .i64 b3, .int .i64 b4], .agg [.int .i64 c0, .int .i64 c1, .int .i64 c2, .int .i64 c3, .int .i64 c4], .agg [.int .i64 p0, .int .i64 p1, .int .i64 p2]] [] (.bool true) [] := by
  have f5 : ∀ {a b c d e : Int}, (∀ x ∈ [FV.int .i64 a, .int .i64 b, .int .i64 c, .int .i64 d, .int .i64 e], x.ok) → Ar.inB ⟨a, b, c, d, e⟩ = true := by
    intro a b c d e h
    have h1 := wf_i64 (h (.int .i64 a) (by simp))
    have h2 := wf_i64 (h (.int .i64 b) (by simp))
    have h3 := wf_i64 (h (.int .i64 c) (by simp))
    have h4 := wf_i64 (h (.int .i64 d) (by simp))
    have h5 := wf_i64 (h (.int .i64 e) (by simp))
    rw [Ar.in_iff]
    dsimp only
    omega
  have hp : (inI p0 && inI p1 && inI p2) = true := by
    have h1 := wf_i64 (wp (.int .i64 p0) (by simp))
    have h2 := wf_i64 (wp (.int .i64 p1) (by simp))
    have h3 := wf_i64 (wp (.int .i64 p2) (by simp))
    simp only [inI, Bool.and_eq_true, decide_eq_true_eq]
    omega
  exact meet_law _ _ _ _ _ _ _ _ _ _ _ _ _ _ _ _ _ _ (f5 wa) (f5 wb) (f5 wc) hp

set_option maxRecDepth 100000 in
theorem lifted (os : Os) (started : os.Started) (H : Type) (enc : TypeId × Value → H) :
    ReturnsInHanded {} Tryd.checked os 7 .any (fun w args => (Rows.refMeetSpec.pre enc Tryd.prog Tryd.f7 Rows.refMeetRow.domain false w args ∧ laidMetH Tryd.prog Rows.refMeetRow.laid w) ∧ sizedMet enc Tryd.prog Tryd.f7 (OpenSpec.ofChange Rows.refMeetSpec) false w args)
      (Rows.refMeetSpec.post enc Tryd.prog Tryd.f7 false true false false) := by
  refine returnsInHanded_of_change_and (C := Tryd.checked) (X := fun w _ => laidMetH Tryd.prog Rows.refMeetRow.laid w) (fun _ _ _ hh h => h.of_heap hh) own started (by kernel_rfl) Tryd.func7
    (ChangeSpec.witness_shaped (enc := enc) (C := Tryd.checked) (os := os) (X := fun w _ => laidMetH Tryd.prog Rows.refMeetRow.laid w) false (World.laidAll Tryd.prog os Rows.refMeetRow.laid)
      #[.agg #[.int .i64 0, .int .i64 0, .int .i64 0, .int .i64 0, .int .i64 0], .agg #[.int .i64 0, .int .i64 0, .int .i64 0, .int .i64 0, .int .i64 0], .agg #[.int .i64 0, .int .i64 0, .int .i64 0, .int .i64 0, .int .i64 0], .agg #[.int .i64 0, .int .i64 0, .int .i64 0]] 8 (World.laidAll_os _ _ _)
      (World.shaped_of_ZipB (by kernel_rfl) (by kernel_rfl)) (by kernel_rfl) (by kernel_rfl) (by kernel_rfl)
      (by rw [MakeChecks.laidMetH_plain _ _ _ (by kernel_rfl)]; exact laidMet_laidAll _ (by kernel_rfl) (by kernel_rfl))) ?_
  intro W base args ds gs before hval0 hW hcnd _ hL _
  have hval : ∀ (j : Nat) t v, Tryd.f7.params[j]? = some t → args[j]? = some v → Value.okWide Tryd.prog W .any base t v := hval0
  have hW' := hW
  obtain ⟨p, q, hA0, hV, rfl, hfz, hnd⟩ := hW
  have hA : DataW.TrodAll enc Tryd.prog W 0 (fun _ => true) true Tryd.f7.params.toList args.toList ds p := hA0
  rw [Tryd.params7] at hA hval
  obtain ⟨v0, vs0, d0, ds0, p0, q0, hargs, rfl, rfl, h0, r0⟩ := trodAll_cons hA
  obtain ⟨v1, vs1, d1, ds1, p1, q1, rfl, rfl, rfl, h1, r1⟩ := trodAll_cons r0
  obtain ⟨v2, vs2, d2, ds2, p2, q2, rfl, rfl, rfl, h2, r2⟩ := trodAll_cons r1
  obtain ⟨v3, vs3, d3, ds3, p3, q3, rfl, rfl, rfl, h3, r3⟩ := trodAll_cons r2
  obtain ⟨rfl, rfl, rfl⟩ := trodAll_nil r3
  obtain rfl : args = #[v0, v1, v2, v3] := by cases args; simp_all
  obtain ⟨rfl, rfl⟩ := trodVars_none hV
  obtain ⟨x0, rfl, rfl, rfl, w0, k0⟩ := open_flat (ks := [.int .i64, .int .i64, .int .i64, .int .i64, .int .i64]) Tryd.underlying45 (by kernel_rfl) (by kernel_rfl) (by kernel_rfl) (hval 0 45 v0 rfl rfl) h0
  obtain ⟨x1, rfl, rfl, rfl, w1, k1⟩ := open_flat (ks := [.int .i64, .int .i64, .int .i64, .int .i64, .int .i64]) Tryd.underlying45 (by kernel_rfl) (by kernel_rfl) (by kernel_rfl) (hval 1 45 v1 rfl rfl) h1
  obtain ⟨x2, rfl, rfl, rfl, w2, k2⟩ := open_flat (ks := [.int .i64, .int .i64, .int .i64, .int .i64, .int .i64]) Tryd.underlying45 (by kernel_rfl) (by kernel_rfl) (by kernel_rfl) (hval 2 45 v2 rfl rfl) h2
  obtain ⟨x3, rfl, rfl, rfl, w3, k3⟩ := open_flat (ks := [.int .i64, .int .i64, .int .i64]) Tryd.underlying47 (by kernel_rfl) (by kernel_rfl) (by kernel_rfl) (hval 3 47 v3 rfl rfl) h3
  obtain ⟨a0, a1, a2, a3, a4, rfl⟩ := five_ints k0
  obtain ⟨b0, b1, b2, b3, b4, rfl⟩ := five_ints k1
  obtain ⟨c0, c1, c2, c3, c4, rfl⟩ := five_ints k2
  obtain ⟨e0, e1, e2, rfl⟩ := three_ints k3
  clear hA0 hval0
  simp only [List.append_nil] at hW'
  have hm := at_meet a0 a1 a2 a3 a4 b0 b1 b2 b3 b4 c0 c1 c2 c3 c4 e0 e1 e2 w0 w1 w2 w3
  have S0 : ∀ {W' : World} {sp : Nat → Bool} {b : Nat} {hd : Bool}, DataW.Trod enc Tryd.prog W' b sp hd 45 _ _ [] := fun {W' sp b hd} => shut_flat (enc := enc) (w := W') (base := b) (spare := sp) (held := hd) Tryd.underlying45 (by kernel_rfl) (by kernel_rfl) (by kernel_rfl) w0
  have S1 : ∀ {W' : World} {sp : Nat → Bool} {b : Nat} {hd : Bool}, DataW.Trod enc Tryd.prog W' b sp hd 45 _ _ [] := fun {W' sp b hd} => shut_flat (enc := enc) (w := W') (base := b) (spare := sp) (held := hd) Tryd.underlying45 (by kernel_rfl) (by kernel_rfl) (by kernel_rfl) w1
  have S2 : ∀ {W' : World} {sp : Nat → Bool} {b : Nat} {hd : Bool}, DataW.Trod enc Tryd.prog W' b sp hd 45 _ _ [] := fun {W' sp b hd} => shut_flat (enc := enc) (w := W') (base := b) (spare := sp) (held := hd) Tryd.underlying45 (by kernel_rfl) (by kernel_rfl) (by kernel_rfl) w2
  have S3 : ∀ {W' : World} {sp : Nat → Bool} {b : Nat} {hd : Bool}, DataW.Trod enc Tryd.prog W' b sp hd 47 _ _ [] := fun {W' sp b hd} => shut_flat (enc := enc) (w := W') (base := b) (spare := sp) (held := hd) Tryd.underlying47 (by kernel_rfl) (by kernel_rfl) (by kernel_rfl) w3
  refine (law_calls (P := Tryd.prog) (f := 7) (xs := [.agg #[.int .i64 a0, .int .i64 a1, .int .i64 a2, .int .i64 a3, .int .i64 a4], .agg #[.int .i64 b0, .int .i64 b1, .int .i64 b2, .int .i64 b3, .int .i64 b4], .agg #[.int .i64 c0, .int .i64 c1, .int .i64 c2, .int .i64 c3, .int .i64 c4], .agg #[.int .i64 e0, .int .i64 e1, .int .i64 e2]]) (x := .bool true) Tryd.call7 hm (by simp [denL, den, allOne, Value.oneCell']) (by simp [den]) W (glob_none W)).mono fun e W' ⟨he, hg⟩ => ?_
  subst he
  exact ⟨_, rfl, post_of_kept (pa := []) (pv := []) hW' (fun _ _ _ => (trodAll_cons_mk (shut_bool Tryd.underlying4 _) trodAll_mk0)) (fun sp _ => trodAll_cons_mk S0 (trodAll_cons_mk S1 (trodAll_cons_mk S2 (trodAll_cons_mk S3 trodAll_mk0)))) (fun _ _ => rfl) rfl
    hg (ok_one (by kernel_rfl) rfl (okWide_bool_mk Tryd.underlying4 _))⟩

theorem over : Rows.refMeetRow.holds Tryd.pinned (OpenSpec.ofChange Rows.refMeetSpec) :=
  OpenClaim.holds_of_wide 7 Tryd.f7 rfl rfl rfl rfl rfl rfl rfl ⟨rfl, rfl, rfl, rfl, rfl⟩ rfl rfl rfl rfl rfl (by kernel_rfl) Tryd.func7 (by kernel_rfl)
    (of_decide_eq_true (by kernel_rfl)) (by unfold Func.isWrapper; first | (rw [if_pos (by decide +kernel)]; kernel_rfl) | (rw [if_neg (by decide +kernel)]; exact ⟨rfl, rfl⟩))
    (fun os started H enc _ => lifted os started H enc)

theorem proved : Rows.RefMeetCardSaid :=
  Claim7.holds_tied_plain_at .later [] [.data, .data, .data, .data, .sentinel, .sentinel, .pinned] true (true, "40db7118ed2d6da204d06ab6891202c69fa7ed41feea0c45a7f0b574ab693270") true over (fun _ h => by cases h) (by kernel_rfl) (fun _ h => by cases h) refMeet_row_tie rfl ⟨rfl, rfl⟩ (by kernel_rfl) rfl
    (fun f fn hf hfn => by
      obtain rfl : f = 7 := Option.some.inj ((show Tryd.prog.funcNamed "tabula/tabulalaw02.RefMeet" = some 7 by kernel_rfl).symm.trans hf) |>.symm
      obtain rfl : fn = Tryd.f7 := (Option.some.inj (Tryd.func7.symm.trans hfn)).symm
      exact ⟨by kernel_rfl, fun j t ht => by
        rw [Tryd.params7] at ht
        have hm : t ∈ [45, 45, 45, 47] := by simpa using Array.mem_of_getElem? ht
        have hall : ([45, 45, 45, 47].all fun u => !Tryd.prog.wantsStandIn u) = true := by kernel_rfl
        exact (show Tryd.prog.wantsStandIn t = false by simpa using List.all_eq_true.1 hall t hm)⟩)
    (by kernel_rfl)
end Go.Proofs.YtpdhfopfjoinnaaDoor.refMeet
