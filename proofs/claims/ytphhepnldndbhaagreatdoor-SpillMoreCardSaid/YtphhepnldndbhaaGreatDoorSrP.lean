/- Layer 14: SpillMore: the law. -/
import Derived.Test.YtphhepnldndbhaaGreatDoorGr08
set_option linter.unusedVariables false
set_option linter.unusedSimpArgs false
set_option linter.unusedSectionVars false
namespace Go.Proofs.YtphhepnldndbhaaGreatDoor
open Go Sx
theorem mo_end {R Z : List (List CV)} {a z : Nat} {k : Int} {n : Nat} (hn : n ≤ (spW R a Z z).length) (hk : k = (n : Int)) : GoesTo Tryz.prog Tryz.f6 [fA R, fZ Z] pure2 (restC 7 bMo)
    (sMb R Z k (lwP R a Z z) (lwP R a Z z).length (lwB R a Z z) (lwB R a Z z).length (plN (spW R a Z z) (bkK R a) n).P (plN (spW R a Z z) (bkK R a) n).P.length (plN (spW R a Z z) (bkK R a) n).B (plN (spW R a Z z) (bkK R a) n).B.length) (AV.bool true, [fA R, fZ Z]) := by
  have hl := spW_le R a Z z
  obtain ⟨⟨X, hX⟩, ⟨Y, hY⟩⟩ := plN_mono (spW R a Z z) (bkK R a) n ((spW R a Z z).length - n)
  rw [show n + ((spW R a Z z).length - n) = (spW R a Z z).length by omega] at hX hY
  have hX : lwP R a Z z = (plN (spW R a Z z) (bkK R a) n).P ++ X := hX
  have hY : lwB R a Z z = (plN (spW R a Z z) (bkK R a) n).B ++ Y := hY
  have h1 := plN_len (spW R a Z z) (bkK R a) n
  have h2 := plN_len (spW R a Z z) (bkK R a) (spW R a Z z).length
  have h2 : (lwP R a Z z).length + (lwB R a Z z).length = (spW R a Z z).length := h2
  generalize lwP R a Z z = P at *
  generalize lwB R a Z z = B at *
  generalize (plN (spW R a Z z) (bkK R a) n).P = P' at *
  generalize (plN (spW R a Z z) (bkK R a) n).B = B' at *
  have lP : P'.length ≤ P.length := by rw [hX, List.length_append]; omega
  have lB : B'.length ≤ B.length := by rw [hY, List.length_append]; omega
  have eP : mnN P.length P'.length = (P'.length : Int) := by
    show (if _ then _ else _) = _
    split <;> omega
  have eB : mnN B.length B'.length = (B'.length : Int) := by
    show (if _ then _ else _) = _
    split <;> omega
  refine goes_code (pre := [fA R, fZ Z]) (ent_sound tMz_ok host nolv_ok 20) loops_none ((rMz R Z P B P' B' k).trans ?_)
  have ck : ∀ b ∈ [decide (0 ≤ mnN P.length P'.length) && decide ((mnN P.length P'.length).toNat ≤ P.length), @decide (SameS P P' (mnN P.length P'.length).toNat P'.length) (Classical.propDecidable _), decide (0 ≤ mnN B.length B'.length) && decide ((mnN B.length B'.length).toNat ≤ B.length), @decide (SameA B B' (mnN B.length B'.length).toNat B'.length) (Classical.propDecidable _)], b = true := by
    intro b hb
    simp only [List.mem_cons, List.not_mem_nil, or_false] at hb
    rcases hb with rfl | rfl | rfl | rfl
    · rw [eP, Bool.and_eq_true, decide_eq_true_eq, decide_eq_true_eq]; omega
    · refine @decide_eq_true _ (Classical.propDecidable _) ?_
      rw [eP, Int.toNat_natCast]
      exact ⟨rfl, lP, Nat.le_refl _, by omega, fun j hj => by rw [hX, rowAt_pre hj, eq5_iff]; exact ⟨⟨rfl, rfl, rfl⟩, rfl, rfl⟩⟩
    · rw [eB, Bool.and_eq_true, decide_eq_true_eq, decide_eq_true_eq]; omega
    · refine @decide_eq_true _ (Classical.propDecidable _) ?_
      rw [eB, Int.toNat_natCast]
      exact ⟨rfl, lB, Nat.le_refl _, by omega, fun j hj => by rw [hY, rowAt_pre hj, eq3_iff]; exact ⟨rfl, rfl, rfl⟩⟩
  rw [bcT (decide_eq_true (by omega)), bcT (b := decide ((B'.length : Int) ≤ _)) (decide_eq_true (by omega)), chks_true ck, w64_small (by omega) (by omega), hk]
  have e : ((P'.length : Int) + (B'.length : Int) == (n : Int)) = true := by rw [beq_iff_eq]; omega
  rw [e]
  rfl
open Classical in
theorem sm_meets {R Z : List (List CV)} {a z : Nat} {m : Int} (hA : okA a R) (hZ : okZ z Z) (im : inI m = true) : Meets Tryz.prog fMo [.dsl 0 a, .dsl 1 z, .int .i64 m] ([fA R, fZ Z].map PObj.toA) (.bool true) ([fA R, fZ Z].map PObj.toA) := by
  have hbody : Tryz.f6.body = some bMo := by kernel_rfl
  have hb := book_ok R a
  have hs := own_okS R a Z z
  have ht := own_okT R a Z z
  have hle := spW_le R a Z z
  have eP : lwP R a Z z = plP (clL (bkX R a 0) (bkX R a 1)) (spW R a Z z) := rfl
  have eB : lwB R a Z z = plB (clL (bkX R a 0) (bkX R a 1)) (spW R a Z z) := rfl
  have hs : okS (spW R a Z z) (tkN (clL (bkX R a 0) (bkX R a 1)) (clL (bkX R a 0) (bkX R a 1)).length) := hs
  have ek : bkK R a = tkN (clL (bkX R a 0) (bkX R a 1)) (clL (bkX R a 0) (bkX R a 1)).length := rfl
  have hA0 := hd_more R Z (lwP R a Z z) (lwB R a Z z) a z m
  rw [chks_true (all1 (decide_eq_true hA))] at hA0
  have sh7 : restC 1 (restC 6 bMo) = restC 7 bMo := restC_add 6 1 _
  suffices hgo : GoesTo Tryz.prog Tryz.f6 [fA R, fZ Z] pure2 bMo (startP 98 [.dsl 0 a, .dsl 1 z, .int .i64 m] [fA R, fZ Z] 64) (AV.bool true, [fA R, fZ Z]) by
    obtain ⟨res, post, k1, k2⟩ := goes_meets (R := AV × List PObj) (NF := 64) (args := [.dsl 0 a, .dsl 1 z, .int .i64 m]) (pre := [fA R, fZ Z]) (k := pure2) (r := (.bool true, [fA R, fZ Z])) host Tryz.func6 hbody hgo
    cases k2
    exact k1
  by_cases hw : spW R a Z z = []
  · have eP0 : lwP R a Z z = [] := by unfold lwP plP; rw [hw]; rfl
    have eB0 : lwB R a Z z = [] := by unfold lwB plB; rw [hw]; rfl
    have ek0 : pickS m (w64 (0 + 1)) = 0 := by
      have := pickS_bd (a := m) (n := w64 (0 + 1)) (by decide)
      have e : w64 (0 + 1) = 1 := by decide
      rw [e] at this ⊢; omega
    have hend := mo_end (R := R) (Z := Z) (a := a) (z := z) (k := pickS m (w64 (0 + 1))) (n := 0) (Nat.zero_le _) (by rw [ek0]; rfl)
    have e0 : (plN (spW R a Z z) (bkK R a) 0) = ⟨[], [], bkK R a⟩ := rfl
    rw [e0] at hend
    have ckn : ckMn (pickS m (w64 (0 + 1))) = true := by rw [ek0]; rfl
    have one : ∀ {p0 : List PObj}, Meets Tryz.prog fP [bkW, .nilslice] (p0.map PObj.toA) (plV .nilslice .nilslice) (p0.map PObj.toA) → ckPl (lwP R a Z z) (lwB R a Z z) [bkW, .nilslice] p0 = true := fun {p0} h => ckPl_ok (by
      rw [eP0, eB0]
      have e : p0 ++ plO [] ++ clO [] = p0 := by simp [plO, clO]
      rw [e]; exact h)
    have two : ∀ {p0 : List PObj}, Meets Tryz.prog fP [bkW, .nilslice] (p0.map PObj.toA) (plV .nilslice .nilslice) (p0.map PObj.toA) → ckPl [] [] [bkW, .nilslice] p0 = true := fun {p0} h => ckPl_ok (by
      have e : p0 ++ plO [] ++ clO [] = p0 := by simp [plO, clO]
      rw [e]; exact h)
    cases h0 : bkX R a 0 with
    | nil => cases h1 : bkX R a 1 with
      | nil =>
        rw [h0, h1] at hA0
        have hA0 := hA0.trans (owMa_nil hA hZ im hw (one pn_0))
        have hB0 := mb_n0 R Z (lwP R a Z z) (lwB R a Z z) [] [] (pickS m (w64 (0 + 1)))
        rw [two pn_0, chks_true (all1 ckn), lfMb_ok] at hB0
        exact goes_cutV (pre := [fA R, fZ Z]) (ent_sound (tMo_ok _ _) host nolv_ok 20) loops_none hA0 rfl (goes_cutV (pre := [fA R, fZ Z]) (ent_sound (tMs_ok [] []) host nolv_ok 20) loops_none hB0 sh7 hend)
      | cons y Y =>
        rw [h0, h1] at hA0 hb
        have hA0 := hA0.trans (owMa_nil hA hZ im hw (one (pn_y hb)))
        have hB0 := mb_ny R Z (lwP R a Z z) (lwB R a Z z) [] [] (y :: Y) (pickS m (w64 (0 + 1)))
        rw [two (pn_y hb), chks_true (all1 ckn), lfMb_ok] at hB0
        exact goes_cutV (pre := [fA R, fZ Z]) (ent_sound (tMo_ok _ _) host nolv_ok 20) loops_none hA0 rfl (goes_cutV (pre := [fA R, fZ Z]) (ent_sound (tMs_ok [] []) host nolv_ok 20) loops_none hB0 sh7 hend)
    | cons x X => cases h1 : bkX R a 1 with
      | nil =>
        rw [h0, h1] at hA0 hb
        have hA0 := hA0.trans (owMa_nil hA hZ im hw (one (pn_x hb)))
        have hB0 := mb_nx R Z (lwP R a Z z) (lwB R a Z z) [] [] (x :: X) (pickS m (w64 (0 + 1)))
        rw [two (pn_x hb), chks_true (all1 ckn), lfMb_ok] at hB0
        exact goes_cutV (pre := [fA R, fZ Z]) (ent_sound (tMo_ok _ _) host nolv_ok 20) loops_none hA0 rfl (goes_cutV (pre := [fA R, fZ Z]) (ent_sound (tMs_ok [] []) host nolv_ok 20) loops_none hB0 sh7 hend)
      | cons y Y =>
        rw [h0, h1] at hA0 hb
        have hA0 := hA0.trans (owMa_nil hA hZ im hw (one (pn_b hb)))
        have hB0 := mb_nb R Z (lwP R a Z z) (lwB R a Z z) [] [] (x :: X) (y :: Y) (pickS m (w64 (0 + 1)))
        rw [two (pn_b hb), chks_true (all1 ckn), lfMb_ok] at hB0
        exact goes_cutV (pre := [fA R, fZ Z]) (ent_sound (tMo_ok _ _) host nolv_ok 20) loops_none hA0 rfl (goes_cutV (pre := [fA R, fZ Z]) (ent_sound (tMs_ok [] []) host nolv_ok 20) loops_none hB0 sh7 hend)
  · have hbd := pickS_bd (a := m) (n := w64 (((spW R a Z z).length : Int) + 1)) (by rw [w64_small (by omega) (by omega)]; omega)
    have hk2 : pickS m (w64 (((spW R a Z z).length : Int) + 1)) < ((spW R a Z z).length : Int) + 1 := by
      have := hbd.2
      rw [w64_small (a := ((spW R a Z z).length : Int) + 1) (by omega) (by omega)] at this ⊢; exact this
    have hk1 := hbd.1
    clear hbd
    obtain ⟨n, hkn⟩ : ∃ n : Nat, pickS m (w64 (((spW R a Z z).length : Int) + 1)) = (n : Int) := ⟨(pickS m (w64 (((spW R a Z z).length : Int) + 1))).toNat, by omega⟩
    have hn : n ≤ (spW R a Z z).length := by omega
    have hend := mo_end (R := R) (Z := Z) (a := a) (z := z) (k := (n : Int)) hn rfl
    have ckv : ckMv (n : Int) (spW R a Z z) = true := by
      unfold ckMv
      rw [Bool.and_eq_true, decide_eq_true_eq, decide_eq_true_eq]
      omega
    have hs' := okS_take hs n
    have ht' := okT_take ht n
    obtain ⟨eP', eB'⟩ := plP_take (C := clL (bkX R a 0) (bkX R a 1)) hn
    rw [← ek] at eP' eB'
    cases h0 : bkX R a 0 with
    | nil => cases h1 : bkX R a 1 with
      | nil =>
        exfalso
        rw [h0, h1] at hs
        cases hl : spW R a Z z with
        | nil => exact hw hl
        | cons x l =>
          have := (hs.2 0 (by rw [hl]; exact Nat.succ_pos _)).2.2.1
          rw [memK_iff] at this
          exact nomatch (mem_tkN _).1 this
      | cons y Y =>
        rw [h0, h1] at hA0 hb hs hs' eP eB eP' eB'
        have hA0 := hA0.trans (owMa_vec hA hZ im hw (ckPl_ok (by rw [eP, eB]; exact pm_y hb hs ht)))
        rw [hkn] at hA0
        have hB0 := mb_vy R Z (lwP R a Z z) (lwB R a Z z) (plN (spW R a Z z) (bkK R a) n).P (plN (spW R a Z z) (bkK R a) n).B (y :: Y) (spW R a Z z) (n : Int)
        rw [Int.toNat_natCast, ps_meets (h := oSh .nilslice (.vec 2 (y :: Y).length)) (t := [vC (y :: Y)]) hn (by rw [← eP', ← eB']; exact pm_y hb hs' ht'), chks_true (all1 ckv), lfMb_ok] at hB0
        exact goes_cutV (pre := [fA R, fZ Z]) (ent_sound (tMo_ok _ _) host nolv_ok 20) loops_none hA0 rfl (goes_cutV (pre := [fA R, fZ Z]) (ent_sound (tMs_ok _ _) host nolv_ok 20) loops_none hB0 sh7 hend)
    | cons x X => cases h1 : bkX R a 1 with
      | nil =>
        rw [h0, h1] at hA0 hb hs hs' eP eB eP' eB'
        have hA0 := hA0.trans (owMa_vec hA hZ im hw (ckPl_ok (by rw [eP, eB]; exact pm_x hb hs ht)))
        rw [hkn] at hA0
        have hB0 := mb_vx R Z (lwP R a Z z) (lwB R a Z z) (plN (spW R a Z z) (bkK R a) n).P (plN (spW R a Z z) (bkK R a) n).B (x :: X) (spW R a Z z) (n : Int)
        rw [Int.toNat_natCast, ps_meets (h := oSh (.vec 2 (x :: X).length) .nilslice) (t := [vC (x :: X)]) hn (by rw [← eP', ← eB']; exact pm_x hb hs' ht'), chks_true (all1 ckv), lfMb_ok] at hB0
        exact goes_cutV (pre := [fA R, fZ Z]) (ent_sound (tMo_ok _ _) host nolv_ok 20) loops_none hA0 rfl (goes_cutV (pre := [fA R, fZ Z]) (ent_sound (tMs_ok _ _) host nolv_ok 20) loops_none hB0 sh7 hend)
      | cons y Y =>
        rw [h0, h1] at hA0 hb hs hs' eP eB eP' eB'
        have hA0 := hA0.trans (owMa_vec hA hZ im hw (ckPl_ok (by rw [eP, eB]; exact pm_b hb hs ht)))
        rw [hkn] at hA0
        have hB0 := mb_vb R Z (lwP R a Z z) (lwB R a Z z) (plN (spW R a Z z) (bkK R a) n).P (plN (spW R a Z z) (bkK R a) n).B (x :: X) (y :: Y) (spW R a Z z) (n : Int)
        rw [Int.toNat_natCast, ps_meets (h := oSh (.vec 2 (x :: X).length) (.vec 3 (y :: Y).length)) (t := [vC (x :: X), vC (y :: Y)]) hn (by rw [← eP', ← eB']; exact pm_b hb hs' ht'), chks_true (all1 ckv), lfMb_ok] at hB0
        exact goes_cutV (pre := [fA R, fZ Z]) (ent_sound (tMo_ok _ _) host nolv_ok 20) loops_none hA0 rfl (goes_cutV (pre := [fA R, fZ Z]) (ent_sound (tMs_ok _ _) host nolv_ok 20) loops_none hB0 sh7 hend)
end Go.Proofs.YtphhepnldndbhaaGreatDoor
