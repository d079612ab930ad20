import Derived.Test.YtphhepnldndbhaaGreatDoorGr12
import Derived.Test.YtphhepnldndbhaaGreatDoorGr10
import Derived.Handed
import Derived.HandedShaped
import Derived.Test.YtphhepnldndbhaaGreatDoorSxY
set_option linter.unusedVariables false
set_option linter.unusedSimpArgs false
set_option linter.unusedSectionVars false
namespace Go.Proofs.YtphhepnldndbhaaGreatDoor.Dp
open Go Sx Go.Proofs.YtphhepnldndbhaaGreatDoor
section
variable {R Z S W U : List (List CV)} {x : List CV} {X : List (List CV)} {y : List CV} {Y : List (List CV)} {m u v : Nat} {a0 a1 a2 : Int}
open Classical in
theorem inner_b0 (hl : OkL W m) (h1 : inI a1 = true) (h2 : inI a2 = true) : Tri Tryz.prog (.loop loopI) (sI0 R Z S W U m u v a0 a1 a2 (oSh (.vec 10 (x :: X).length) (.vec (10 + 1) (y :: Y).length)) [some (vC (x :: X)), some (vC (y :: Y))] 0).toA (.exit 2) (sL R Z S W U m u v a0 a1 a2 (oSh (.vec 9 (x :: X).length) (.vec (9 + 1) (y :: Y).length)) [some (vC (x :: X)), some (vC (y :: Y))] 0).toA 3 := by
  refine tri_up (body := loopI) (fun j => (sI0 R Z S W U m u v a0 a1 a2 (oSh (.vec 10 (x :: X).length) (.vec (10 + 1) (y :: Y).length)) [some (vC (x :: X)), some (vC (y :: Y))] (j : Int)).toA) (fun e => by cases e) 2 (fun j hj => ?_) ?_ 0 (Nat.zero_le _)
  · rcases (show j = 0 ∨ j = 1 by omega) with rfl | rfl
    · exact qzx tIn_ok ((rI_b00 ).trans (by rw [qzy (all2 (decide_eq_true (hl.cv h1 h2)) (decide_eq_true (hl.cv h1 h2))), eq5_self, bcF (b := !true) rfl, bcF (by simp)]; rfl))
    · exact qzx tIn_ok ((rI_b01 ).trans (by rw [qzy (all2 (decide_eq_true (hl.cv (qxx (by decide) (by decide)) (qxx (by decide) (by decide)))) (decide_eq_true (hl.cv (qxx (by decide) (by decide)) (qxx (by decide) (by decide))))), eq5_self, bcF (b := !true) rfl, bcF (by simp)]; rfl))
  · exact qzx tIn_ok (rI_b02 )
open Classical in
theorem round_b0 (hb : okBk (x :: X) (y :: Y)) (hl : OkL W m) (h0 : inI a0 = true) (h1 : inI a1 = true) (h2 : inI a2 = true) : Tri Tryz.prog loopT (sL R Z S W U m u v a0 a1 a2 (oSh (.vec 9 (x :: X).length) (.vec (9 + 1) (y :: Y).length)) [some (vC (x :: X)), some (vC (y :: Y))] 0).toA .normal (sL R Z S W U m u v a0 a1 a2 (oSh (.vec 9 (x :: X).length) (.vec (9 + 1) (y :: Y).length)) [some (vC (x :: X)), some (vC (y :: Y))] 1).toA 3 := by
  have hL : LoopsOK Tryz.prog (lvI_b0 R Z S W U (x :: X) (y :: Y) m u v a0 a1 a2 true) 3 loopT := it_loopsOK fun e he t => by cases he; exact eAt_ok (outC_ok fun _ => inner_b0 hl h1 h2) 3 t
  have he : eqSt (sI0 R Z S W U m u v a0 a1 a2 (oSh (.vec 10 (x :: X).length) (.vec (10 + 1) (y :: Y).length)) [some (vC (x :: X)), some (vC (y :: Y))] 0) (sI0 R Z S W U m u v a0 a1 a2 (oSh (.vec 10 (x :: X).length) (.vec (10 + 1) (y :: Y).length)) [some (vC (x :: X)), some (vC (y :: Y))] 0) = true := qzt _
  cases hw : wrgB W (tkN (clL (x :: X) (y :: Y)) (clL (x :: X) (y :: Y)).length) m with
  | true =>
    have k1 := pe_b hb hl.le hl.few hw
    have k2 := pde_b hb hl.le hl.few hw
    refine qyy (r := (.normal, (sL R Z S W U m u v a0 a1 a2 (oSh (.vec 9 (x :: X).length) (.vec (9 + 1) (y :: Y).length)) [some (vC (x :: X)), some (vC (y :: Y))] 1))) (qzv (tRo_ok plE []) host qyz (NF := 64) (m := 1) 20) hL ((rT_b0E (o := true)).trans (qzy fun b hb' => ?_))
    simp only [List.mem_cons, List.not_mem_nil, or_false] at hb'
    rcases hb' with rfl | rfl | rfl | rfl | rfl | rfl | rfl
    · exact decide_eq_true k1
    · exact decide_eq_true k2
    · exact h0
    · exact h1
    · exact h2
    · exact he
    · rfl
  | false =>
    have k1 := pm_b hb hl.le hl.few hw
    have k2 := pdm_b hb hl.le hl.few hw
    have hlen := plPB_len (clL (x :: X) (y :: Y)) W m
    have hf := hl.few
    generalize plP (clL (x :: X) (y :: Y)) W m = P at *
    generalize plB (clL (x :: X) (y :: Y)) W m = B at *
    cases P with
    | nil => cases B with
      | nil =>
        refine qyy (r := (.normal, (sL R Z S W U m u v a0 a1 a2 (oSh (.vec 9 (x :: X).length) (.vec (9 + 1) (y :: Y).length)) [some (vC (x :: X)), some (vC (y :: Y))] 1))) (qzv (tRo_ok (plV .qzz .qzz) []) host qyz (NF := 64) (m := 1) 20) hL ((rT_b000 (o := true)).trans (qzy fun b hb' => ?_))
        simp only [List.mem_cons, List.not_mem_nil, or_false] at hb'
        rcases hb' with rfl | rfl | rfl | rfl | rfl | rfl | rfl
        · exact decide_eq_true k1
        · exact decide_eq_true k2
        · exact h0
        · exact h1
        · exact h2
        · exact he
        · rfl
      | cons q B =>
        refine qyy (r := (.normal, (sL R Z S W U m u v a0 a1 a2 (oSh (.vec 9 (x :: X).length) (.vec (9 + 1) (y :: Y).length)) [some (vC (x :: X)), some (vC (y :: Y))] 1))) (qzv (tRo_ok (plV .qzz (.vec 4 (q :: B).length)) [vA (q :: B)]) host qyz (NF := 64) (m := 1) 20) hL ((rT_b001 (o := true)).trans (qzy fun b hb' => ?_))
        simp only [List.mem_cons, List.not_mem_nil, or_false] at hb'
        rcases hb' with rfl | rfl | rfl | rfl | rfl | rfl | rfl | rfl
        · exact decide_eq_true k1
        · exact decide_eq_true k2
        · exact decide_eq_true (sameA_self (by omega))
        · exact h0
        · exact h1
        · exact h2
        · exact he
        · rfl
    | cons p P => cases B with
      | nil =>
        refine qyy (r := (.normal, (sL R Z S W U m u v a0 a1 a2 (oSh (.vec 9 (x :: X).length) (.vec (9 + 1) (y :: Y).length)) [some (vC (x :: X)), some (vC (y :: Y))] 1))) (qzv (tRo_ok (plV (.vec 4 (p :: P).length) .qzz) [vS (p :: P)]) host qyz (NF := 64) (m := 1) 20) hL ((rT_b010 (o := true)).trans (qzy fun b hb' => ?_))
        simp only [List.mem_cons, List.not_mem_nil, or_false] at hb'
        rcases hb' with rfl | rfl | rfl | rfl | rfl | rfl | rfl | rfl
        · exact decide_eq_true k1
        · exact decide_eq_true k2
        · exact decide_eq_true (sameS_self (by omega))
        · exact h0
        · exact h1
        · exact h2
        · exact he
        · rfl
      | cons q B =>
        refine qyy (r := (.normal, (sL R Z S W U m u v a0 a1 a2 (oSh (.vec 9 (x :: X).length) (.vec (9 + 1) (y :: Y).length)) [some (vC (x :: X)), some (vC (y :: Y))] 1))) (qzv (tRo_ok (plV (.vec 4 (p :: P).length) (.vec 5 (q :: B).length)) [vS (p :: P), vA (q :: B)]) host qyz (NF := 64) (m := 1) 20) hL ((rT_b011 (o := true)).trans (qzy fun b hb' => ?_))
        simp only [List.mem_cons, List.not_mem_nil, or_false] at hb'
        rcases hb' with rfl | rfl | rfl | rfl | rfl | rfl | rfl | rfl | rfl
        · exact decide_eq_true k1
        · exact decide_eq_true k2
        · exact decide_eq_true (sameS_self (by omega))
        · exact decide_eq_true (sameA_self (by omega))
        · exact h0
        · exact h1
        · exact h2
        · exact he
        · rfl
open Classical in
theorem inner_b1 (hl : OkL U u) (h1 : inI a1 = true) (h2 : inI a2 = true) : Tri Tryz.prog (.loop loopI) (sI1 R Z S W U m u v a0 a1 a2 (oSh (.vec 10 (x :: X).length) (.vec (10 + 1) (y :: Y).length)) [some (vC (x :: X)), some (vC (y :: Y))] 0).toA (.exit 2) (sL R Z S W U m u v a0 a1 a2 (oSh (.vec 9 (x :: X).length) (.vec (9 + 1) (y :: Y).length)) [some (vC (x :: X)), some (vC (y :: Y))] 1).toA 3 := by
  refine tri_up (body := loopI) (fun j => (sI1 R Z S W U m u v a0 a1 a2 (oSh (.vec 10 (x :: X).length) (.vec (10 + 1) (y :: Y).length)) [some (vC (x :: X)), some (vC (y :: Y))] (j : Int)).toA) (fun e => by cases e) 2 (fun j hj => ?_) ?_ 0 (Nat.zero_le _)
  · rcases (show j = 0 ∨ j = 1 by omega) with rfl | rfl
    · exact qzx tIn_ok ((rI_b10 ).trans (by rw [qzy (all2 (decide_eq_true (hl.cv h1 h2)) (decide_eq_true (hl.cv h1 h2))), eq5_self, bcF (b := !true) rfl, bcF (by simp)]; rfl))
    · exact qzx tIn_ok ((rI_b11 ).trans (by rw [qzy (all2 (decide_eq_true (hl.cv (qxx (by decide) (by decide)) (qxx (by decide) (by decide)))) (decide_eq_true (hl.cv (qxx (by decide) (by decide)) (qxx (by decide) (by decide))))), eq5_self, bcF (b := !true) rfl, bcF (by simp)]; rfl))
  · exact qzx tIn_ok (rI_b12 )
open Classical in
theorem round_b1 (hb : okBk (x :: X) (y :: Y)) (hl : OkL U u) (h0 : inI a0 = true) (h1 : inI a1 = true) (h2 : inI a2 = true) : Tri Tryz.prog loopT (sL R Z S W U m u v a0 a1 a2 (oSh (.vec 9 (x :: X).length) (.vec (9 + 1) (y :: Y).length)) [some (vC (x :: X)), some (vC (y :: Y))] 1).toA .normal (sL R Z S W U m u v a0 a1 a2 (oSh (.vec 9 (x :: X).length) (.vec (9 + 1) (y :: Y).length)) [some (vC (x :: X)), some (vC (y :: Y))] 2).toA 3 := by
  have hL : LoopsOK Tryz.prog (lvI_b1 R Z S W U (x :: X) (y :: Y) m u v a0 a1 a2 true) 3 loopT := it_loopsOK fun e he t => by cases he; exact eAt_ok (outC_ok fun _ => inner_b1 hl h1 h2) 3 t
  have he : eqSt (sI1 R Z S W U m u v a0 a1 a2 (oSh (.vec 10 (x :: X).length) (.vec (10 + 1) (y :: Y).length)) [some (vC (x :: X)), some (vC (y :: Y))] 0) (sI1 R Z S W U m u v a0 a1 a2 (oSh (.vec 10 (x :: X).length) (.vec (10 + 1) (y :: Y).length)) [some (vC (x :: X)), some (vC (y :: Y))] 0) = true := qzt _
  cases hw : wrgB U (tkN (clL (x :: X) (y :: Y)) (clL (x :: X) (y :: Y)).length) u with
  | true =>
    have k1 := pe_b hb hl.le hl.few hw
    have k2 := pde_b hb hl.le hl.few hw
    refine qyy (r := (.normal, (sL R Z S W U m u v a0 a1 a2 (oSh (.vec 9 (x :: X).length) (.vec (9 + 1) (y :: Y).length)) [some (vC (x :: X)), some (vC (y :: Y))] 2))) (qzv (tRo_ok plE []) host qyz (NF := 64) (m := 1) 20) hL ((rT_b1E (o := true)).trans (qzy fun b hb' => ?_))
    simp only [List.mem_cons, List.not_mem_nil, or_false] at hb'
    rcases hb' with rfl | rfl | rfl | rfl | rfl | rfl | rfl
    · exact decide_eq_true k1
    · exact decide_eq_true k2
    · exact h0
    · exact h1
    · exact h2
    · exact he
    · rfl
  | false =>
    have k1 := pm_b hb hl.le hl.few hw
    have k2 := pdm_b hb hl.le hl.few hw
    have hlen := plPB_len (clL (x :: X) (y :: Y)) U u
    have hf := hl.few
    generalize plP (clL (x :: X) (y :: Y)) U u = P at *
    generalize plB (clL (x :: X) (y :: Y)) U u = B at *
    cases P with
    | nil => cases B with
      | nil =>
        refine qyy (r := (.normal, (sL R Z S W U m u v a0 a1 a2 (oSh (.vec 9 (x :: X).length) (.vec (9 + 1) (y :: Y).length)) [some (vC (x :: X)), some (vC (y :: Y))] 2))) (qzv (tRo_ok (plV .qzz .qzz) []) host qyz (NF := 64) (m := 1) 20) hL ((rT_b100 (o := true)).trans (qzy fun b hb' => ?_))
        simp only [List.mem_cons, List.not_mem_nil, or_false] at hb'
        rcases hb' with rfl | rfl | rfl | rfl | rfl | rfl | rfl
        · exact decide_eq_true k1
        · exact decide_eq_true k2
        · exact h0
        · exact h1
        · exact h2
        · exact he
        · rfl
      | cons q B =>
        refine qyy (r := (.normal, (sL R Z S W U m u v a0 a1 a2 (oSh (.vec 9 (x :: X).length) (.vec (9 + 1) (y :: Y).length)) [some (vC (x :: X)), some (vC (y :: Y))] 2))) (qzv (tRo_ok (plV .qzz (.vec 4 (q :: B).length)) [vA (q :: B)]) host qyz (NF := 64) (m := 1) 20) hL ((rT_b101 (o := true)).trans (qzy fun b hb' => ?_))
        simp only [List.mem_cons, List.not_mem_nil, or_false] at hb'
        rcases hb' with rfl | rfl | rfl | rfl | rfl | rfl | rfl | rfl
        · exact decide_eq_true k1
        · exact decide_eq_true k2
        · exact decide_eq_true (sameA_self (by omega))
        · exact h0
        · exact h1
        · exact h2
        · exact he
        · rfl
    | cons p P => cases B with
      | nil =>
        refine qyy (r := (.normal, (sL R Z S W U m u v a0 a1 a2 (oSh (.vec 9 (x :: X).length) (.vec (9 + 1) (y :: Y).length)) [some (vC (x :: X)), some (vC (y :: Y))] 2))) (qzv (tRo_ok (plV (.vec 4 (p :: P).length) .qzz) [vS (p :: P)]) host qyz (NF := 64) (m := 1) 20) hL ((rT_b110 (o := true)).trans (qzy fun b hb' => ?_))
        simp only [List.mem_cons, List.not_mem_nil, or_false] at hb'
        rcases hb' with rfl | rfl | rfl | rfl | rfl | rfl | rfl | rfl
        · exact decide_eq_true k1
        · exact decide_eq_true k2
        · exact decide_eq_true (sameS_self (by omega))
        · exact h0
        · exact h1
        · exact h2
        · exact he
        · rfl
      | cons q B =>
        refine qyy (r := (.normal, (sL R Z S W U m u v a0 a1 a2 (oSh (.vec 9 (x :: X).length) (.vec (9 + 1) (y :: Y).length)) [some (vC (x :: X)), some (vC (y :: Y))] 2))) (qzv (tRo_ok (plV (.vec 4 (p :: P).length) (.vec 5 (q :: B).length)) [vS (p :: P), vA (q :: B)]) host qyz (NF := 64) (m := 1) 20) hL ((rT_b111 (o := true)).trans (qzy fun b hb' => ?_))
        simp only [List.mem_cons, List.not_mem_nil, or_false] at hb'
        rcases hb' with rfl | rfl | rfl | rfl | rfl | rfl | rfl | rfl | rfl
        · exact decide_eq_true k1
        · exact decide_eq_true k2
        · exact decide_eq_true (sameS_self (by omega))
        · exact decide_eq_true (sameA_self (by omega))
        · exact h0
        · exact h1
        · exact h2
        · exact he
        · rfl
open Classical in
theorem inner_b2 (hl : OkL S v) (h1 : inI a1 = true) (h2 : inI a2 = true) : Tri Tryz.prog (.loop loopI) (sI2 R Z S W U m u v a0 a1 a2 (oSh (.vec 10 (x :: X).length) (.vec (10 + 1) (y :: Y).length)) [some (vC (x :: X)), some (vC (y :: Y))] 0).toA (.exit 2) (sL R Z S W U m u v a0 a1 a2 (oSh (.vec 9 (x :: X).length) (.vec (9 + 1) (y :: Y).length)) [some (vC (x :: X)), some (vC (y :: Y))] 2).toA 3 := by
  refine tri_up (body := loopI) (fun j => (sI2 R Z S W U m u v a0 a1 a2 (oSh (.vec 10 (x :: X).length) (.vec (10 + 1) (y :: Y).length)) [some (vC (x :: X)), some (vC (y :: Y))] (j : Int)).toA) (fun e => by cases e) 2 (fun j hj => ?_) ?_ 0 (Nat.zero_le _)
  · rcases (show j = 0 ∨ j = 1 by omega) with rfl | rfl
    · exact qzx tIn_ok ((rI_b20 ).trans (by rw [qzy (all2 (decide_eq_true (hl.cv h1 h2)) (decide_eq_true (hl.cv h1 h2))), eq5_self, bcF (b := !true) rfl, bcF (by simp)]; rfl))
    · exact qzx tIn_ok ((rI_b21 ).trans (by rw [qzy (all2 (decide_eq_true (hl.cv (qxx (by decide) (by decide)) (qxx (by decide) (by decide)))) (decide_eq_true (hl.cv (qxx (by decide) (by decide)) (qxx (by decide) (by decide))))), eq5_self, bcF (b := !true) rfl, bcF (by simp)]; rfl))
  · exact qzx tIn_ok (rI_b22 )
open Classical in
theorem round_b2 (hb : okBk (x :: X) (y :: Y)) (hl : OkL S v) (h0 : inI a0 = true) (h1 : inI a1 = true) (h2 : inI a2 = true) : Tri Tryz.prog loopT (sL R Z S W U m u v a0 a1 a2 (oSh (.vec 9 (x :: X).length) (.vec (9 + 1) (y :: Y).length)) [some (vC (x :: X)), some (vC (y :: Y))] 2).toA .normal (sL R Z S W U m u v a0 a1 a2 (oSh (.vec 9 (x :: X).length) (.vec (9 + 1) (y :: Y).length)) [some (vC (x :: X)), some (vC (y :: Y))] 3).toA 3 := by
  have hL : LoopsOK Tryz.prog (lvI_b2 R Z S W U (x :: X) (y :: Y) m u v a0 a1 a2 true) 3 loopT := it_loopsOK fun e he t => by cases he; exact eAt_ok (outC_ok fun _ => inner_b2 hl h1 h2) 3 t
  have he : eqSt (sI2 R Z S W U m u v a0 a1 a2 (oSh (.vec 10 (x :: X).length) (.vec (10 + 1) (y :: Y).length)) [some (vC (x :: X)), some (vC (y :: Y))] 0) (sI2 R Z S W U m u v a0 a1 a2 (oSh (.vec 10 (x :: X).length) (.vec (10 + 1) (y :: Y).length)) [some (vC (x :: X)), some (vC (y :: Y))] 0) = true := qzt _
  cases hw : wrgB S (tkN (clL (x :: X) (y :: Y)) (clL (x :: X) (y :: Y)).length) v with
  | true =>
    have k1 := pe_b hb hl.le hl.few hw
    have k2 := pde_b hb hl.le hl.few hw
    refine qyy (r := (.normal, (sL R Z S W U m u v a0 a1 a2 (oSh (.vec 9 (x :: X).length) (.vec (9 + 1) (y :: Y).length)) [some (vC (x :: X)), some (vC (y :: Y))] 3))) (qzv (tRo_ok plE []) host qyz (NF := 64) (m := 1) 20) hL ((rT_b2E (o := true)).trans (qzy fun b hb' => ?_))
    simp only [List.mem_cons, List.not_mem_nil, or_false] at hb'
    rcases hb' with rfl | rfl | rfl | rfl | rfl | rfl | rfl
    · exact decide_eq_true k1
    · exact decide_eq_true k2
    · exact h0
    · exact h1
    · exact h2
    · exact he
    · rfl
  | false =>
    have k1 := pm_b hb hl.le hl.few hw
    have k2 := pdm_b hb hl.le hl.few hw
    have hlen := plPB_len (clL (x :: X) (y :: Y)) S v
    have hf := hl.few
    generalize plP (clL (x :: X) (y :: Y)) S v = P at *
    generalize plB (clL (x :: X) (y :: Y)) S v = B at *
    cases P with
    | nil => cases B with
      | nil =>
        refine qyy (r := (.normal, (sL R Z S W U m u v a0 a1 a2 (oSh (.vec 9 (x :: X).length) (.vec (9 + 1) (y :: Y).length)) [some (vC (x :: X)), some (vC (y :: Y))] 3))) (qzv (tRo_ok (plV .qzz .qzz) []) host qyz (NF := 64) (m := 1) 20) hL ((rT_b200 (o := true)).trans (qzy fun b hb' => ?_))
        simp only [List.mem_cons, List.not_mem_nil, or_false] at hb'
        rcases hb' with rfl | rfl | rfl | rfl | rfl | rfl | rfl
        · exact decide_eq_true k1
        · exact decide_eq_true k2
        · exact h0
        · exact h1
        · exact h2
        · exact he
        · rfl
      | cons q B =>
        refine qyy (r := (.normal, (sL R Z S W U m u v a0 a1 a2 (oSh (.vec 9 (x :: X).length) (.vec (9 + 1) (y :: Y).length)) [some (vC (x :: X)), some (vC (y :: Y))] 3))) (qzv (tRo_ok (plV .qzz (.vec 4 (q :: B).length)) [vA (q :: B)]) host qyz (NF := 64) (m := 1) 20) hL ((rT_b201 (o := true)).trans (qzy fun b hb' => ?_))
        simp only [List.mem_cons, List.not_mem_nil, or_false] at hb'
        rcases hb' with rfl | rfl | rfl | rfl | rfl | rfl | rfl | rfl
        · exact decide_eq_true k1
        · exact decide_eq_true k2
        · exact decide_eq_true (sameA_self (by omega))
        · exact h0
        · exact h1
        · exact h2
        · exact he
        · rfl
    | cons p P => cases B with
      | nil =>
        refine qyy (r := (.normal, (sL R Z S W U m u v a0 a1 a2 (oSh (.vec 9 (x :: X).length) (.vec (9 + 1) (y :: Y).length)) [some (vC (x :: X)), some (vC (y :: Y))] 3))) (qzv (tRo_ok (plV (.vec 4 (p :: P).length) .qzz) [vS (p :: P)]) host qyz (NF := 64) (m := 1) 20) hL ((rT_b210 (o := true)).trans (qzy fun b hb' => ?_))
        simp only [List.mem_cons, List.not_mem_nil, or_false] at hb'
        rcases hb' with rfl | rfl | rfl | rfl | rfl | rfl | rfl | rfl
        · exact decide_eq_true k1
        · exact decide_eq_true k2
        · exact decide_eq_true (sameS_self (by omega))
        · exact h0
        · exact h1
        · exact h2
        · exact he
        · rfl
      | cons q B =>
        refine qyy (r := (.normal, (sL R Z S W U m u v a0 a1 a2 (oSh (.vec 9 (x :: X).length) (.vec (9 + 1) (y :: Y).length)) [some (vC (x :: X)), some (vC (y :: Y))] 3))) (qzv (tRo_ok (plV (.vec 4 (p :: P).length) (.vec 5 (q :: B).length)) [vS (p :: P), vA (q :: B)]) host qyz (NF := 64) (m := 1) 20) hL ((rT_b211 (o := true)).trans (qzy fun b hb' => ?_))
        simp only [List.mem_cons, List.not_mem_nil, or_false] at hb'
        rcases hb' with rfl | rfl | rfl | rfl | rfl | rfl | rfl | rfl | rfl
        · exact decide_eq_true k1
        · exact decide_eq_true k2
        · exact decide_eq_true (sameS_self (by omega))
        · exact decide_eq_true (sameA_self (by omega))
        · exact h0
        · exact h1
        · exact h2
        · exact he
        · rfl
theorem loopTe_b (hb : okBk (x :: X) (y :: Y)) (hW : OkL W m) (hU : OkL U u) (hS : OkL S v) (h0 : inI a0 = true) (h1 : inI a1 = true) (h2 : inI a2 = true) : Tri Tryz.prog (.loop loopT) (sL R Z S W U m u v a0 a1 a2 (oSh (.vec 9 (x :: X).length) (.vec (9 + 1) (y :: Y).length)) [some (vC (x :: X)), some (vC (y :: Y))] 0).toA (.exit 0) (sLX R Z S).toA 3 := by
  refine tri_up (body := loopT) (fun j => (sL R Z S W U m u v a0 a1 a2 (oSh (.vec 9 (x :: X).length) (.vec (9 + 1) (y :: Y).length)) [some (vC (x :: X)), some (vC (y :: Y))] (j : Int)).toA) (fun e => by cases e) 3 (fun j hj => ?_) ?_ 0 (Nat.zero_le _)
  · rcases (show j = 0 ∨ j = 1 ∨ j = 2 by omega) with rfl | rfl | rfl
    · exact round_b0 hb hW h0 h1 h2
    · exact round_b1 hb hU h0 h1 h2
    · exact round_b2 hb hS h0 h1 h2
  · exact qzx (T := []) .nil (rT_b3 )
theorem goes_b {n : Nat} (hb : okBk (x :: X) (y :: Y)) (hW : OkL W m) (hU : OkL U u) (hS : OkL S (mnI (n : Int) 12).toNat) (h0 : inI a0 = true) (h1 : inI a1 = true) (h2 : inI a2 = true) : GoesTo Tryz.prog Tryz.f3 [fA R, fZ Z, fSp S] pure2 (restC 6 bTe) (sT2 R Z S W U n m u a0 a1 a2 (tlB 8 (x :: X) (y :: Y))) (AV.bool true, [fA R, fZ Z, fSp S]) := by
  have hL : LoopsOK Tryz.prog (lvT_b R Z S W U (x :: X) (y :: Y) m u a0 a1 a2 true n) 3 (restC 6 bTe) := te_loopsOK (fun e he t => by cases he; exact eAt_ok (outC_ok fun _ => loopTe_b hb hW hU hS h0 h1 h2) 3 t) rfl
  refine goes_code (pre := [fA R, fZ Z, fSp S]) (qzv tTe_ok host qyz 20) hL ((re_b (o := true) n).trans ?_)
  have hm : 0 ≤ mnI (n : Int) 12 ∧ (mnI (n : Int) 12).toNat ≤ n := by
    show 0 ≤ (if (12 : Int) < (n : Int) then 12 else (n : Int)) ∧ (if (12 : Int) < (n : Int) then 12 else (n : Int)).toNat ≤ n
    split <;> omega
  rw [qzy (fun b hb' => ?_)]
  · rfl
  · simp only [List.mem_cons, List.not_mem_nil, or_false] at hb'
    rcases hb' with rfl | rfl | rfl
    · rw [decide_eq_true hm.1, decide_eq_true hm.2]; rfl
    · exact qzt _
    · rfl
end
end Go.Proofs.YtphhepnldndbhaaGreatDoor.Dp
namespace Go.Proofs.YtphhepnldndbhaaGreatDoor.Dp
open Go Sx Go.Proofs.YtphhepnldndbhaaGreatDoor
def okSp (n : Nat) (S : List (List CV)) : Prop := n ≤ S.length ∧ n < 9223372036854775808 ∧ ∀ i, i < n → inI (c1 (Sx.rowAt S i)) = true ∧ inI (c2 (Sx.rowAt S i)) = true
theorem rowAt_set (L : List (List CV)) (k : Nat) (r : List CV) (j : Nat) : Sx.rowAt (L.set k r) j = r ∨ Sx.rowAt (L.set k r) j = Sx.rowAt L j := by
  unfold Sx.rowAt
  rw [List.getD_eq_getElem?_getD, List.getD_eq_getElem?_getD, List.getElem?_set]
  by_cases h : k = j
  · rw [if_pos h]
    by_cases h2 : k < L.length
    · rw [if_pos h2]; exact .inl rfl
    · rw [if_neg h2]
      refine .inr ?_
      rw [List.getElem?_eq_none (by omega)]
  · rw [if_neg h]; exact .inr rfl
theorem okL_tu {W : List (List CV)} (hl : W.length ≤ 12) (hi : ∀ j, j < W.length → inI (c1 (Sx.rowAt W j)) = true ∧ inI (c2 (Sx.rowAt W j)) = true) {k : Nat} {o0 o1 o2 o3 o4 : Int} (h1 : inI o1 = true) (h2 : inI o2 = true) : OkL (tuA W W.length k o0 o1 o2 o3 o4) W.length := by
  refine ⟨by unfold tuA; rw [List.length_set, List.length_take]; omega, by omega, fun j hj => ?_⟩
  unfold tuA
  rw [List.take_length]
  rcases rowAt_set W k (mkS o0 o1 o2 o3 o4) j with e | e
  · rw [e]; exact ⟨h1, h2⟩
  · rw [e]; exact hi j hj
theorem okL_tuB {W : List (List CV)} (hl : W.length ≤ 12) (hi : ∀ j, j < W.length → inI (c1 (Sx.rowAt W j)) = true ∧ inI (c2 (Sx.rowAt W j)) = true) {k : Nat} (hk : k < W.length) {o0 o1 o2 o3 o4 : Int} (h1 : inI o1 = true) (h2 : inI o2 = true) : OkL (tuB W W.length k o0 o1 o2 o3 o4) W.length := by
  have hA := okL_tu hl hi (k := k) (o0 := o0) (o3 := o3) (o4 := o4) h1 h2
  refine ⟨by unfold tuB tuA; rw [List.length_set, List.length_set, List.length_take]; omega, by omega, fun j hj => ?_⟩
  unfold tuB
  rcases rowAt_set (tuA W W.length k o0 o1 o2 o3 o4) k (mkS (c0 (Sx.rowAt W k)) (c1 (Sx.rowAt W k)) (c2 (Sx.rowAt W k)) (c3 (Sx.rowAt (tuA W W.length k o0 o1 o2 o3 o4) k)) (c4 (Sx.rowAt (tuA W W.length k o0 o1 o2 o3 o4) k))) j with e | e
  · rw [e]; exact hi k hk
  · rw [e]; exact hA.ints j hj
theorem okL_some {S : List (List CV)} {n : Nat} (h : okSp n S) : OkL S (mnI (n : Int) 12).toNat := by
  have hm : (mnI (n : Int) 12).toNat ≤ n ∧ (mnI (n : Int) 12).toNat ≤ 12 := by
    show (if (12 : Int) < (n : Int) then 12 else (n : Int)).toNat ≤ n ∧ (if (12 : Int) < (n : Int) then 12 else (n : Int)).toNat ≤ 12
    split <;> omega
  exact ⟨Nat.le_trans hm.1 h.1, by omega, fun j hj => h.2.2 j (by omega)⟩
theorem w64_in {a : Int} (h : inI a = true) : inI (w64 (Int.tdiv a 16)) = true := by
  have h := inI_iff.1 h
  have k : inI (Int.tdiv a 16) = true := by
    rw [inI_iff]
    rcases Int.le_total 0 a with h0 | h0
    · rw [Int.tdiv_eq_ediv_of_nonneg h0]; omega
    · have e : Int.tdiv a 16 = -(Int.tdiv (-a) 16) := by rw [Int.neg_tdiv, Int.neg_neg]
      rw [e, Int.tdiv_eq_ediv_of_nonneg (by omega)]; omega
  rw [w64_of k]; exact k
section
variable {R Z S W : List (List CV)} {a z n : Nat} {wh o0 o1 o2 o3 o4 a0 a1 a2 : Int}
theorem p2n_0 (hb : okBk [] []) (hS : okSp n S) (h0 : inI a0 = true) (h1 : inI a1 = true) (h2 : inI a2 = true) : GoesTo Tryz.prog Tryz.f3 [fA R, fZ Z, fSp S] pure2 (restC 4 bTe) (sT1 R Z S n wh o0 o1 o2 o3 o4 a0 a1 a2 .qzz 6 [] tl0) (AV.bool true, [fA R, fZ Z, fSp S]) :=
  goes_cutV (pre := [fA R, fZ Z, fSp S]) (qzv tTe_ok host qyz 20) qyt (t2n_0 (R := R) (Z := Z) (S := S) (n := n) (wh := wh) (o0 := o0) (o1 := o1) (o2 := o2) (o3 := o3) (o4 := o4) (a0 := a0) (a1 := a1) (a2 := a2)) (restC_add 4 2 bTe) (goes_0 hb ⟨Nat.le_refl _, by decide, fun j hj => absurd hj (Nat.not_lt_zero j)⟩ ⟨Nat.le_refl _, by decide, fun j hj => absurd hj (Nat.not_lt_zero j)⟩ (okL_some hS) h0 h1 h2)
theorem p2v_0 (hb : okBk [] []) (hW : 0 < W.length) (hl : W.length ≤ 12) (hi : ∀ j, j < W.length → inI (c1 (Sx.rowAt W j)) = true ∧ inI (c2 (Sx.rowAt W j)) = true) (hS : okSp n S) (hw : inI wh = true) (g1 : inI o1 = true) (g2 : inI o2 = true) (h0 : inI a0 = true) (h1 : inI a1 = true) (h2 : inI a2 = true) :
    GoesTo Tryz.prog Tryz.f3 [fA R, fZ Z, fSp S] pure2 (restC 4 bTe) (sT1 R Z S n wh o0 o1 o2 o3 o4 a0 a1 a2 (.vec 6 W.length) 7 [some (vS W)] tl0) (AV.bool true, [fA R, fZ Z, fSp S]) := by
  have key := t2v_0 (R := R) (Z := Z) (S := S) (n := n) (wh := wh) (o0 := o0) (o1 := o1) (o2 := o2) (o3 := o3) (o4 := o4) (a0 := a0) (a1 := a1) (a2 := a2) (W := W) (m := W.length)
  have hp := pickS_bd (a := wh) (n := (W.length : Int)) (by omega)
  have hk : (qyv wh (W.length : Int)).toNat < W.length := by omega
  have r40 : (decide (W.length ≤ W.length) && roomB W.length 40) = true := by
    unfold roomB
    rw [decide_eq_true (Nat.le_refl _), decide_eq_true ⟨by omega, by omega⟩]; rfl
  have ck : ∀ b ∈ [inI wh, decide (0 < (W.length : Int) ∧ (W.length : Int) < 1000000000), decide (0 ≤ qyv wh W.length ∧ qyv wh W.length < (W.length : Int)), decide ((qyv wh W.length).toNat < (List.take W.length W).length) && true && true && true, inI (w64 (Int.tdiv wh 16))], b = true := by
    intro b hb'
    simp only [List.mem_cons, List.not_mem_nil, or_false] at hb'
    rcases hb' with rfl | rfl | rfl | rfl | rfl
    · exact hw
    · exact decide_eq_true ⟨by omega, by omega⟩
    · exact decide_eq_true hp
    · rw [List.take_length, decide_eq_true hk]; rfl
    · exact w64_in hw
  rw [bcT (decide_eq_true hW), qzy (all1 r40), bcT (b := decide ((W.length : Int) > 0)) (decide_eq_true (by omega)), qzy ck] at key
  have okW' : OkL W W.length := ⟨Nat.le_refl _, by omega, hi⟩
  cases hq : pk16 wh == 0 with
  | true =>
    have cu : ∀ b ∈ ckU W W.length (qyv wh W.length) (tuA W W.length (qyv wh W.length).toNat o0 o1 o2 o3 o4), b = true := by
      intro b hb'
      unfold ckU at hb'
      simp only [List.mem_cons, List.not_mem_nil, or_false] at hb'
      rcases hb' with rfl | rfl | rfl | rfl
      · exact decide_eq_true hp
      · rw [decide_eq_true hk]; rfl
      · exact decide_eq_true hp
      · rw [decide_eq_true (by unfold tuA; rw [List.length_set, List.take_length]; exact hk)]; rfl
    rw [bcT hq, qzy cu] at key
    exact goes_cutV (pre := [fA R, fZ Z, fSp S]) (qzv tTe_ok host qyz 20) qyt key (restC_add 4 2 bTe) (goes_0 hb okW' (okL_tuB hl hi hk g1 g2) (okL_some hS) h0 h1 h2)
  | false =>
    rw [bcF hq] at key
    exact goes_cutV (pre := [fA R, fZ Z, fSp S]) (qzv tTe_ok host qyz 20) qyt key (restC_add 4 2 bTe) (goes_0 hb okW' (okL_tu hl hi g1 g2) (okL_some hS) h0 h1 h2)
theorem p2n_x {x : List CV} {X : List (List CV)} (hb : okBk (x :: X) []) (hS : okSp n S) (h0 : inI a0 = true) (h1 : inI a1 = true) (h2 : inI a2 = true) : GoesTo Tryz.prog Tryz.f3 [fA R, fZ Z, fSp S] pure2 (restC 4 bTe) (sT1 R Z S n wh o0 o1 o2 o3 o4 a0 a1 a2 .qzz 6 [] (tlX 7 (x :: X))) (AV.bool true, [fA R, fZ Z, fSp S]) :=
  goes_cutV (pre := [fA R, fZ Z, fSp S]) (qzv tTe_ok host qyz 20) qyt (t2n_x (X := x :: X) (R := R) (Z := Z) (S := S) (n := n) (wh := wh) (o0 := o0) (o1 := o1) (o2 := o2) (o3 := o3) (o4 := o4) (a0 := a0) (a1 := a1) (a2 := a2)) (restC_add 4 2 bTe) (goes_x hb ⟨Nat.le_refl _, by decide, fun j hj => absurd hj (Nat.not_lt_zero j)⟩ ⟨Nat.le_refl _, by decide, fun j hj => absurd hj (Nat.not_lt_zero j)⟩ (okL_some hS) h0 h1 h2)
theorem p2v_x {x : List CV} {X : List (List CV)} (hb : okBk (x :: X) []) (hW : 0 < W.length) (hl : W.length ≤ 12) (hi : ∀ j, j < W.length → inI (c1 (Sx.rowAt W j)) = true ∧ inI (c2 (Sx.rowAt W j)) = true) (hS : okSp n S) (hw : inI wh = true) (g1 : inI o1 = true) (g2 : inI o2 = true) (h0 : inI a0 = true) (h1 : inI a1 = true) (h2 : inI a2 = true) :
    GoesTo Tryz.prog Tryz.f3 [fA R, fZ Z, fSp S] pure2 (restC 4 bTe) (sT1 R Z S n wh o0 o1 o2 o3 o4 a0 a1 a2 (.vec 6 W.length) 7 [some (vS W)] (tlX 8 (x :: X))) (AV.bool true, [fA R, fZ Z, fSp S]) := by
  have key := t2v_x (X := x :: X) (R := R) (Z := Z) (S := S) (n := n) (wh := wh) (o0 := o0) (o1 := o1) (o2 := o2) (o3 := o3) (o4 := o4) (a0 := a0) (a1 := a1) (a2 := a2) (W := W) (m := W.length)
  have hp := pickS_bd (a := wh) (n := (W.length : Int)) (by omega)
  have hk : (qyv wh (W.length : Int)).toNat < W.length := by omega
  have r40 : (decide (W.length ≤ W.length) && roomB W.length 40) = true := by
    unfold roomB
    rw [decide_eq_true (Nat.le_refl _), decide_eq_true ⟨by omega, by omega⟩]; rfl
  have ck : ∀ b ∈ [inI wh, decide (0 < (W.length : Int) ∧ (W.length : Int) < 1000000000), decide (0 ≤ qyv wh W.length ∧ qyv wh W.length < (W.length : Int)), decide ((qyv wh W.length).toNat < (List.take W.length W).length) && true && true && true, inI (w64 (Int.tdiv wh 16))], b = true := by
    intro b hb'
    simp only [List.mem_cons, List.not_mem_nil, or_false] at hb'
    rcases hb' with rfl | rfl | rfl | rfl | rfl
    · exact hw
    · exact decide_eq_true ⟨by omega, by omega⟩
    · exact decide_eq_true hp
    · rw [List.take_length, decide_eq_true hk]; rfl
    · exact w64_in hw
  rw [bcT (decide_eq_true hW), qzy (all1 r40), bcT (b := decide ((W.length : Int) > 0)) (decide_eq_true (by omega)), qzy ck] at key
  have okW' : OkL W W.length := ⟨Nat.le_refl _, by omega, hi⟩
  cases hq : pk16 wh == 0 with
  | true =>
    have cu : ∀ b ∈ ckU W W.length (qyv wh W.length) (tuA W W.length (qyv wh W.length).toNat o0 o1 o2 o3 o4), b = true := by
      intro b hb'
      unfold ckU at hb'
      simp only [List.mem_cons, List.not_mem_nil, or_false] at hb'
      rcases hb' with rfl | rfl | rfl | rfl
      · exact decide_eq_true hp
      · rw [decide_eq_true hk]; rfl
      · exact decide_eq_true hp
      · rw [decide_eq_true (by unfold tuA; rw [List.length_set, List.take_length]; exact hk)]; rfl
    rw [bcT hq, qzy cu] at key
    exact goes_cutV (pre := [fA R, fZ Z, fSp S]) (qzv tTe_ok host qyz 20) qyt key (restC_add 4 2 bTe) (goes_x hb okW' (okL_tuB hl hi hk g1 g2) (okL_some hS) h0 h1 h2)
  | false =>
    rw [bcF hq] at key
    exact goes_cutV (pre := [fA R, fZ Z, fSp S]) (qzv tTe_ok host qyz 20) qyt key (restC_add 4 2 bTe) (goes_x hb okW' (okL_tu hl hi g1 g2) (okL_some hS) h0 h1 h2)
theorem p2n_y {y : List CV} {Y : List (List CV)} (hb : okBk [] (y :: Y)) (hS : okSp n S) (h0 : inI a0 = true) (h1 : inI a1 = true) (h2 : inI a2 = true) : GoesTo Tryz.prog Tryz.f3 [fA R, fZ Z, fSp S] pure2 (restC 4 bTe) (sT1 R Z S n wh o0 o1 o2 o3 o4 a0 a1 a2 .qzz 6 [] (tlY 7 (y :: Y))) (AV.bool true, [fA R, fZ Z, fSp S]) :=
  goes_cutV (pre := [fA R, fZ Z, fSp S]) (qzv tTe_ok host qyz 20) qyt (t2n_y (Y := y :: Y) (R := R) (Z := Z) (S := S) (n := n) (wh := wh) (o0 := o0) (o1 := o1) (o2 := o2) (o3 := o3) (o4 := o4) (a0 := a0) (a1 := a1) (a2 := a2)) (restC_add 4 2 bTe) (goes_y hb ⟨Nat.le_refl _, by decide, fun j hj => absurd hj (Nat.not_lt_zero j)⟩ ⟨Nat.le_refl _, by decide, fun j hj => absurd hj (Nat.not_lt_zero j)⟩ (okL_some hS) h0 h1 h2)
theorem p2v_y {y : List CV} {Y : List (List CV)} (hb : okBk [] (y :: Y)) (hW : 0 < W.length) (hl : W.length ≤ 12) (hi : ∀ j, j < W.length → inI (c1 (Sx.rowAt W j)) = true ∧ inI (c2 (Sx.rowAt W j)) = true) (hS : okSp n S) (hw : inI wh = true) (g1 : inI o1 = true) (g2 : inI o2 = true) (h0 : inI a0 = true) (h1 : inI a1 = true) (h2 : inI a2 = true) :
    GoesTo Tryz.prog Tryz.f3 [fA R, fZ Z, fSp S] pure2 (restC 4 bTe) (sT1 R Z S n wh o0 o1 o2 o3 o4 a0 a1 a2 (.vec 6 W.length) 7 [some (vS W)] (tlY 8 (y :: Y))) (AV.bool true, [fA R, fZ Z, fSp S]) := by
  have key := t2v_y (Y := y :: Y) (R := R) (Z := Z) (S := S) (n := n) (wh := wh) (o0 := o0) (o1 := o1) (o2 := o2) (o3 := o3) (o4 := o4) (a0 := a0) (a1 := a1) (a2 := a2) (W := W) (m := W.length)
  have hp := pickS_bd (a := wh) (n := (W.length : Int)) (by omega)
  have hk : (qyv wh (W.length : Int)).toNat < W.length := by omega
  have r40 : (decide (W.length ≤ W.length) && roomB W.length 40) = true := by
    unfold roomB
    rw [decide_eq_true (Nat.le_refl _), decide_eq_true ⟨by omega, by omega⟩]; rfl
  have ck : ∀ b ∈ [inI wh, decide (0 < (W.length : Int) ∧ (W.length : Int) < 1000000000), decide (0 ≤ qyv wh W.length ∧ qyv wh W.length < (W.length : Int)), decide ((qyv wh W.length).toNat < (List.take W.length W).length) && true && true && true, inI (w64 (Int.tdiv wh 16))], b = true := by
    intro b hb'
    simp only [List.mem_cons, List.not_mem_nil, or_false] at hb'
    rcases hb' with rfl | rfl | rfl | rfl | rfl
    · exact hw
    · exact decide_eq_true ⟨by omega, by omega⟩
    · exact decide_eq_true hp
    · rw [List.take_length, decide_eq_true hk]; rfl
    · exact w64_in hw
  rw [bcT (decide_eq_true hW), qzy (all1 r40), bcT (b := decide ((W.length : Int) > 0)) (decide_eq_true (by omega)), qzy ck] at key
  have okW' : OkL W W.length := ⟨Nat.le_refl _, by omega, hi⟩
  cases hq : pk16 wh == 0 with
  | true =>
    have cu : ∀ b ∈ ckU W W.length (qyv wh W.length) (tuA W W.length (qyv wh W.length).toNat o0 o1 o2 o3 o4), b = true := by
      intro b hb'
      unfold ckU at hb'
      simp only [List.mem_cons, List.not_mem_nil, or_false] at hb'
      rcases hb' with rfl | rfl | rfl | rfl
      · exact decide_eq_true hp
      · rw [decide_eq_true hk]; rfl
      · exact decide_eq_true hp
      · rw [decide_eq_true (by unfold tuA; rw [List.length_set, List.take_length]; exact hk)]; rfl
    rw [bcT hq, qzy cu] at key
    exact goes_cutV (pre := [fA R, fZ Z, fSp S]) (qzv tTe_ok host qyz 20) qyt key (restC_add 4 2 bTe) (goes_y hb okW' (okL_tuB hl hi hk g1 g2) (okL_some hS) h0 h1 h2)
  | false =>
    rw [bcF hq] at key
    exact goes_cutV (pre := [fA R, fZ Z, fSp S]) (qzv tTe_ok host qyz 20) qyt key (restC_add 4 2 bTe) (goes_y hb okW' (okL_tu hl hi g1 g2) (okL_some hS) h0 h1 h2)
theorem p2n_b {x : List CV} {X : List (List CV)} {y : List CV} {Y : List (List CV)} (hb : okBk (x :: X) (y :: Y)) (hS : okSp n S) (h0 : inI a0 = true) (h1 : inI a1 = true) (h2 : inI a2 = true) : GoesTo Tryz.prog Tryz.f3 [fA R, fZ Z, fSp S] pure2 (restC 4 bTe) (sT1 R Z S n wh o0 o1 o2 o3 o4 a0 a1 a2 .qzz 6 [] (tlB 7 (x :: X) (y :: Y))) (AV.bool true, [fA R, fZ Z, fSp S]) :=
  goes_cutV (pre := [fA R, fZ Z, fSp S]) (qzv tTe_ok host qyz 20) qyt (t2n_b (X := x :: X) (Y := y :: Y) (R := R) (Z := Z) (S := S) (n := n) (wh := wh) (o0 := o0) (o1 := o1) (o2 := o2) (o3 := o3) (o4 := o4) (a0 := a0) (a1 := a1) (a2 := a2)) (restC_add 4 2 bTe) (goes_b hb ⟨Nat.le_refl _, by decide, fun j hj => absurd hj (Nat.not_lt_zero j)⟩ ⟨Nat.le_refl _, by decide, fun j hj => absurd hj (Nat.not_lt_zero j)⟩ (okL_some hS) h0 h1 h2)
theorem p2v_b {x : List CV} {X : List (List CV)} {y : List CV} {Y : List (List CV)} (hb : okBk (x :: X) (y :: Y)) (hW : 0 < W.length) (hl : W.length ≤ 12) (hi : ∀ j, j < W.length → inI (c1 (Sx.rowAt W j)) = true ∧ inI (c2 (Sx.rowAt W j)) = true) (hS : okSp n S) (hw : inI wh = true) (g1 : inI o1 = true) (g2 : inI o2 = true) (h0 : inI a0 = true) (h1 : inI a1 = true) (h2 : inI a2 = true) :
    GoesTo Tryz.prog Tryz.f3 [fA R, fZ Z, fSp S] pure2 (restC 4 bTe) (sT1 R Z S n wh o0 o1 o2 o3 o4 a0 a1 a2 (.vec 6 W.length) 7 [some (vS W)] (tlB 8 (x :: X) (y :: Y))) (AV.bool true, [fA R, fZ Z, fSp S]) := by
  have key := t2v_b (X := x :: X) (Y := y :: Y) (R := R) (Z := Z) (S := S) (n := n) (wh := wh) (o0 := o0) (o1 := o1) (o2 := o2) (o3 := o3) (o4 := o4) (a0 := a0) (a1 := a1) (a2 := a2) (W := W) (m := W.length)
  have hp := pickS_bd (a := wh) (n := (W.length : Int)) (by omega)
  have hk : (qyv wh (W.length : Int)).toNat < W.length := by omega
  have r40 : (decide (W.length ≤ W.length) && roomB W.length 40) = true := by
    unfold roomB
    rw [decide_eq_true (Nat.le_refl _), decide_eq_true ⟨by omega, by omega⟩]; rfl
  have ck : ∀ b ∈ [inI wh, decide (0 < (W.length : Int) ∧ (W.length : Int) < 1000000000), decide (0 ≤ qyv wh W.length ∧ qyv wh W.length < (W.length : Int)), decide ((qyv wh W.length).toNat < (List.take W.length W).length) && true && true && true, inI (w64 (Int.tdiv wh 16))], b = true := by
    intro b hb'
    simp only [List.mem_cons, List.not_mem_nil, or_false] at hb'
    rcases hb' with rfl | rfl | rfl | rfl | rfl
    · exact hw
    · exact decide_eq_true ⟨by omega, by omega⟩
    · exact decide_eq_true hp
    · rw [List.take_length, decide_eq_true hk]; rfl
    · exact w64_in hw
  rw [bcT (decide_eq_true hW), qzy (all1 r40), bcT (b := decide ((W.length : Int) > 0)) (decide_eq_true (by omega)), qzy ck] at key
  have okW' : OkL W W.length := ⟨Nat.le_refl _, by omega, hi⟩
  cases hq : pk16 wh == 0 with
  | true =>
    have cu : ∀ b ∈ ckU W W.length (qyv wh W.length) (tuA W W.length (qyv wh W.length).toNat o0 o1 o2 o3 o4), b = true := by
      intro b hb'
      unfold ckU at hb'
      simp only [List.mem_cons, List.not_mem_nil, or_false] at hb'
      rcases hb' with rfl | rfl | rfl | rfl
      · exact decide_eq_true hp
      · rw [decide_eq_true hk]; rfl
      · exact decide_eq_true hp
      · rw [decide_eq_true (by unfold tuA; rw [List.length_set, List.take_length]; exact hk)]; rfl
    rw [bcT hq, qzy cu] at key
    exact goes_cutV (pre := [fA R, fZ Z, fSp S]) (qzv tTe_ok host qyz 20) qyt key (restC_add 4 2 bTe) (goes_b hb okW' (okL_tuB hl hi hk g1 g2) (okL_some hS) h0 h1 h2)
  | false =>
    rw [bcF hq] at key
    exact goes_cutV (pre := [fA R, fZ Z, fSp S]) (qzv tTe_ok host qyz 20) qyt key (restC_add 4 2 bTe) (goes_b hb okW' (okL_tu hl hi g1 g2) (okL_some hS) h0 h1 h2)
theorem te_body : Tryz.f3.body = some bTe := by kernel_rfl
open Classical in
theorem st_meets (hA : okA a R) (hZ : okZ z Z) (hS : okSp n S) (hw : inI wh = true) (g1 : inI o1 = true) (g2 : inI o2 = true) (h0 : inI a0 = true) (h1 : inI a1 = true) (h2 : inI a2 = true) :
    Meets Tryz.prog 3 [.dsl 0 a, .dsl 1 z, .int .i64 wh, aA o0 o1 o2 o3 o4, .dsl 2 n, aP a0 a1 a2] ([fA R, fZ Z, fSp S].map PObj.toA) (.bool true) ([fA R, fZ Z, fSp S].map PObj.toA) := by
  have hb := book_ok R a
  have hl := spW_le R a Z z
  have hi : ∀ j, j < (spW R a Z z).length → inI (c1 (Sx.rowAt (spW R a Z z) j)) = true ∧ inI (c2 (Sx.rowAt (spW R a Z z) j)) = true := fun j hj => by
    obtain ⟨q1, q2, _⟩ := (spW_row (row_mem hj)).2.2.2
    exact ⟨inI_iff.2 ⟨by omega, by omega⟩, inI_iff.2 ⟨by omega, by omega⟩⟩
  have hd := hd_tells R Z S a z n wh o0 o1 o2 o3 o4 a0 a1 a2
  have hrest : ∃ st, hdTe R Z S a z n wh o0 o1 o2 o3 o4 a0 a1 a2 = some ((Ex.normal : Ex), st) ∧ GoesTo Tryz.prog Tryz.f3 [fA R, fZ Z, fSp S] pure2 (restC 4 bTe) st (AV.bool true, [fA R, fZ Z, fSp S]) := by
    unfold hdTe owTe
    rw [qzy (all1 (decide_eq_true hA))]
    simp only [qzy (all1 (decide_eq_true (show okA a R ∧ okZ z Z from ⟨hA, hZ⟩)))]
    generalize bkX R a 0 = X at *
    generalize bkX R a 1 = Y at *
    generalize spW R a Z z = W at *
    cases X with
    | nil => cases Y with
      | nil => cases W with
        | nil => exact ⟨_, rfl, p2n_0 hb hS h0 h1 h2⟩
        | cons w W => exact ⟨_, rfl, p2v_0 hb (Nat.succ_pos _) hl hi hS hw g1 g2 h0 h1 h2⟩
      | cons y Y => cases W with
        | nil => exact ⟨_, rfl, p2n_y hb hS h0 h1 h2⟩
        | cons w W => exact ⟨_, rfl, p2v_y hb (Nat.succ_pos _) hl hi hS hw g1 g2 h0 h1 h2⟩
    | cons x X => cases Y with
      | nil => cases W with
        | nil => exact ⟨_, rfl, p2n_x hb hS h0 h1 h2⟩
        | cons w W => exact ⟨_, rfl, p2v_x hb (Nat.succ_pos _) hl hi hS hw g1 g2 h0 h1 h2⟩
      | cons y Y => cases W with
        | nil => exact ⟨_, rfl, p2n_b hb hS h0 h1 h2⟩
        | cons w W => exact ⟨_, rfl, p2v_b hb (Nat.succ_pos _) hl hi hS hw g1 g2 h0 h1 h2⟩
  obtain ⟨st, e, hg⟩ := hrest
  obtain ⟨res, post, k1, k2⟩ := goes_meets (R := AV × List PObj) (NF := 64) (args := [.dsl 0 a, .dsl 1 z, .int .i64 wh, aA o0 o1 o2 o3 o4, .dsl 2 n, aP a0 a1 a2]) (pre := [fA R, fZ Z, fSp S]) (k := pure2) (r := (.bool true, [fA R, fZ Z, fSp S])) host Tryz.func3 te_body
    (goes_cut (pre := [fA R, fZ Z, fSp S]) (qzv tTe_ok host qyz 20) qyt (hd.trans e) hg)
  cases k2
  exact k1
end
end Go.Proofs.YtphhepnldndbhaaGreatDoor.Dp
namespace Go.Proofs.YtphhepnldndbhaaGreatDoor.Dp
open Go Sx Go.Proofs.YtphhepnldndbhaaGreatDoor Go.ChangeShapes Go.WideShapes Go.ChangeAt Go.RowKit Go.Joins Go.Deep
def rowI5 (w : World) (b off : Nat) : List CV := [.mk (cI w b off) [] false [], .mk (cI w b (off + 1)) [] false [], .mk (cI w b (off + 2)) [] false [], .mk (cI w b (off + 3)) [] false [], .mk (cI w b (off + 4)) [] false []]
def AnInt (v : Value) : Prop := ∃ k : Int, v = .int .i64 k ∧ inI k = true
section
variable {H : Type} {enc : TypeId × Value → H}
set_option maxRecDepth 20000 in
theorem at_ints {w : World} {base : Nat} {spare : Nat → Bool} {held : Bool} {n : Nat} {a0 a1 a2 : Value} {x : DataW H × List MemPlace} (h : DataW.trod enc Tryz.prog w base spare held n 25 [a0, a1, a2] = some x) : AnInt a0 ∧ AnInt a1 ∧ AnInt a2 := by
  obtain ⟨xs, m, rfl, _, hl, hx, hf⟩ := DataW.trod_struct Tryz.underlying25 h
  have e0 := hf 0 _ rfl
  have e1 := hf 1 _ rfl
  have e2 := hf 2 _ rfl
  have c3' : Tryz.prog.cellsOf 3 = 1 := by kernel_rfl
  have hx : xs.length = 3 := hx
  rw [List.getElem?_eq_getElem (by omega)] at e0 e1 e2
  obtain ⟨k, q0, _, wk⟩ := DataW.trod_int (k := .i64) Tryz.underlying3 e0
  obtain ⟨k', q1, _, wk'⟩ := DataW.trod_int (k := .i64) Tryz.underlying3 e1
  obtain ⟨k'', q2, _, wk''⟩ := DataW.trod_int (k := .i64) Tryz.underlying3 e2
  have q0 : List.take (Tryz.prog.cellsOf 3) (List.drop 0 [a0, a1, a2]) = [.int .i64 k] := q0
  have q1 : List.take (Tryz.prog.cellsOf 3) (List.drop 1 [a0, a1, a2]) = [.int .i64 k'] := q1
  have q2 : List.take (Tryz.prog.cellsOf 3) (List.drop 2 [a0, a1, a2]) = [.int .i64 k''] := q2
  rw [c3'] at q0 q1 q2
  cases q0
  cases q1
  cases q2
  exact ⟨⟨k, rfl, inI_of wk⟩, ⟨k', rfl, inI_of wk'⟩, ⟨k'', rfl, inI_of wk''⟩⟩
set_option maxRecDepth 20000 in
theorem spill_ints {w : World} {base : Nat} {spare : Nat → Bool} {held : Bool} {n : Nat} {a0 a1 a2 a3 a4 : Value} {x : DataW H × List MemPlace} (h : DataW.trod enc Tryz.prog w base spare held n 27 [a0, a1, a2, a3, a4] = some x) : AnInt a0 ∧ AnInt a1 ∧ AnInt a2 ∧ AnInt a3 ∧ AnInt a4 := by
  obtain ⟨xs, m, rfl, _, hl, hx, hf⟩ := DataW.trod_struct Tryz.underlying27 h
  have e0 := hf 0 _ rfl
  have e1 := hf 1 _ rfl
  have e2 := hf 2 _ rfl
  have c3' : Tryz.prog.cellsOf 3 = 1 := by kernel_rfl
  have c25 : Tryz.prog.cellsOf 25 = 3 := by kernel_rfl
  have hx : xs.length = 3 := hx
  rw [List.getElem?_eq_getElem (by omega)] at e0 e1 e2
  have e0 : DataW.trod enc Tryz.prog w base spare held _ 25 (List.take (Tryz.prog.cellsOf 25) (List.drop 0 [a0, a1, a2, a3, a4])) = _ := e0
  rw [c25] at e0
  obtain ⟨q0, q1, q2⟩ := at_ints e0
  obtain ⟨k', p1, _, wk'⟩ := DataW.trod_int (k := .i64) Tryz.underlying3 e1
  obtain ⟨k'', p2, _, wk''⟩ := DataW.trod_int (k := .i64) Tryz.underlying3 e2
  have p1 : List.take (Tryz.prog.cellsOf 3) (List.drop 3 [a0, a1, a2, a3, a4]) = [.int .i64 k'] := p1
  have p2 : List.take (Tryz.prog.cellsOf 3) (List.drop 4 [a0, a1, a2, a3, a4]) = [.int .i64 k''] := p2
  rw [c3'] at p1 p2
  cases p1
  cases p2
  exact ⟨q0, q1, q2, ⟨k', rfl, inI_of wk'⟩, ⟨k'', rfl, inI_of wk''⟩⟩
set_option maxRecDepth 20000 in
theorem open_spill {w : World} {base : Nat} {spare : Nat → Bool} {held : Bool} {n : Nat} {cs : List Value} {x : DataW H × List MemPlace} {b off : Nat} (hc : w.cells? base ⟨b, off, none⟩ 5 = some cs) (h : DataW.trod enc Tryz.prog w base spare held n 27 cs = some x) : IntAt w b off ∧ IntAt w b (off + 1) ∧ IntAt w b (off + 2) ∧ IntAt w b (off + 3) ∧ IntAt w b (off + 4) := by
  obtain ⟨_, hlen, hcell⟩ := World.cells?_some hc
  match cs, hlen with
  | [a0, a1, a2, a3, a4], _ =>
    obtain ⟨⟨n0, rfl, i0⟩, ⟨n1, rfl, i1⟩, ⟨n2, rfl, i2⟩, ⟨n3, rfl, i3⟩, n4, rfl, i4⟩ := spill_ints h
    have k0 := hcell 0 (by omega)
    have k1 := hcell 1 (by omega)
    have k2 := hcell 2 (by omega)
    have k3 := hcell 3 (by omega)
    have k4 := hcell 4 (by omega)
    rw [add_plain] at k0 k1 k2 k3 k4
    exact ⟨⟨n0, k0, i0⟩, ⟨n1, k1, i1⟩, ⟨n2, k2, i2⟩, ⟨n3, k3, i3⟩, n4, k4, i4⟩
set_option maxRecDepth 20000 in
theorem open_spillv {w : World} {base b0 : Nat} {spare : Nat → Bool} {held : Bool} {v : Value} {d : DataW H} {p : List MemPlace} (hv : Value.okWide Tryz.prog w .any b0 27 v) (h : DataW.Trod enc Tryz.prog w base spare held 27 v d p) :
    ∃ o0 o1 o2 o3 o4 : Int, v = .agg #[.int .i64 o0, .int .i64 o1, .int .i64 o2, .int .i64 o3, .int .i64 o4] ∧ inI o1 = true ∧ inI o2 = true := by
  obtain ⟨cs, rfl, hsz⟩ := okWide_struct Tryz.underlying27 hv
  obtain ⟨fuel, hf⟩ := h
  have c5 : Tryz.prog.cellsOf 27 = 5 := by kernel_rfl
  rw [c5] at hsz
  obtain ⟨l⟩ := cs
  have hsz : l.length = 5 := hsz
  match l, hsz with
  | [a0, a1, a2, a3, a4], _ =>
    obtain ⟨⟨n0, rfl, i0⟩, ⟨n1, rfl, i1⟩, ⟨n2, rfl, i2⟩, ⟨n3, rfl, i3⟩, n4, rfl, i4⟩ := spill_ints hf
    exact ⟨n0, n1, n2, n3, n4, rfl, i1, i2⟩
set_option maxRecDepth 20000 in
theorem open_spills {w : World} {base b0 : Nat} {spare : Nat → Bool} {held : Bool} {v : Value} {d : DataW H} {p : List MemPlace} (hv : Value.okWide Tryz.prog w .any b0 28 v) (h : DataW.Trod enc Tryz.prog w base spare held 28 v d p) :
    ∃ (rows : List (List CV)) (l b : Nat) (c : Cap), (∀ (E : Env) (nm : Nat), E nm = some (b, c) → den E (.dsl nm l) = some v) ∧ okSp l rows ∧ (∀ E, ObjR E w b c (.flatR false shS rows)) ∧ ∀ k, ¬ under c k := by
  obtain ⟨n, h⟩ := h
  obtain ⟨a, len, cap, rfl⟩ := okWide_slice Tryz.underlying28 hv
  rcases open_slice Tryz.underlying28 h with ⟨hc, _⟩ | ⟨a', len', cap', m, n', D, Pl, hc, hb, hl, hm, hmm, _, hx⟩
  · simp [Value.cells] at hc
    obtain ⟨rfl, rfl, rfl⟩ := hc
    exact ⟨[], 0, 0, { n := 0, z := true }, fun E nm hE => by simp [den, hE], ⟨by simp, by omega, fun i hi => by omega⟩, fun E => ⟨fun _ => rfl, fun e => by cases e⟩, Cap.bare_of fun _ _ => rfl⟩
  · simp [Value.cells] at hc
    obtain ⟨rfl, rfl, rfl⟩ := hc
    have hok : Cell.ok Tryz.prog w .any b0 28 (.slice (some a') len cap) := by
      simpa only [Value.okWide, Cell.okWide, Tryz.underlying28] using hv
    simp only [Cell.ok, Tryz.underlying28] at hok
    obtain ⟨_, _, _, hsp, row, cells, hsh, _⟩ := hok
    obtain ⟨b, off, sp⟩ := a'
    have hsp : sp = none := hsp
    subst hsp
    have c31 : Tryz.prog.cellsOf 27 = 5 := by kernel_rfl
    have st : ∀ i, i < len → IntAt w b (off + i * 5) ∧ IntAt w b (off + i * 5 + 1) ∧ IntAt w b (off + i * 5 + 2) ∧ IntAt w b (off + i * 5 + 3) ∧ IntAt w b (off + i * 5 + 4) := fun i hi => by
      obtain ⟨cs', h1, h2⟩ := hx i (by rw [hmm]; split <;> omega)
      rw [c31, add_plain] at h1
      exact open_spill h1 h2
    have hrow : ∀ i, i < len → Sx.rowAt ((List.range len).map fun i => rowI5 w b (off + i * 5)) i = rowI5 w b (off + i * 5) := fun i hi => by
      unfold Sx.rowAt
      rw [List.getD_eq_getElem?_getD, List.getElem?_map, List.getElem?_range hi]; rfl
    have hml : maxLen = 9223372036854775807 := by kernel_rfl
    refine ⟨(List.range len).map fun i => rowI5 w b (off + i * 5), len, b, { n := cap, o := off }, fun E nm hE => ?_, ⟨by simp, by omega, fun i hi => ?_⟩, fun E => ⟨fun e => by (cases e), fun _ => ⟨shape_lt hsh, fun i j v hi hj hv => ?_⟩⟩, Cap.bare_of fun _ _ => rfl⟩
    · simp [den, hE, hl]
    · rw [hrow i hi]
      obtain ⟨s0, s1, s2, s3, s4⟩ := st i hi
      exact ⟨s1.inI, s2.inI⟩
    · have hi : i < len := by simpa using hi
      rw [hrow i hi] at hv
      obtain ⟨s0, s1, s2, s3, s4⟩ := st i hi
      rw [show off + (i * shS.length + j) = off + i * 5 + j by show off + (i * 5 + j) = _; omega]
      have hj : j < 5 := hj
      match j, hj with
      | 0, _ => rw [← show some (Value.int .i64 (cI w b (off + i * 5))) = some v from hv]; exact s0.cell
      | 1, _ => rw [← show some (Value.int .i64 (cI w b (off + i * 5 + 1))) = some v from hv]; exact s1.cell
      | 2, _ => rw [← show some (Value.int .i64 (cI w b (off + i * 5 + 2))) = some v from hv]; exact s2.cell
      | 3, _ => rw [← show some (Value.int .i64 (cI w b (off + i * 5 + 3))) = some v from hv]; exact s3.cell
      | 4, _ => rw [← show some (Value.int .i64 (cI w b (off + i * 5 + 4))) = some v from hv]; exact s4.cell
end
end Go.Proofs.YtphhepnldndbhaaGreatDoor.Dp
namespace Go.Proofs.YtphhepnldndbhaaGreatDoor
open Go
theorem returnsInHanded_both {H : Type} {enc : TypeId × Value → H} {a : Assume} {C : Checked} {os : Os} {f : FuncId} {fn : Func} {s : ChangeSpec} {conds : List PathCond} {apart fresh handsOn again : Bool} {X : World → Array Value → Prop}
    (hX : ∀ (w w' : World) (args : Array Value), w.heap = w'.heap → X w args → X w' args)
    (own : ownKnob C.prog.godebug = none) (started : os.Started) (noInit : C.prog.inits.idxOf? f = none) (hfn : C.prog.funcs[f]? = some fn)
    (witness : ∃ (w : World) (tape : Tape) (i : Input), w.os = os ∧ (w.forCall tape i).Shaped C.prog ∧ i.vars = [] ∧ Input.okWide C.prog (w.forCall tape i) .any w.heap.size f i ∧
      ((s.pre enc C.prog fn conds apart (w.forCall tape i).memory i.args ∧ X (w.forCall tape i).memory i.args) ∧ sizedMet enc C.prog fn (OpenSpec.ofChange s) apart (w.forCall tape i).memory i.args) ∧ a.holds C.prog (lone (Frame.enter C.prog f i.args .normal) [] (w.forCall tape i)))
    (contract : ∀ (W : World) (base : Nat) (args : Array Value) (ds gs : List (DataW H)) (before : List MemPlace),
      (∀ (j : Nat) t v, fn.params[j]? = some t → args[j]? = some v → Value.okWide C.prog W .any base t v) →
      DataW.Whole enc C.prog fn.params.toList s.vars apart W args.toList ds gs before → X W args → W.ShapedOpen C.prog →
      Calls C.prog f args W fun e W' => ∃ v, e = .returned v ∧ s.post enc C.prog fn apart fresh handsOn again W args v W') :
    ReturnsInHanded a C os f .any (fun w args => (s.pre enc C.prog fn conds apart w args ∧ X w args) ∧ sizedMet enc C.prog fn (OpenSpec.ofChange s) apart w args) (s.post enc C.prog fn apart fresh handsOn again) := by
  refine returnsInHanded_of_calls own started noInit witness ?_
  intro w tape i _ hsh _ hok hpre hholds
  obtain ⟨_, _, _, fn', hfn', _, _, _, _, hval⟩ := hok
  obtain rfl := Option.some.inj (hfn'.symm.trans hfn)
  obtain ⟨⟨⟨ds, gs, before, hw, hc⟩, hx⟩, hz⟩ := hpre
  refine (contract (w.forCall tape i) w.heap.size i.args ds gs before hval (DataW.Whole.of_heap (w' := w.forCall tape i) (by rfl) hw) (hX _ _ _ (by rfl) hx) hsh).mono fun e W' ⟨v, he, hp⟩ => ?_
  subst he
  exact ChangeSpec.post_blind hp
end Go.Proofs.YtphhepnldndbhaaGreatDoor
