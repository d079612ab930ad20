/- Layer 2, the document's own answers: what is told of two areas and a place. -/
import Derived.Test.YtanhlbdcjonaoaaGreatDoorGr15
set_option linter.unusedVariables false
set_option linter.unusedSimpArgs false
namespace Go.Proofs.YtanhlbdcjonaoaaGreatDoor
open Go Sx

def entMt (A : Ar → Ar → Ar) (B : Ar → Ar → Bool) : Ent := fun args pre => match args, pre with
  | [.agg [.int .i64 a0, .int .i64 a1, .int .i64 a2, .int .i64 a3, .int .i64 a4], .agg [.int .i64 b0, .int .i64 b1, .int .i64 b2, .int .i64 b3, .int .i64 b4]], [] =>
    .chk (Ar.inB ⟨a0, a1, a2, a3, a4⟩ && Ar.inB ⟨b0, b1, b2, b3, b4⟩) (.ret (.tuple [(A ⟨a0, a1, a2, a3, a4⟩ ⟨b0, b1, b2, b3, b4⟩).v, .bool (B ⟨a0, a1, a2, a3, a4⟩ ⟨b0, b1, b2, b3, b4⟩)]) [])
  | _, _ => .fail
def entHs (H : Ar → Int → Int → Int → Bool) : Ent := fun args pre => match args, pre with
  | [.agg [.int .i64 a0, .int .i64 a1, .int .i64 a2, .int .i64 a3, .int .i64 a4], .agg [.int .i64 b0, .int .i64 b1, .int .i64 b2]], [] =>
    .chk (Ar.inB ⟨a0, a1, a2, a3, a4⟩) (.ret (.bool (H ⟨a0, a1, a2, a3, a4⟩ b0 b1 b2)) [])
  | _, _ => .fail
theorem ent_mt : entMt meetA meetB = eMeet := by funext args pre; unfold entMt eMeet; rfl
theorem ent_hs : entHs hasB = eHas := by funext args pre; unfold entHs eHas; rfl
def tabAs2 (A : Ar → Ar → Ar) (B : Ar → Ar → Bool) (H : Ar → Int → Int → Int → Bool) : Tab := (51, entMt A B) :: (52, entHs H) :: (25, entMt A B) :: (26, entHs H) :: tab0
theorem tabAs2_ok : TabOK Tryz.prog (tabAs2 meetA meetB hasB) := .cons (ent_mt ▸ meetD_ok) (.cons (ent_hs ▸ hasD_ok) (.cons (ent_mt ▸ meet_ok) (.cons (ent_hs ▸ has_ok) tab0_ok)))
def sameA (x y : Ar) : Bool := x.s == y.s && (x.r == y.r && (x.c == y.c && (x.h == y.h && (x.w == y.w && true))))
theorem sameA_self (x : Ar) : sameA x x = true := by unfold sameA; simp
theorem areas_comes (A : Ar → Ar → Ar) (B : Ar → Ar → Bool) (H : Ar → Int → Int → Int → Bool) (a0 a1 a2 a3 a4 b0 b1 b2 b3 b4 p0 p1 p2 : Int) : Comes (tabAs2 A B H) nolv 22 [.agg [.int .i64 a0, .int .i64 a1, .int .i64 a2, .int .i64 a3, .int .i64 a4], .agg [.int .i64 b0, .int .i64 b1, .int .i64 b2, .int .i64 b3, .int .i64 b4], .agg [.int .i64 p0, .int .i64 p1, .int .i64 p2]] []
  (.chk (Ar.inB ⟨a0, a1, a2, a3, a4⟩ && Ar.inB ⟨b0, b1, b2, b3, b4⟩) (.chk (Ar.inB ⟨a0, a1, a2, a3, a4⟩ && Ar.inB ⟨b0, b1, b2, b3, b4⟩) (.br (sameA (A ⟨a0, a1, a2, a3, a4⟩ ⟨b0, b1, b2, b3, b4⟩) (A ⟨a0, a1, a2, a3, a4⟩ ⟨b0, b1, b2, b3, b4⟩))
    (.br (B ⟨a0, a1, a2, a3, a4⟩ ⟨b0, b1, b2, b3, b4⟩ == B ⟨a0, a1, a2, a3, a4⟩ ⟨b0, b1, b2, b3, b4⟩) (.chk (Ar.inB ⟨a0, a1, a2, a3, a4⟩) (.chk (Ar.inB ⟨a0, a1, a2, a3, a4⟩) (.ret (.bool (H ⟨a0, a1, a2, a3, a4⟩ p0 p1 p2 == H ⟨a0, a1, a2, a3, a4⟩ p0 p1 p2)) []))) noB) noB))) := by unfold Comes; kernel_rfl
theorem areas_ok : EntOK Tryz.prog 22 eAreas := fun args pre => by
  unfold eAreas
  split
  · rename_i a0 a1 a2 a3 a4 b0 b1 b2 b3 b4 p0 p1 p2
    refine of_run (ans_comes tabAs2_ok (areas_comes meetA meetB hasB a0 a1 a2 a3 a4 b0 b1 b2 b3 b4 p0 p1 p2)) fun x h => ?_
    obtain ⟨h1, h⟩ := chk_run h
    have h2 := (Bool.and_eq_true_iff.1 h1).1
    rw [← h]
    simp only [Ans.run, Ans.chk]
    rw [bcT h1, bcT h1, bcT (sameA_self _), bcT (beq_self_eq_true _), bcT h2, bcT h2, beq_self_eq_true]
  · trivial
/-! ### References as texts -/
/-- ref.Text of any reference at all. -/
def okI (x : Rf) : Bool := true
def entTxt (W : Rf → List UInt8) (w : Rf → Int) : Ent := fun args pre => match args, pre with
  | [.agg [.str s, .int .i64 r, .int .i64 c, .bool a, .bool b, .bool d]], [] => .chk (decide (s.length ≤ 9223372036854775807)) (.ret (.tuple [.str (W ⟨s, r, c, a, b, d⟩), .int .i64 (w ⟨s, r, c, a, b, d⟩)]) [])
  | _, _ => .fail
theorem right_len {x : Rf} (h : rightB x = true) : x.s.length ≤ 30 := by
  unfold rightB at h
  cases hd : x.d with
  | true =>
    rw [bcT hd] at h
    simp only [Bool.and_eq_true, beq_iff_eq] at h
    rw [h.1]; simp
  | false =>
    rw [bcF hd, Bool.and_eq_true] at h
    cases hs : x.s with
    | nil => simp
    | cons c t =>
      have h := h.1
      rw [hs, show (!((c :: t : List UInt8) == [])) = true from rfl, bcT rfl] at h
      unfold sheetB at h
      simp only [Bool.and_eq_true, decide_eq_true_eq] at h
      exact h.1.2
theorem textA_ok : EntOK Tryz.prog 15 (entTxt txV txE) := fun args pre => by
  unfold entTxt
  split
  · rename_i s r c a b d
    cases hr : rightB ⟨s, r, c, a, b, d⟩ with
    | true =>
      have h := text_ok [.agg [.str s, .int .i64 r, .int .i64 c, .bool a, .bool b, .bool d]] []
      have hl := right_len hr
      simp only at hl
      refine of_run h fun x hx => ?_
      obtain ⟨h1, hx⟩ := chk_run hx
      rw [← hx]
      unfold eText
      simp only [Ans.run, Ans.chk]
      rw [bcT (decide_eq_true (by omega))]; rfl
    | false =>
      refine of_run (ans_comes tabT_ok (txtT_comes wriS s r c a b d)) fun x hx => ?_
      obtain ⟨h1, hx⟩ := chk_run hx
      rw [← hx]
      unfold txtT txV txE
      simp only [Ans.run]
      rw [hr]; rfl
  · trivial
end Go.Proofs.YtanhlbdcjonaoaaGreatDoor
