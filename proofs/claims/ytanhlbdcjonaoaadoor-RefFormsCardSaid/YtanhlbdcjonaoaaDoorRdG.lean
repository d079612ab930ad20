/- Layer 2: what is a text by the document's own answer is one by the program. -/
import Derived.Test.YtanhlbdcjonaoaaDoorRdF
import Derived.Test.YtanhlbdcjonaoaaDoorRdB
import Derived.Lib.ValidLaws
import Derived.Lib.TrimUEq
import Derived.Laws.RangeAny
import Derived.Laws.RangeString
set_option linter.unusedVariables false
set_option linter.unusedSimpArgs false
namespace Go.Proofs.YtanhlbdcjonaoaaDoor
open Go Sx

theorem tab_same : ((List.range 256).all fun b => (sizeN b == 0) || (Lib.firstT b % 8 == sizeN b && Lib.accLo (Lib.firstT b / 16) == loN b && Lib.accHi (Lib.firstT b / 16) == hiN b)) = true := by kernel_rfl
theorem check_sign (L : List UInt8) (h0 : 128 ≤ (L.getD 0 0).toNat) (hk : signN L ≠ 0) :
    Lib.checkN L.length (L.getD 1 0).toNat (L.getD 2 0).toNat (L.getD 3 0).toNat (Lib.firstT (L.getD 0 0).toNat % 8) (Lib.accLo (Lib.firstT (L.getD 0 0).toNat / 16)) (Lib.accHi (Lib.firstT (L.getD 0 0).toNat / 16)) = some (signN L) := by
  have hz := sizeN_cases (L.getD 0 0).toNat
  have hne : L ≠ [] := fun e => hk (by unfold signN; rw [if_pos e])
  have ht := List.all_eq_true.1 tab_same (L.getD 0 0).toNat (List.mem_range.2 (UInt8.toNat_lt _))
  unfold signN at hk ⊢
  rw [if_neg hne, if_neg (by omega)] at hk ⊢
  generalize (L.getD 0 0).toNat = b at *
  generalize (L.getD 1 0).toNat = b1 at *
  generalize (L.getD 2 0).toNat = b2 at *
  generalize (L.getD 3 0).toNat = b3 at *
  generalize L.length = n at *
  have hz0 : sizeN b ≠ 0 := fun e => hk (by rw [if_pos e])
  simp only [Bool.or_eq_true, beq_iff_eq, Bool.and_eq_true] at ht
  rcases ht with ht | ⟨⟨e1, e2⟩, e3⟩
  · exact absurd ht hz0
  rw [e1, e2, e3]
  generalize sizeN b = z at *
  generalize loN b = lo at *
  generalize hiN b = hi at *
  unfold Lib.checkN
  rcases hz with rfl | rfl | rfl | rfl
  · exact absurd rfl hz0
  all_goals
    simp only [Nat.reduceEqDiff, if_false, if_true] at hk ⊢
    repeat' split at hk
    all_goals first | exact absurd rfl hk | skip
    all_goals (repeat' split)
    all_goals first | rfl | (exfalso; omega)
theorem sign_width (L : List UInt8) (h0 : 128 ≤ (L.getD 0 0).toNat) (hk : signN L ≠ 0) : (Lib.decodeL L).2 = signN L := by
  have hne : L ≠ [] := fun e => hk (by unfold signN; rw [if_pos e])
  have hc := check_sign L h0 hk
  rw [Lib.decodeL_N]
  rcases Lib.check_decode L.length (L.getD 0 0).toNat (L.getD 1 0).toNat (L.getD 2 0).toNat (L.getD 3 0).toNat (List.length_pos_iff.2 hne) h0 (UInt8.toNat_lt _) (UInt8.toNat_lt _) (UInt8.toNat_lt _) (UInt8.toNat_lt _) with ⟨h1, _⟩ | ⟨k, _, h1, h2⟩
  · rw [hc] at h1; cases h1
  · rw [hc] at h1; cases h1; exact h2

theorem text_of (l : List UInt8) : ∀ (n p : Nat), l.length ≤ p + n → txtB l n p = true → ctlB l n p = true ∧ Lib.validD (l.drop p) = true
  | 0, p, hn, _ => ⟨rfl, by rw [List.drop_of_length_le (by omega)]; rfl⟩
  | n + 1, p, hn, h => by
    simp only [txtB, ctlB] at h ⊢
    by_cases hp : p < l.length
    · rw [bcT (b := decide (p < l.length)) (decide_eq_true hp)] at h ⊢
      have hnz : signN (l.drop p) ≠ 0 := fun e => by rw [bcT (b := (signN (l.drop p) == 0)) (beq_iff_eq.2 e)] at h; cases h
      rw [bcF (b := (signN (l.drop p) == 0)) (beq_eq_false_iff_ne.2 hnz)] at h
      have h32 : ¬ (l.getD p 0).toNat < 32 := fun e => by rw [bcT (b := decide ((l.getD p 0).toNat < 32)) (decide_eq_true e)] at h; cases h
      rw [bcF (b := decide ((l.getD p 0).toNat < 32)) (decide_eq_false h32)] at h
      have h127 : (l.getD p 0).toNat ≠ 127 := fun e => by rw [bcT (b := ((l.getD p 0).toNat == 127)) (beq_iff_eq.2 e)] at h; cases h
      rw [bcF (b := ((l.getD p 0).toNat == 127)) (beq_eq_false_iff_ne.2 h127)] at h
      have hL0 : ((l.drop p).getD 0 0).toNat = (l.getD p 0).toNat := by simp [List.getD_eq_getElem?_getD]
      have hdl : Lib.decodeL (l.drop p) = Utf8.decode ⟨l.toArray⟩ p := Lib.decodeL_drop ⟨l.toArray⟩ p
      have hLne : l.drop p ≠ [] := by simp; omega
      have hwr : (Utf8.decode ⟨l.toArray⟩ p).2 = signN (l.drop p) ∧ 32 ≤ (Utf8.decode ⟨l.toArray⟩ p).1 ∧ (Utf8.decode ⟨l.toArray⟩ p).1 ≠ 127 ∧ ¬ ((Utf8.decode ⟨l.toArray⟩ p).1 = 65533 ∧ (Utf8.decode ⟨l.toArray⟩ p).2 = 1) := by
        have hsz : p < (⟨l.toArray⟩ : ByteArray).size := by simpa [ByteArray.size] using hp
        have hby : ((⟨l.toArray⟩ : ByteArray)[p]'hsz).toNat = (l.getD p 0).toNat := by
          show (l.toArray[p]'(by simpa using hp)).toNat = _
          simp [List.getD_eq_getElem?_getD, List.getElem?_eq_getElem hp]
        by_cases hlt : (l.getD p 0).toNat < 128
        · rw [decode_ascii ⟨l.toArray⟩ p hsz (by rw [hby]; exact hlt), hby]
          refine ⟨?_, by simp only; omega, h127, by simp only; omega⟩
          unfold signN
          rw [if_neg hLne, if_pos (by rw [hL0]; exact hlt)]
        · have hw := sign_width (l.drop p) (by rw [hL0]; omega) hnz
          rw [hdl] at hw
          have hh := (decode_high ⟨l.toArray⟩ p hsz (by rw [hby]; omega)).1
          refine ⟨hw, by omega, by omega, fun ⟨_, e⟩ => ?_⟩
          have hz : signN (l.drop p) = 1 := by rw [← hw]; exact e
          unfold signN at hz
          rw [if_neg hLne, if_neg (by rw [hL0]; exact hlt)] at hz
          repeat' split at hz
          all_goals omega
      obtain ⟨hw, h1, h2, h3⟩ := hwr
      rw [bcF (b := decide (((Utf8.decode ⟨l.toArray⟩ p).1 : Int) < 32)) (decide_eq_false (by omega)), bcF (b := (((Utf8.decode ⟨l.toArray⟩ p).1 : Int) == 127)) (beq_eq_false_iff_ne.2 (by omega)), hw]
      have ih := text_of l n (p + signN (l.drop p)) (by omega) h
      refine ⟨ih.1, ?_⟩
      rw [Lib.validD_step _ hLne, hdl, if_neg h3, hw, List.drop_drop]
      exact ih.2
    · rw [bcF (b := decide (p < l.length)) (decide_eq_false hp)]
      exact ⟨rfl, by rw [List.drop_of_length_le (by omega)]; rfl⟩

/-- A name that is right by the document's own answer is right by the program. -/
theorem name_sheet {l : List UInt8} (h : nameB l = true) : sheetB l = true := by
  simp only [nameB, Bool.and_eq_true, decide_eq_true_eq] at h
  obtain ⟨⟨h1, h2⟩, h3⟩ := h
  obtain ⟨k1, k2⟩ := text_of l l.length 0 (by omega) h1
  have hne : l ≠ [] := List.length_pos_iff.1 h2
  simp [sheetB, textB, k1, h3, hne]
  simpa using k2

end Go.Proofs.YtanhlbdcjonaoaaDoor
