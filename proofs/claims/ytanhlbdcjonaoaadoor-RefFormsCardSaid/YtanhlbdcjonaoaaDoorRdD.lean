/- Layer 2: the first sign of a text, by the document's own answer. -/
import Derived.Test.YtanhlbdcjonaoaaDoorRdB
set_option linter.unusedVariables false
set_option linter.unusedSimpArgs false
namespace Go.Proofs.YtanhlbdcjonaoaaDoor
open Go Sx

def signN (l : List UInt8) : Nat :=
  if l = [] then 0 else if (l.getD 0 0).toNat < 128 then 1 else if sizeN (l.getD 0 0).toNat = 0 then 0 else if l.length < sizeN (l.getD 0 0).toNat then 0
  else if (l.getD 1 0).toNat < loN (l.getD 0 0).toNat ∨ hiN (l.getD 0 0).toNat < (l.getD 1 0).toNat then 0 else if sizeN (l.getD 0 0).toNat = 2 then 2
  else if (l.getD 2 0).toNat < 128 ∨ 191 < (l.getD 2 0).toNat then 0 else if sizeN (l.getD 0 0).toNat = 3 then 3
  else if (l.getD 3 0).toNat < 128 ∨ 191 < (l.getD 3 0).toNat then 0 else 4
theorem sizeN_cases (b : Nat) : sizeN b = 0 ∨ sizeN b = 2 ∨ sizeN b = 3 ∨ sizeN b = 4 := by unfold sizeN; split <;> (try split) <;> (try split) <;> (try split) <;> omega
theorem signAns_run (b : Nat) (hb : b < 256) (t : List UInt8) : (signAns b (UInt8.ofNat b :: t)).run pure2 = some (.int .i64 (signN (UInt8.ofNat b :: t) : Int), []) := by
  generalize hl : UInt8.ofNat b :: t = l
  have h0 : (l.getD 0 0).toNat = b := by rw [← hl]; simp; omega
  have hne : l ≠ [] := by rw [← hl]; simp
  have hw : ∀ i, byteAt l i = ((l.getD i 0).toNat : Int) ∧ (l.getD i 0).toNat < 256 := fun i => ⟨rfl, UInt8.toNat_lt _⟩
  have w1 : IntKind.i64.wrap (byteAt l (Int.toNat 1)) = ((l.getD 1 0).toNat : Int) := by
    show IntKind.i64.wrap ((l.getD 1 0).toNat : Int) = _
    exact i64_in (by have := (hw 1).2; omega) (by have := (hw 1).2; omega)
  have w3 : IntKind.i64.wrap (2 + 1) = 3 := by rfl
  unfold signAns signN
  rw [if_neg hne, h0, w1, w3]
  rw [(hw (Int.toNat 2)).1, (hw (Int.toNat 3)).1]
  simp only [show Int.toNat 1 = 1 from rfl, show Int.toNat 2 = 2 from rfl, show Int.toNat 3 = 3 from rfl]
  generalize (l.getD 1 0).toNat = b1
  generalize (l.getD 2 0).toNat = b2
  generalize (l.getD 3 0).toNat = b3
  generalize l.length = n
  by_cases c1 : b < 128
  · rw [if_pos c1, if_pos c1]; rfl
  rw [if_neg c1, if_neg c1]
  have hs := sizeN_cases b
  generalize sizeN b = z at *
  generalize loN b = lo
  generalize hiN b = hi
  by_cases c2 : z = 0
  · rw [if_pos c2, if_pos c2]; rfl
  rw [if_neg c2, if_neg c2]
  simp only [Ans.run, Ans.chk]
  by_cases c3 : n < z
  · rw [if_pos c3, bcT (by simpa using (by omega : (n : Int) < z))]; rfl
  rw [if_neg c3, bcF (by simpa using (by omega : ¬ (n : Int) < z)), bcT (by simp; omega)]
  by_cases c4 : b1 < lo
  · rw [if_pos (c := b1 < lo ∨ hi < b1) (.inl c4), bcT (by simpa using (by omega : (b1 : Int) < lo))]; rfl
  rw [bcF (by simpa using (by omega : ¬ (b1 : Int) < lo)), bcT (by simp; omega)]
  by_cases c5 : hi < b1
  · rw [if_pos (c := b1 < lo ∨ hi < b1) (.inr c5), bcT (by simpa using (by omega : (b1 : Int) > hi))]; rfl
  rw [if_neg (c := b1 < lo ∨ hi < b1) (by omega), bcF (by simpa using (by omega : ¬ (b1 : Int) > hi))]
  by_cases c6 : z = 2
  · rw [if_pos c6, if_pos c6]; rfl
  rw [if_neg c6, if_neg c6]
  simp only [Ans.run, Ans.chk]
  rw [bcT (by simp; omega)]
  by_cases c7 : b2 < 128
  · rw [if_pos (c := b2 < 128 ∨ 191 < b2) (.inl c7), bcT (by simpa using (by omega : (b2 : Int) < 128))]; rfl
  rw [bcF (by simpa using (by omega : ¬ (b2 : Int) < 128)), bcT (by simp; omega)]
  by_cases c8 : 191 < b2
  · rw [if_pos (c := b2 < 128 ∨ 191 < b2) (.inr c8), bcT (by simpa using (by omega : (b2 : Int) > 191))]; rfl
  rw [if_neg (c := b2 < 128 ∨ 191 < b2) (by omega), bcF (by simpa using (by omega : ¬ (b2 : Int) > 191))]
  by_cases c9 : z = 3
  · rw [if_pos c9, if_pos c9]; rfl
  rw [if_neg c9, if_neg c9]
  simp only [Ans.run, Ans.chk]
  rw [bcT (by simp; omega)]
  by_cases c10 : b3 < 128
  · rw [if_pos (c := b3 < 128 ∨ 191 < b3) (.inl c10), bcT (by simpa using (by omega : (b3 : Int) < 128))]; rfl
  rw [bcF (by simpa using (by omega : ¬ (b3 : Int) < 128)), bcT (by simp; omega)]
  by_cases c11 : 191 < b3
  · rw [if_pos (c := b3 < 128 ∨ 191 < b3) (.inr c11), bcT (by simpa using (by omega : (b3 : Int) > 191))]; rfl
  rw [if_neg (c := b3 < 128 ∨ 191 < b3) (by omega), bcF (by simpa using (by omega : ¬ (b3 : Int) > 191))]; rfl

end Go.Proofs.YtanhlbdcjonaoaaDoor
