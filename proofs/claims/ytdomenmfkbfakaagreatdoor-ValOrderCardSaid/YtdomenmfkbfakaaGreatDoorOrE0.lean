/- Law 3: values are in one order (ValOrder): the law's run, a list of no raw value. -/
import Derived.Test.YtdomenmfkbfakaaGreatDoorGr10
set_option linter.unusedVariables false
set_option linter.unusedSimpArgs false
namespace Go.Proofs.YtdomenmfkbfakaaGreatDoor
open Go Sx
section
variable (f : FV) (C : CmpF) (k m e : Int) (s : List UInt8) (b : Bool) (k' m' e' : Int) (s' : List UInt8) (b' : Bool) (k2 m2 e2 : Int) (s2 : List UInt8) (b2 : Bool) (n : Nat) (R : List (List CV))
abbrev VoC0 (h0 h1 h2 : Bool) : Prop := Comes (tVo f C) nolv 6 [rawA k m e s b, rawA k' m' e' s' b', rawA k2 m2 e2 s2 b2, .dsl 0 0, .agg [.bool h0, .bool h1, .bool h2]] [fW R]
  (vlC k m e s (vlC k' m' e' s' (vlC k2 m2 e2 s2 (voT C 0 R h0 h1 h2 (f k m e s b) (f k' m' e' s' b') (f k2 m2 e2 s2 b2)))))
theorem vo_0_0 : VoC0 f C k m e s b k' m' e' s' b' k2 m2 e2 s2 b2 R false false false := by unfold VoC0 Comes; kernel_rfl
theorem vo_0_1 : VoC0 f C k m e s b k' m' e' s' b' k2 m2 e2 s2 b2 R false false true := by unfold VoC0 Comes; kernel_rfl
theorem vo_0_2 : VoC0 f C k m e s b k' m' e' s' b' k2 m2 e2 s2 b2 R false true false := by unfold VoC0 Comes; kernel_rfl
theorem vo_0_3 : VoC0 f C k m e s b k' m' e' s' b' k2 m2 e2 s2 b2 R false true true := by unfold VoC0 Comes; kernel_rfl
theorem vo_0_4 : VoC0 f C k m e s b k' m' e' s' b' k2 m2 e2 s2 b2 R true false false := by unfold VoC0 Comes; kernel_rfl
theorem vo_0_5 : VoC0 f C k m e s b k' m' e' s' b' k2 m2 e2 s2 b2 R true false true := by unfold VoC0 Comes; kernel_rfl
theorem vo_0_6 : VoC0 f C k m e s b k' m' e' s' b' k2 m2 e2 s2 b2 R true true false := by unfold VoC0 Comes; kernel_rfl
theorem vo_0_7 : VoC0 f C k m e s b k' m' e' s' b' k2 m2 e2 s2 b2 R true true true := by unfold VoC0 Comes; kernel_rfl
theorem vo_comes0 (h0 h1 h2 : Bool) : VoC0 f C k m e s b k' m' e' s' b' k2 m2 e2 s2 b2 R h0 h1 h2 := by
  cases h0 <;> cases h1 <;> cases h2
  · exact vo_0_0 ..
  · exact vo_0_1 ..
  · exact vo_0_2 ..
  · exact vo_0_3 ..
  · exact vo_0_4 ..
  · exact vo_0_5 ..
  · exact vo_0_6 ..
  · exact vo_0_7 ..
end
end Go.Proofs.YtdomenmfkbfakaaGreatDoor
