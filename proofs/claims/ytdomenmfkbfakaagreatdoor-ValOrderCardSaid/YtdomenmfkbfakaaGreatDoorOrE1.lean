/- Law 3: values are in one order (ValOrder): the law's run, a list of one raw value. -/
import Derived.Test.YtdomenmfkbfakaaGreatDoorGr10
set_option linter.unusedVariables false
set_option linter.unusedSimpArgs false
namespace Go.Proofs.YtdomenmfkbfakaaGreatDoor
open Go Sx
section
variable (f : FV) (C : CmpF) (k m e : Int) (s : List UInt8) (b : Bool) (k' m' e' : Int) (s' : List UInt8) (b' : Bool) (k2 m2 e2 : Int) (s2 : List UInt8) (b2 : Bool) (n : Nat) (R : List (List CV))
abbrev VoC1 (h0 h1 h2 : Bool) : Prop := Comes (tVo f C) nolv 6 [rawA k m e s b, rawA k' m' e' s' b', rawA k2 m2 e2 s2 b2, .dsl 0 1, .agg [.bool h0, .bool h1, .bool h2]] [fW R]
  (vlC k m e s (vlC k' m' e' s' (vlC k2 m2 e2 s2 (voT C 1 R h0 h1 h2 (f k m e s b) (f k' m' e' s' b') (f k2 m2 e2 s2 b2)))))
theorem vo_1_0 : VoC1 f C k m e s b k' m' e' s' b' k2 m2 e2 s2 b2 R false false false := by unfold VoC1 Comes; kernel_rfl
theorem vo_1_1 : VoC1 f C k m e s b k' m' e' s' b' k2 m2 e2 s2 b2 R false false true := by unfold VoC1 Comes; kernel_rfl
theorem vo_1_2 : VoC1 f C k m e s b k' m' e' s' b' k2 m2 e2 s2 b2 R false true false := by unfold VoC1 Comes; kernel_rfl
theorem vo_1_3 : VoC1 f C k m e s b k' m' e' s' b' k2 m2 e2 s2 b2 R false true true := by unfold VoC1 Comes; kernel_rfl
theorem vo_1_4 : VoC1 f C k m e s b k' m' e' s' b' k2 m2 e2 s2 b2 R true false false := by unfold VoC1 Comes; kernel_rfl
theorem vo_1_5 : VoC1 f C k m e s b k' m' e' s' b' k2 m2 e2 s2 b2 R true false true := by unfold VoC1 Comes; kernel_rfl
theorem vo_1_6 : VoC1 f C k m e s b k' m' e' s' b' k2 m2 e2 s2 b2 R true true false := by unfold VoC1 Comes; kernel_rfl
theorem vo_1_7 : VoC1 f C k m e s b k' m' e' s' b' k2 m2 e2 s2 b2 R true true true := by unfold VoC1 Comes; kernel_rfl
theorem vo_comes1 (h0 h1 h2 : Bool) : VoC1 f C k m e s b k' m' e' s' b' k2 m2 e2 s2 b2 R h0 h1 h2 := by
  cases h0 <;> cases h1 <;> cases h2
  · exact vo_1_0 ..
  · exact vo_1_1 ..
  · exact vo_1_2 ..
  · exact vo_1_3 ..
  · exact vo_1_4 ..
  · exact vo_1_5 ..
  · exact vo_1_6 ..
  · exact vo_1_7 ..
end
end Go.Proofs.YtdomenmfkbfakaaGreatDoor
