/- Law 3: values are in one order (ValOrder): the law's run, a list of two raw values or more. -/
import Derived.Test.YtdomenmfkbfakaaGreatDoorGr10
set_option linter.unusedVariables false
set_option linter.unusedSimpArgs false
namespace Go.Proofs.YtdomenmfkbfakaaGreatDoor
open Go Sx
section
variable (f : FV) (C : CmpF) (k m e : Int) (s : List UInt8) (b : Bool) (k' m' e' : Int) (s' : List UInt8) (b' : Bool) (k2 m2 e2 : Int) (s2 : List UInt8) (b2 : Bool) (n : Nat) (R : List (List CV))
abbrev VoC2 (h0 h1 h2 : Bool) : Prop := Comes (tVo f C) nolv 6 [rawA k m e s b, rawA k' m' e' s' b', rawA k2 m2 e2 s2 b2, .dsl 0 (n + 2), .agg [.bool h0, .bool h1, .bool h2]] [fW R]
  (vlC k m e s (vlC k' m' e' s' (vlC k2 m2 e2 s2 (voT C (n + 2) R h0 h1 h2 (f k m e s b) (f k' m' e' s' b') (f k2 m2 e2 s2 b2)))))
theorem vo_2_0 : VoC2 f C k m e s b k' m' e' s' b' k2 m2 e2 s2 b2 n R false false false := by unfold VoC2 Comes; kernel_rfl
theorem vo_2_1 : VoC2 f C k m e s b k' m' e' s' b' k2 m2 e2 s2 b2 n R false false true := by unfold VoC2 Comes; kernel_rfl
theorem vo_2_2 : VoC2 f C k m e s b k' m' e' s' b' k2 m2 e2 s2 b2 n R false true false := by unfold VoC2 Comes; kernel_rfl
theorem vo_2_3 : VoC2 f C k m e s b k' m' e' s' b' k2 m2 e2 s2 b2 n R false true true := by unfold VoC2 Comes; kernel_rfl
theorem vo_2_4 : VoC2 f C k m e s b k' m' e' s' b' k2 m2 e2 s2 b2 n R true false false := by unfold VoC2 Comes; kernel_rfl
theorem vo_2_5 : VoC2 f C k m e s b k' m' e' s' b' k2 m2 e2 s2 b2 n R true false true := by unfold VoC2 Comes; kernel_rfl
theorem vo_2_6 : VoC2 f C k m e s b k' m' e' s' b' k2 m2 e2 s2 b2 n R true true false := by unfold VoC2 Comes; kernel_rfl
theorem vo_2_7 : VoC2 f C k m e s b k' m' e' s' b' k2 m2 e2 s2 b2 n R true true true := by unfold VoC2 Comes; kernel_rfl
theorem vo_comes2 (h0 h1 h2 : Bool) : VoC2 f C k m e s b k' m' e' s' b' k2 m2 e2 s2 b2 n R h0 h1 h2 := by
  cases h0 <;> cases h1 <;> cases h2
  · exact vo_2_0 ..
  · exact vo_2_1 ..
  · exact vo_2_2 ..
  · exact vo_2_3 ..
  · exact vo_2_4 ..
  · exact vo_2_5 ..
  · exact vo_2_6 ..
  · exact vo_2_7 ..
end
end Go.Proofs.YtdomenmfkbfakaaGreatDoor
