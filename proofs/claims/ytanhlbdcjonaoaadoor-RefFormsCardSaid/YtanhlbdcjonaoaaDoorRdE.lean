/- Layer 2: the first sign of a text, as an entry. -/
import Derived.Test.YtanhlbdcjonaoaaDoorRdC
import Derived.Test.YtanhlbdcjonaoaaDoorRdD
set_option linter.unusedVariables false
set_option linter.unusedSimpArgs false
namespace Go.Proofs.YtanhlbdcjonaoaaDoor
open Go Sx

def eSign : Ent := fun args pre => match args, pre with
  | [.str l], [] => .ret (.int .i64 (signN l : Int)) []
  | _, _ => .fail
theorem sign_ok : EntOK Tryd.prog 44 eSign := fun args pre => by
  unfold eSign
  split
  · rename_i l
    cases l with
    | nil =>
      have e : Comes tab1 nolv 44 [.str []] [] (.ret (.int .i64 0) []) := by unfold Comes; kernel_rfl
      exact ans_comes tab1_ok e
    | cons b t =>
      have hb : b.toNat < 256 := UInt8.toNat_lt _
      have h1 := sign_run t b.toNat hb
      rw [signAns_run _ hb] at h1
      have h2 : UInt8.ofNat b.toNat = b := UInt8.ofNat_toNat
      rw [h2] at h1
      exact meets_ent tab1_ok host h1
  · trivial
def tab6 : Tab := (44, eSign) :: tab1
theorem tab6_ok : TabOK Tryd.prog tab6 := .cons sign_ok tab1_ok

end Go.Proofs.YtanhlbdcjonaoaaDoor
