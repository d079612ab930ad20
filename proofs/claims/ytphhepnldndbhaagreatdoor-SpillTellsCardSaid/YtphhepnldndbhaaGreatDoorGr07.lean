import Derived.Test.YtphhepnldndbhaaGreatDoorGr06
set_option linter.unusedVariables false
set_option linter.unusedSimpArgs false
set_option linter.unusedSectionVars false
namespace Go.Proofs.YtphhepnldndbhaaGreatDoor
open Go Sx
theorem ak_2 : Comes tAk2 nolv 14 [bkW, .slice 1 0 2 2] [oSh (.vec 2 2) .qzz, o10 0 0 0 3 2 0 2 1 9 9, vC akX] (.chk (ckIn akW akK 0) (.chk (ckIv akW [mkA 0 0 0] akK 1) (.chk (ckIm akW akK 1) (.ret (plV (.vec 3 1) (.vec 4 1)) [oSh (.vec 2 2) .qzz, o10 0 0 0 3 2 0 2 1 9 9, vC akX, vS [mkS 0 2 1 9 9], vA [mkA 0 0 0]])))) := by unfold Comes; kernel_rfl
end Go.Proofs.YtphhepnldndbhaaGreatDoor
namespace Go.Proofs.YtphhepnldndbhaaGreatDoor
open Go Sx
open Classical in
noncomputable def eOne (f : FuncId) (a : List AV) (p : List PObj) (r : AV) (q : List PObj) : Ent := fun args pre => .chk (decide ((args = a ∧ pre = p) ∧ Meets Tryz.prog f a (p.map PObj.toA) r (q.map PObj.toA))) (.ret r q)
open Classical in
theorem eOne_ok {f : FuncId} (a : List AV) (p : List PObj) (r : AV) (q : List PObj) : EntOK Tryz.prog f (eOne f a p r q) := fun args pre => by
  unfold eOne
  refine ⟨fun g => ?_, fun _ => trivial⟩
  obtain ⟨⟨rfl, rfl⟩, h⟩ := of_decide_eq_true g
  exact h
open Classical in
noncomputable def ckOne (f : FuncId) (a : List AV) (p : List PObj) (r : AV) (q : List PObj) : Bool := decide ((a = a ∧ p = p) ∧ Meets Tryz.prog f a (p.map PObj.toA) r (q.map PObj.toA))
abbrev fB : FuncId := 11
abbrev fP : FuncId := 14
abbrev oK : PObj := oSh (.vec 2 2) .qzz
abbrev n4 : AV := .agg [.qzz, .qzz, .qzz, .qzz]
noncomputable def eAkP : Ent := fun args pre => match pre with
  | _ :: .raw (.cells (_ :: _ :: _ :: .int _ h :: _) _) :: _ => cond (h == 9) (eOne fP [bkW, .slice 1 0 2 2] [oK, o10 0 2 1 9 9 0 0 0 2 2, vC akX] (.tuple [.qzz, .qzz, .int .i64 140]) [oK, o10 0 2 1 9 9 0 0 0 2 2, vC akX] args pre)
    (cond (h == 3) (eOne fP [bkW, .slice 1 0 2 2] [oK, o10 0 0 0 3 2 0 2 1 9 9, vC akX] (plV (.vec 3 1) (.vec 4 1)) [oK, o10 0 0 0 3 2 0 2 1 9 9, vC akX, vS [mkS 0 2 1 9 9], vA [mkA 0 0 0]] args pre)
      (eOne fP [bkW, .slice 1 0 2 2] [oK, o10 0 0 0 2 2 0 2 1 9 9, vC akX] (plV (.vec 3 2) .qzz) [oK, o10 0 0 0 2 2 0 2 1 9 9, vC akX, vS [mkS 0 0 0 2 2, mkS 0 2 1 9 9]] args pre))
  | [] => eOne fP [n4, .qzz] [] (.tuple [.qzz, .qzz, .int .i64 96]) [] args pre
  | _ => .fail
theorem eAkP_ok : EntOK Tryz.prog fP eAkP := fun args pre => by
  unfold eAkP
  split
  · rename_i hh _ _ _
    cases hh == 9 with
    | true => exact eOne_ok _ _ _ _ args _
    | false => cases hh == 3 with
      | true => exact eOne_ok _ _ _ _ args _
      | false => exact eOne_ok _ _ _ _ args _
  · exact eOne_ok _ _ _ _ args _
  · trivial
noncomputable def tAkA : Tab := [(fB, eOne fB [.slice 0 0 2 2] [o6] bkV [o6, oK, vC akX]), (fP, eAkP), (18, eCov)]
theorem tAkA_ok : TabOK Tryz.prog tAkA := .cons (eOne_ok _ _ _ _) (.cons eAkP_ok (.cons eCov_ok .nil))
theorem ak_run : Comes tAkA nolv 10 [] [] (.chk (ckOne fB [.slice 0 0 2 2] [o6] bkV [o6, oK, vC akX])
  (.chk (ckOne fP [bkW, .slice 1 0 2 2] [oK, o10 0 0 0 2 2 0 2 1 9 9, vC akX] (plV (.vec 3 2) .qzz) [oK, o10 0 0 0 2 2 0 2 1 9 9, vC akX, vS [mkS 0 0 0 2 2, mkS 0 2 1 9 9]])
  (.chk (ckOne fP [bkW, .slice 1 0 2 2] [oK, o10 0 0 0 3 2 0 2 1 9 9, vC akX] (plV (.vec 3 1) (.vec 4 1)) [oK, o10 0 0 0 3 2 0 2 1 9 9, vC akX, vS [mkS 0 2 1 9 9], vA [mkA 0 0 0]])
  (.chk (ckOne fP [bkW, .slice 1 0 2 2] [oK, o10 0 2 1 9 9 0 0 0 2 2, vC akX] (.tuple [.qzz, .qzz, .int .i64 140]) [oK, o10 0 2 1 9 9 0 0 0 2 2, vC akX])
  (.chk (ckOne fP [n4, .qzz] [] (.tuple [.qzz, .qzz, .int .i64 96]) []) (.ret (.bool true) [])))))) := by unfold Comes; kernel_rfl
end Go.Proofs.YtphhepnldndbhaaGreatDoor
namespace Go.Proofs.YtphhepnldndbhaaGreatDoor
open Go Sx
open Classical in
theorem ckIn_lit {L : List (List CV)} {ks : List (List Int)} {i : Int} (h : (0 ≤ c3 (rwL L i) ∧ c3 (rwL L i) ≤ 1000) ∧ 0 ≤ c4 (rwL L i) ∧ c4 (rwL L i) ≤ 1000) : ckIn L ks i = true ∧ ckIm L ks i = true := by
  unfold ckIn ckIm
  exact ⟨decide_eq_true ⟨⟨rfl, rfl⟩, h⟩, decide_eq_true ⟨⟨rfl, rfl⟩, h⟩⟩
open Classical in
theorem ckIv_lit {L B : List (List CV)} {ks : List (List Int)} {i : Int} (h : (0 ≤ c3 (rwL L i) ∧ c3 (rwL L i) ≤ 1000) ∧ 0 ≤ c4 (rwL L i) ∧ c4 (rwL L i) ≤ 1000) (hB : B.length ≤ 1000) : ckIv L B ks i = true := by
  unfold ckIv
  exact decide_eq_true ⟨⟨rfl, rfl⟩, h.1, h.2, hB⟩
theorem akL0 : (0 ≤ c3 (rwL akL 0) ∧ c3 (rwL akL 0) ≤ 1000) ∧ 0 ≤ c4 (rwL akL 0) ∧ c4 (rwL akL 0) ≤ 1000 := by
  show (0 ≤ (2 : Int) ∧ (2 : Int) ≤ 1000) ∧ 0 ≤ (2 : Int) ∧ (2 : Int) ≤ 1000; omega
theorem akL1 : (0 ≤ c3 (rwL akL 1) ∧ c3 (rwL akL 1) ≤ 1000) ∧ 0 ≤ c4 (rwL akL 1) ∧ c4 (rwL akL 1) ≤ 1000 := by
  show (0 ≤ (9 : Int) ∧ (9 : Int) ≤ 1000) ∧ 0 ≤ (9 : Int) ∧ (9 : Int) ≤ 1000; omega
theorem akW0 : (0 ≤ c3 (rwL akW 0) ∧ c3 (rwL akW 0) ≤ 1000) ∧ 0 ≤ c4 (rwL akW 0) ∧ c4 (rwL akW 0) ≤ 1000 := by
  show (0 ≤ (3 : Int) ∧ (3 : Int) ≤ 1000) ∧ 0 ≤ (2 : Int) ∧ (2 : Int) ≤ 1000; omega
theorem akW1 : (0 ≤ c3 (rwL akW 1) ∧ c3 (rwL akW 1) ≤ 1000) ∧ 0 ≤ c4 (rwL akW 1) ∧ c4 (rwL akW 1) ≤ 1000 := by
  show (0 ≤ (9 : Int) ∧ (9 : Int) ≤ 1000) ∧ 0 ≤ (9 : Int) ∧ (9 : Int) ≤ 1000; omega
open Classical in
theorem ckOne_ok {f : FuncId} {a : List AV} {p : List PObj} {r : AV} {q : List PObj} (h : Meets Tryz.prog f a (p.map PObj.toA) r (q.map PObj.toA)) : ckOne f a p r q = true := by
  unfold ckOne
  exact decide_eq_true ⟨⟨rfl, rfl⟩, h⟩
theorem awake_meets : Meets Tryz.prog 10 [] [] (.bool true) [] := by
  have h1 : ckOne fB [.slice 0 0 2 2] [o6] bkV [o6, oK, vC akX] = true := ckOne_ok (qyx (pre := [o6]) (post := [o6, oK, vC akX]) tAk_ok host ak_b qyz)
  have h2 := ckOne_ok (qyx (f := fP) (pre := [oK, o10 0 0 0 2 2 0 2 1 9 9, vC akX]) (post := [oK, o10 0 0 0 2 2 0 2 1 9 9, vC akX, vS [mkS 0 0 0 2 2, mkS 0 2 1 9 9]]) tAk1_ok host (ak_1.trans (by rw [chkT (ckIn_lit akL0).1, chkT (ckIn_lit akL0).2, chkT (ckIn_lit akL1).1, chkT (ckIn_lit akL1).2]; rfl)) qyz)
  have h3 := ckOne_ok (qyx (f := fP) (pre := [oK, o10 0 0 0 3 2 0 2 1 9 9, vC akX]) (post := [oK, o10 0 0 0 3 2 0 2 1 9 9, vC akX, vS [mkS 0 2 1 9 9], vA [mkA 0 0 0]]) tAk2_ok host (ak_2.trans (by rw [chkT (ckIn_lit akW0).1, chkT (ckIv_lit akW1 (by decide)), chkT (ckIn_lit akW1).2]; rfl)) qyz)
  have h4 := ckOne_ok (qyx (f := fP) (pre := [oK, o10 0 2 1 9 9 0 0 0 2 2, vC akX]) (post := [oK, o10 0 2 1 9 9 0 0 0 2 2, vC akX]) tAk_ok host ak_3 qyz)
  have h5 := ckOne_ok (qyx (f := fP) (pre := []) (post := []) tAk_ok host ak_4 qyz)
  refine qyx (pre := []) (post := []) tAkA_ok host (ak_run.trans ?_) qyz
  rw [chkT h1, chkT h2, chkT h3, chkT h4, chkT h5]; rfl
def eAwk : Ent := fun args pre => match args, pre with
  | [], [] => .ret (.bool true) []
  | _, _ => .fail
theorem eAwk_ok : EntOK Tryz.prog 10 eAwk := fun args pre => by
  unfold eAwk
  split
  · exact awake_meets
  · trivial
end Go.Proofs.YtphhepnldndbhaaGreatDoor
namespace Go.Proofs.YtphhepnldndbhaaGreatDoor
open Go Sx
end Go.Proofs.YtphhepnldndbhaaGreatDoor
namespace Go.Proofs.YtphhepnldndbhaaGreatDoor
open Go Sx
section
variable (R Z P B : List (List CV)) (a z : Nat) (s r c : Int)
end
end Go.Proofs.YtphhepnldndbhaaGreatDoor
namespace Go.Proofs.YtphhepnldndbhaaGreatDoor
open Go Sx
end Go.Proofs.YtphhepnldndbhaaGreatDoor
namespace Go.Proofs.YtphhepnldndbhaaGreatDoor
open Go Sx
section
variable (R Z P : List (List CV)) (n : Nat) (i m s r c u0 u1 u2 u3 u4 : Int) (b : Bool)
end
section
variable (R Z P : List (List CV)) (n : Nat) (i m s r c u0 u1 u2 u3 u4 : Int) (b : Bool)
end
end Go.Proofs.YtphhepnldndbhaaGreatDoor
namespace Go.Proofs.YtphhepnldndbhaaGreatDoor
open Go Sx
section
variable {R Z P : List (List CV)} {s r c u0 u1 u2 u3 u4 : Int} {b : Bool}
end
end Go.Proofs.YtphhepnldndbhaaGreatDoor
namespace Go.Proofs.YtphhepnldndbhaaGreatDoor
open Go Sx
def Fits (y : List CV) : Prop := (0 ≤ c0 y ∧ c0 y < 2) ∧ (0 ≤ c1 y ∧ c1 y + c3 y ≤ 200) ∧ (0 ≤ c2 y ∧ c2 y + c4 y ≤ 52) ∧ (1 ≤ c3 y ∧ c3 y ≤ 5) ∧ 1 ≤ c4 y ∧ c4 y ≤ 5
def Within (y : List CV) (s r c : Int) : Prop := c0 y = s ∧ (c1 y ≤ r ∧ r < c1 y + c3 y) ∧ c2 y ≤ c ∧ c < c2 y + c4 y
theorem qxy {a : Int} (h1 : -1000000 ≤ a) (h2 : a ≤ 1000000) : w64 a = a := w64_of (inI_iff.2 ⟨by omega, by omega⟩)
section
variable {R Z : List (List CV)} {a z : Nat}
end
end Go.Proofs.YtphhepnldndbhaaGreatDoor
