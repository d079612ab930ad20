/- Layer 2: what a text is, by the document's own answer. -/
import Derived.Test.YtanhlbdcjonaoaaDoorRdE
import Derived.Test.YtanhlbdcjonaoaaDoorPx1
set_option linter.unusedVariables false
set_option linter.unusedSimpArgs false
namespace Go.Proofs.YtanhlbdcjonaoaaDoor
open Go Sx

theorem signN_le (l : List UInt8) : signN l ≤ l.length := by
  unfold signN
  have hs := sizeN_cases (l.getD 0 0).toNat
  generalize sizeN (l.getD 0 0).toNat = z at *
  by_cases h : l = []
  · rw [if_pos h]; omega
  · have : 1 ≤ l.length := List.length_pos_iff.2 h
    rw [if_neg h]
    repeat' split
    all_goals omega
def txtB (l : List UInt8) : Nat → Nat → Bool
  | 0, _ => true
  | n + 1, p => bcond (decide (p < l.length)) (bcond (signN (l.drop p) == 0) false (bcond (decide ((l.getD p 0).toNat < 32)) false (bcond ((l.getD p 0).toNat == 127) false (txtB l n (p + signN (l.drop p)))))) true

def st58 (l : List UInt8) (i : Int) : PState := ⟨some (.str l) :: none :: some (.bool false) :: some (.int .i64 i) :: List.replicate 26 none, List.replicate 64 none⟩
def fin58 (l : List UInt8) : PState := ⟨some (.str l) :: none :: some (.bool false) :: none :: List.replicate 26 none, List.replicate 64 none⟩

theorem round58 (l : List UInt8) (p : Nat) : code (ent Tryd.prog tab6 nolv 64 1 1) Tryd.prog {} 0 64 1 ((loopBodies (bodyOf Tryd.f58)).headD .skip) (st58 l p) (endK 0 64 (fun n => hasN [0, 2, 3] n) (fun n => hasN [0, 2] n)) =
    bcond (decide ((p : Int) < (l.length : Int))) (bcond (decide (0 ≤ (p : Int) ∧ (p : Int).toNat ≤ l.length)) (bcond ((signN (List.take (l.length - (p : Int).toNat) (List.drop (p : Int).toNat l)) : Int) == 0) (some (.ret, fin58 l))
      (bcond (decide (0 ≤ (p : Int) ∧ (p : Int).toNat < l.length)) (bcond (decide (((l.getD (p : Int).toNat 0).toNat : Int) < 32)) (some (.ret, fin58 l)) (bcond (decide (0 ≤ (p : Int) ∧ (p : Int).toNat < l.length)) (bcond (((l.getD (p : Int).toNat 0).toNat : Int) == 127) (some (.ret, fin58 l))
        (some (.normal, st58 l (IntKind.i64.wrap ((p : Int) + (signN (List.take (l.length - (p : Int).toNat) (List.drop (p : Int).toNat l)) : Int)))))) none)) none)) none) (some (.exit 0, fin58 l)) := by kernel_rfl

theorem loop58 (l : List UInt8) (hl : l.length ≤ 9223372036854775807) : Tri Tryd.prog (.loop ((loopBodies (bodyOf Tryd.f58)).headD .skip)) (st58 l 0).toA (bcond (txtB l l.length 0) (.exit 0) .ret) (fin58 l).toA 0 := by
  refine loop_rounds (ι := { q : Nat × Nat // l.length ≤ q.1 + q.2 }) (ent_sound (NF := 64) (m := 1) tab6_ok host nolv_ok 1) (lv := {}) (NF := 64) (m := 1) (fun x hx id e h1 h2 => by cases h2) (fun n => hasN [0, 2, 3] n) (fun n => hasN [0, 2] n) (fun q => st58 l (q.1.1 : Int)) (fun q => q.1.2) (fun q => (bcond (txtB l q.1.2 q.1.1) (.exit 0) .ret, fin58 l)) ?_ (fun q => by simp only; cases txtB l q.1.2 q.1.1 <;> simp [bcond]) ⟨(0, l.length), by simp⟩
  rintro ⟨⟨p, n⟩, hq⟩
  simp only at hq ⊢
  rw [round58]
  simp only [Int.toNat_natCast]
  have ht : List.take (l.length - p) (List.drop p l) = List.drop p l := List.take_of_length_le (by simp)
  rw [ht]
  have hk := signN_le (l.drop p)
  rw [List.length_drop] at hk
  cases n with
  | zero => exact .inr (by rw [bcF (by simp; omega)]; rfl)
  | succ n =>
    simp only [txtB]
    by_cases h1 : p < l.length
    · rw [bcT (b := decide ((p : Int) < (l.length : Int))) (by simpa using h1), bcT (b := decide (p < l.length)) (by simpa using h1), bcT (b := decide (0 ≤ (p : Int) ∧ p ≤ l.length)) (by simp; omega)]
      by_cases h2 : signN (l.drop p) = 0
      · exact .inr (by rw [bcT (b := ((signN (l.drop p) : Int) == 0)) (by simpa using h2), bcT (b := (signN (l.drop p) == 0)) (by simpa using h2)]; rfl)
      · rw [bcF (b := ((signN (l.drop p) : Int) == 0)) (by simpa using h2), bcF (b := (signN (l.drop p) == 0)) (by simpa using h2)]
        rw [bcT (b := decide (0 ≤ (p : Int) ∧ p < l.length)) (by simpa using h1)]
        by_cases h3 : (l.getD p 0).toNat < 32
        · exact .inr (by rw [bcT (b := decide (((l.getD p 0).toNat : Int) < 32)) (decide_eq_true (by omega)), bcT (b := decide ((l.getD p 0).toNat < 32)) (decide_eq_true h3)]; rfl)
        · rw [bcF (b := decide (((l.getD p 0).toNat : Int) < 32)) (decide_eq_false (by omega)), bcF (b := decide ((l.getD p 0).toNat < 32)) (decide_eq_false h3), bcT (b := decide (0 ≤ (p : Int) ∧ p < l.length)) (by simpa using h1)]
          by_cases h4 : (l.getD p 0).toNat = 127
          · exact .inr (by rw [bcT (b := (((l.getD p 0).toNat : Int) == 127)) (beq_iff_eq.2 (by omega)), bcT (b := ((l.getD p 0).toNat == 127)) (beq_iff_eq.2 h4)]; rfl)
          · rw [bcF (b := (((l.getD p 0).toNat : Int) == 127)) (beq_eq_false_iff_ne.2 (by omega)), bcF (b := ((l.getD p 0).toNat == 127)) (beq_eq_false_iff_ne.2 h4)]
            refine .inl ⟨⟨(p + signN (l.drop p), n), by simp only; omega⟩, by simp, rfl, ?_⟩
            rw [i64_in (by omega) (by omega)]
            simp
    · exact .inr (by rw [bcF (b := decide ((p : Int) < (l.length : Int))) (by simpa using h1), bcF (b := decide (p < l.length)) (by simpa using h1)]; rfl)

def nonesW : Nat → List (Option AV) → Bool
  | 0, [] => true
  | n + 1, none :: r => nonesW n r
  | _, _ => false
theorem nonesW_eq : ∀ (n : Nat) (l : List (Option AV)), nonesW n l = true → l = List.replicate n none
  | 0, [], _ => rfl
  | 0, _ :: _, h => by cases h
  | n + 1, [], h => by cases h
  | n + 1, none :: r, h => by rw [List.replicate_succ, ← nonesW_eq n r h]
  | n + 1, some _ :: r, h => by cases h
def e58 : Nat → PState → LAns := fun K t => match K, t with
  | 0, ⟨some (.str l) :: none :: some (.bool false) :: some (.int .i64 i) :: rs, rm⟩ =>
    .chk (nonesW 26 rs) (.chk (nonesB 64 rm) (.chk (decide (i = 0)) (.chk (decide (l.length ≤ 9223372036854775807)) (.br (txtB l l.length 0) (.out (.exit 0) (fin58 l)) (.out .ret (fin58 l))))))
  | _, _ => .fail
def lv58 : FuncId → Lv := fun f => match f with
  | 58 => { keep := fun _ => some [0, 2, 3], ent := fun i => match i with | 2 => some e58 | _ => none }
  | _ => {}
theorem lv58_ok : LvOK Tryd.prog lv58 := by
  intro f fn body hf hb K x hx id e hid he t
  by_cases h : f = 58
  · subst h
    obtain rfl : fn = Tryd.f58 := (Option.some.inj (Tryd.func58.symm.trans hf)).symm
    have hbody : body = bodyOf Tryd.f58 := by unfold bodyOf; rw [hb]; rfl
    subst hbody
    have h1 : loopBodies (bodyOf Tryd.f58) = [(loopBodies (bodyOf Tryd.f58)).headD .skip] := by kernel_rfl
    rw [h1] at hx
    have hx' := List.mem_singleton.1 hx
    have h2 : id = 2 := by
      have h3 : headReg ((loopBodies (bodyOf Tryd.f58)).headD .skip) = some 2 := by kernel_rfl
      rw [hx', h3] at hid; exact (Option.some.inj hid).symm
    subst h2
    have he' : e58 = e := Option.some.inj he
    subst he'
    rw [hx']
    clear hx hx' hid he hb hf h1
    unfold e58
    split
    · rename_i l i rs rm
      refine ⟨fun g1 => ⟨fun g2 => ⟨fun g3 => ⟨fun g4 => ?_, fun _ => trivial⟩, fun _ => trivial⟩, fun _ => trivial⟩, fun _ => trivial⟩
      rw [nonesW_eq _ _ g1, nonesB_eq _ _ g2, of_decide_eq_true g3]
      have := loop58 l (of_decide_eq_true g4)
      refine ⟨fun hc => ?_, fun hc => ?_⟩
      · rw [bcT hc] at this; exact this
      · rw [bcF hc] at this; exact this
    · trivial
  · exfalso
    have : (lv58 f).ent id = none := by
      unfold lv58
      split
      · exact absurd rfl h
      · rfl
    rw [this] at he; cases he

def eIsText2 : Ent := fun args pre => match args, pre with
  | [.str l], [] => .chk (decide (l.length ≤ 9223372036854775807)) (.ret (.bool (txtB l l.length 0)) [])
  | _, _ => .fail
theorem isText2_ok : EntOK Tryd.prog 58 eIsText2 := fun args pre => by
  unfold eIsText2
  split
  · rename_i l
    have e : Comes tab6 lv58 58 [.str l] [] (.chk (decide (l.length ≤ 9223372036854775807)) (.br (txtB l l.length 0) (.ret (.bool true) []) (.ret (.bool false) []))) := by unfold Comes; kernel_rfl
    refine of_run (ans_comes tab6_ok e lv58_ok) fun r h => ?_
    obtain ⟨h1, h⟩ := chk_run h
    rw [← h]
    simp only [Ans.run, Ans.chk, h1]
    cases txtB l l.length 0 with
    | true => rfl
    | false => rfl
  · trivial
def tab7 : Tab := (58, eIsText2) :: tab6
theorem tab7_ok : TabOK Tryd.prog tab7 := .cons isText2_ok tab6_ok
/-- May a text be a sheet's name, by the document's own answer? -/
def nameB (l : List UInt8) : Bool := txtB l l.length 0 && decide (0 < l.length) && decide (l.length ≤ 30)
def eIsSheet2 : Ent := fun args pre => match args, pre with
  | [.str l], [] => .chk (decide (l.length ≤ 9223372036854775807)) (.ret (.bool (nameB l)) [])
  | _, _ => .fail
theorem isSheet2_ok : EntOK Tryd.prog 45 eIsSheet2 := fun args pre => by
  unfold eIsSheet2
  split
  · rename_i l
    have e : Comes tab7 nolv 45 [.str l] [] (.chk (decide (l.length ≤ 9223372036854775807)) (.br (txtB l l.length 0) (.br (decide ((l.length : Int) > 0)) (.ret (.bool (decide ((l.length : Int) ≤ 30))) []) (.ret (.bool false) [])) (.ret (.bool false) []))) := by unfold Comes; kernel_rfl
    refine of_run (ans_comes tab7_ok e) fun r h => ?_
    obtain ⟨h1, h⟩ := chk_run h
    rw [← h]
    simp only [Ans.run, Ans.chk, h1, nameB]
    cases txtB l l.length 0 with
    | false => rfl
    | true =>
      by_cases c : 0 < l.length
      · rw [bcT rfl, bcT rfl, bcT (b := decide ((l.length : Int) > 0)) (decide_eq_true (by omega)), decide_eq_true c]
        have : decide ((l.length : Int) ≤ 30) = decide (l.length ≤ 30) := by rw [decide_eq_decide]; omega
        rw [this]; rfl
      · rw [bcT rfl, bcT rfl, bcF (b := decide ((l.length : Int) > 0)) (decide_eq_false (by omega)), decide_eq_false c]; rfl
  · trivial
def tab8 : Tab := (45, eIsSheet2) :: tab7
theorem tab8_ok : TabOK Tryd.prog tab8 := .cons isSheet2_ok tab7_ok

end Go.Proofs.YtanhlbdcjonaoaaDoor
