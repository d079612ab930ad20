/- Layer 2: what a text is, by the program's own test. -/
import Derived.Test.YtanhlbdcjonaoaaDoorRcA
import Derived.Test.YtanhlbdcjonaoaaDoorRbB
import Derived.Test.YtanhlbdcjonaoaaDoorPx1
import Derived.Lib.TrimU
set_option linter.unusedVariables false
set_option linter.unusedSimpArgs false
namespace Go.Proofs.YtanhlbdcjonaoaaDoor
open Go Sx

/-- No sign from p on is below 32, and none is 127. -/
def ctlB (l : List UInt8) : Nat → Nat → Bool
  | 0, _ => true
  | n + 1, p => bcond (decide (p < l.length)) (bcond (decide (((Utf8.decode ⟨l.toArray⟩ p).1 : Int) < 32)) false (bcond (((Utf8.decode ⟨l.toArray⟩ p).1 : Int) == 127) false (ctlB l n (p + (Utf8.decode ⟨l.toArray⟩ p).2)))) true

def st56 (u l : List UInt8) (p : Nat) : PState :=
  ⟨[some (.str u), none, some (.bool false), none, none, none, some (.ptr 0 0), none, none, none, none, none, none, none, none, none, none, none], some (.raw (.iter l p)) :: List.replicate 64 none⟩
def fin56 (u : List UInt8) : PState :=
  ⟨[some (.str u), none, some (.bool false), none, none, none, none, none, none, none, none, none, none, none, none, none, none, none], List.replicate 64 none⟩

theorem round56 (u l : List UInt8) (p : Nat) : code noH Tryd.prog {} 0 64 1 ((loopBodies (bodyOf Tryd.f56)).headD .skip) (st56 u l p) (endK 0 64 (fun n => hasN [0, 2, 6] n) (fun n => hasN [0, 2] n)) =
    bcond (decide (p < l.length)) (bcond (decide (((Utf8.decode ⟨l.toArray⟩ p).1 : Int) < 32)) (some (.ret, fin56 u)) (bcond (((Utf8.decode ⟨l.toArray⟩ p).1 : Int) == 127) (some (.ret, fin56 u)) (some (.normal, st56 u l (p + (Utf8.decode ⟨l.toArray⟩ p).2))))) (some (.exit 0, fin56 u)) := by kernel_rfl

theorem loop56 (u l : List UInt8) : Tri Tryd.prog (.loop ((loopBodies (bodyOf Tryd.f56)).headD .skip)) (st56 u l 0).toA (bcond (ctlB l l.length 0) (.exit 0) .ret) (fin56 u).toA 0 := by
  refine loop_rounds (ι := { q : Nat × Nat // l.length ≤ q.1 + q.2 }) noH_ok (lv := {}) (NF := 64) (m := 1) (fun x hx id e h1 h2 => by cases h2) (fun n => hasN [0, 2, 6] n) (fun n => hasN [0, 2] n) (fun q => st56 u l q.1.1) (fun q => q.1.2) (fun q => (bcond (ctlB l q.1.2 q.1.1) (.exit 0) .ret, fin56 u)) ?_ (fun q => by simp only; cases ctlB l q.1.2 q.1.1 <;> simp [bcond]) ⟨(0, l.length), by simp⟩
  rintro ⟨⟨p, n⟩, hq⟩
  simp only at hq ⊢
  rw [round56]
  cases n with
  | zero => exact .inr (by rw [bcF (by simp; omega)]; rfl)
  | succ n =>
    simp only [ctlB]
    by_cases h1 : p < l.length
    · have e1 : decide (p < l.length) = true := by simpa using h1
      rw [e1]
      cases e2 : decide (((Utf8.decode ⟨l.toArray⟩ p).1 : Int) < 32) with
      | true => exact .inr rfl
      | false =>
        cases e3 : (((Utf8.decode ⟨l.toArray⟩ p).1 : Int) == 127) with
        | true => exact .inr rfl
        | false =>
          have hd : 1 ≤ (Utf8.decode ⟨l.toArray⟩ p).2 := Lib.width_pos _ _
          exact .inl ⟨⟨(p + (Utf8.decode ⟨l.toArray⟩ p).2, n), by simp only; omega⟩, by simp, rfl, rfl⟩
    · have e1 : decide (p < l.length) = false := by simpa using h1
      rw [e1]; exact .inr rfl

def e56 : Nat → PState → LAns := fun K t => match K, t with
  | 0, ⟨[some (.str u), none, some (.bool false), none, none, none, some (.ptr 0 0), none, none, none, none, none, none, none, none, none, none, none], some (.raw (.iter l 0)) :: rest⟩ =>
    .chk (nonesB 64 rest) (.br (ctlB l l.length 0) (.out (.exit 0) (fin56 u)) (.out .ret (fin56 u)))
  | _, _ => .fail
def lv56 : FuncId → Lv := fun f => match f with
  | 56 => { keep := fun _ => some [0, 2, 6], ent := fun i => match i with | 2 => some e56 | _ => none }
  | _ => {}
theorem lv56_ok : LvOK Tryd.prog lv56 := by
  intro f fn body hf hb K x hx id e hid he t
  by_cases h : f = 56
  · subst h
    obtain rfl : fn = Tryd.f56 := (Option.some.inj (Tryd.func56.symm.trans hf)).symm
    have hbody : body = bodyOf Tryd.f56 := by unfold bodyOf; rw [hb]; rfl
    subst hbody
    have h1 : loopBodies (bodyOf Tryd.f56) = [(loopBodies (bodyOf Tryd.f56)).headD .skip] := by kernel_rfl
    rw [h1] at hx
    have hx' := List.mem_singleton.1 hx
    have h2 : id = 2 := by
      have h3 : headReg ((loopBodies (bodyOf Tryd.f56)).headD .skip) = some 2 := by kernel_rfl
      rw [hx', h3] at hid; exact (Option.some.inj hid).symm
    subst h2
    have he' : e56 = e := Option.some.inj he
    subst he'
    rw [hx']
    clear hx hx' hid he hb hf h1
    unfold e56
    split
    · rename_i u l rest
      refine ⟨fun hn => ?_, fun _ => trivial⟩
      rw [nonesB_eq _ _ hn]
      have := loop56 u l
      refine ⟨fun hc => ?_, fun hc => ?_⟩
      · rw [bcT hc] at this; exact this
      · rw [bcF hc] at this; exact this
    · trivial
  · exfalso
    have : (lv56 f).ent id = none := by
      unfold lv56
      split
      · exact absurd rfl h
      · rfl
    rw [this] at he; cases he

def textB (l : List UInt8) : Bool := ctlB l l.length 0 && Lib.validD l
def eIsText : Ent := fun args pre => match args, pre with
  | [.str l], [] => .chk (decide (l.length ≤ 9223372036854775807)) (.ret (.bool (textB l)) [])
  | _, _ => .fail
def tab4 : Tab := (66, eValid) :: tab1
theorem tab4_ok : TabOK Tryd.prog tab4 := .cons valid_ok tab1_ok
theorem isText_ok : EntOK Tryd.prog 56 eIsText := fun args pre => by
  unfold eIsText
  split
  · rename_i l
    have e : Comes tab4 lv56 56 [.str l] [] (.br (ctlB l l.length 0) (.chk (decide (l.length ≤ 9223372036854775807)) (.ret (.bool (Lib.validD l)) [])) (.ret (.bool false) [])) := by unfold Comes; kernel_rfl
    refine of_run (ans_comes tab4_ok e lv56_ok) fun r h => ?_
    obtain ⟨h1, h⟩ := chk_run h
    rw [← h]
    simp only [Ans.run, Ans.chk, h1, textB]
    cases ctlB l l.length 0 with
    | true => rfl
    | false => rfl
  · trivial

end Go.Proofs.YtanhlbdcjonaoaaDoor
