/- Layer 2: letters and digits ahead. -/
import Derived.Test.YtanhlbdcjonaoaaDoorRcA
import Derived.Test.YtanhlbdcjonaoaaDoorRbB
import Derived.Test.YtanhlbdcjonaoaaDoorPx1
import Derived.Lib.TrimU
set_option linter.unusedVariables false
set_option linter.unusedSimpArgs false
namespace Go.Proofs.YtanhlbdcjonaoaaDoor
open Go Sx

def letB (c : Int) : Bool := decide ((65 ≤ c ∧ c ≤ 90) ∨ (97 ≤ c ∧ c ≤ 122))
def digB (c : Int) : Bool := decide (48 ≤ c ∧ c ≤ 57)
def eRune (f : Int → Bool) : Ent := fun args pre => match args, pre with
  | [.int .i32 c], [] => .ret (.bool (f c)) []
  | _, _ => .fail
theorem letter_ok : EntOK Tryd.prog 37 (eRune letB) := fun args pre => by
  unfold eRune
  split
  · rename_i c
    have e : Comes tab0 nolv 37 [.int .i32 c] [] (.br (decide (c ≥ 65)) (.br (decide (c ≤ 90)) (.ret (.bool true) []) (.br (decide (c ≥ 97)) (.ret (.bool (decide (c ≤ 122))) []) (.ret (.bool false) [])))
      (.br (decide (c ≥ 97)) (.ret (.bool (decide (c ≤ 122))) []) (.ret (.bool false) []))) := by unfold Comes; kernel_rfl
    refine of_run (ans_comes tab0_ok e) fun x h => ?_
    rw [← h]
    simp only [Ans.run, letB]
    have key : ∀ b c : Bool, b = c → pure2 (.bool b) [] = pure2 (.bool c) [] := fun b c e => by rw [e]
    have rest : ¬ (65 ≤ c ∧ c ≤ 90) → bcond (decide (c ≥ 97)) (pure2 (.bool (decide (c ≤ 122))) []) (pure2 (.bool false) []) = pure2 (.bool (decide ((65 ≤ c ∧ c ≤ 90) ∨ (97 ≤ c ∧ c ≤ 122)))) [] := fun hn => by
      by_cases h3 : c ≥ 97
      · rw [bcT (b := decide (c ≥ 97)) (decide_eq_true h3)]; exact key _ _ (by rw [decide_eq_decide]; omega)
      · rw [bcF (b := decide (c ≥ 97)) (decide_eq_false h3)]; exact key _ _ (by symm; rw [decide_eq_false_iff_not]; omega)
    by_cases h1 : c ≥ 65
    · rw [bcT (b := decide (c ≥ 65)) (decide_eq_true h1)]
      by_cases h2 : c ≤ 90
      · rw [bcT (b := decide (c ≤ 90)) (decide_eq_true h2)]; exact key _ _ (by symm; rw [decide_eq_true_eq]; omega)
      · rw [bcF (b := decide (c ≤ 90)) (decide_eq_false h2)]; exact rest (by omega)
    · rw [bcF (b := decide (c ≥ 65)) (decide_eq_false h1)]; exact rest (by omega)
  · trivial
theorem digit_ok : EntOK Tryd.prog 39 (eRune digB) := fun args pre => by
  unfold eRune
  split
  · rename_i c
    have e : Comes tab0 nolv 39 [.int .i32 c] [] (.br (decide (c ≥ 48)) (.ret (.bool (decide (c ≤ 57))) []) (.ret (.bool false) [])) := by unfold Comes; kernel_rfl
    refine of_run (ans_comes tab0_ok e) fun x h => ?_
    rw [← h]
    simp only [Ans.run, digB]
    have key : ∀ b c : Bool, b = c → pure2 (.bool b) [] = pure2 (.bool c) [] := fun b c e => by rw [e]
    by_cases h1 : c ≥ 48
    · rw [bcT (b := decide (c ≥ 48)) (decide_eq_true h1)]; exact key _ _ (by rw [decide_eq_decide]; omega)
    · rw [bcF (b := decide (c ≥ 48)) (decide_eq_false h1)]; exact key _ _ (by symm; rw [decide_eq_false_iff_not]; omega)
  · trivial
def tabL : Tab := (37, eRune letB) :: (39, eRune digB) :: tab0
theorem tabL_ok : TabOK Tryd.prog tabL := .cons letter_ok (.cons digit_ok tab0_ok)

/-- Where the first sign is that is not so. -/
def runeAt (l : List UInt8) (p : Nat) : Int := ((Utf8.decode ⟨l.toArray⟩ p).1 : Int)
def scanF (f : Int → Bool) (l : List UInt8) : Nat → Nat → Option Nat
  | 0, _ => none
  | n + 1, p => bcond (decide (p < l.length)) (bcond (f (runeAt l p) == false) (some p) (scanF f l n (p + (Utf8.decode ⟨l.toArray⟩ p).2))) none
def st53 (k : Nat) (l : List UInt8) (p : Nat) : PState :=
  ⟨none :: some (.func k [] []) :: some (.bool false) :: none :: none :: none :: some (.int .i64 0) :: none :: none :: none :: some (.ptr 0 0) :: List.replicate 10 none, some (.raw (.iter l p)) :: List.replicate 64 none⟩
def fin53 (z : Int) : PState := ⟨none :: none :: none :: none :: none :: none :: some (.int .i64 z) :: List.replicate 14 none, List.replicate 64 none⟩
def rnd53 (f : Int → Bool) (k : Nat) (l : List UInt8) (p : Nat) : Option (Ex × PState) :=
  bcond (decide (p < l.length)) (bcond (f (runeAt l p) == false) (some (.ret, fin53 (p : Int))) (some (.normal, st53 k l (p + (Utf8.decode ⟨l.toArray⟩ p).2)))) (some (.exit 0, fin53 0))
theorem round53a (l : List UInt8) (p : Nat) : code (ent Tryd.prog tabL nolv 64 1 1) Tryd.prog {} 0 64 1 ((loopBodies (bodyOf Tryd.f53)).headD .skip) (st53 37 l p) (endK 0 64 (fun n => hasN [1, 2, 6, 10] n) (fun n => hasN [6] n)) = rnd53 letB 37 l p := by kernel_rfl
theorem round53b (l : List UInt8) (p : Nat) : code (ent Tryd.prog tabL nolv 64 1 1) Tryd.prog {} 0 64 1 ((loopBodies (bodyOf Tryd.f53)).headD .skip) (st53 39 l p) (endK 0 64 (fun n => hasN [1, 2, 6, 10] n) (fun n => hasN [6] n)) = rnd53 digB 39 l p := by kernel_rfl
theorem scan_lt {f : Int → Bool} {l : List UInt8} : ∀ (n p q : Nat), scanF f l n p = some q → q < l.length
  | 0, p, q, h => by cases h
  | n + 1, p, q, h => by
    simp only [scanF] at h
    by_cases h1 : p < l.length
    · rw [bcT (b := decide (p < l.length)) (decide_eq_true h1)] at h
      cases h2 : (f (runeAt l p) == false) with
      | true => rw [h2] at h; cases h; exact h1
      | false => rw [h2] at h; exact scan_lt n _ q h
    · rw [bcF (b := decide (p < l.length)) (decide_eq_false h1)] at h; cases h
def res53 (o : Option Nat) : Ex × PState := (bcond o.isNone (.exit 0) .ret, fin53 ((o.getD 0 : Nat) : Int))
theorem loop53 (f : Int → Bool) (k : Nat) (l : List UInt8) (hr : ∀ p, code (ent Tryd.prog tabL nolv 64 1 1) Tryd.prog {} 0 64 1 ((loopBodies (bodyOf Tryd.f53)).headD .skip) (st53 k l p) (endK 0 64 (fun n => hasN [1, 2, 6, 10] n) (fun n => hasN [6] n)) = rnd53 f k l p) :
    Tri Tryd.prog (.loop ((loopBodies (bodyOf Tryd.f53)).headD .skip)) (st53 k l 0).toA (res53 (scanF f l l.length 0)).1 (res53 (scanF f l l.length 0)).2.toA 0 := by
  refine loop_rounds (ι := { q : Nat × Nat // l.length ≤ q.1 + q.2 }) (ent_sound (NF := 64) (m := 1) tabL_ok host nolv_ok 1) (lv := {}) (NF := 64) (m := 1) (fun x hx id e h1 h2 => by cases h2) (fun n => hasN [1, 2, 6, 10] n) (fun n => hasN [6] n) (fun q => st53 k l q.1.1) (fun q => q.1.2) (fun q => res53 (scanF f l q.1.2 q.1.1)) ?_ (fun q => by simp only [res53]; cases (scanF f l q.1.2 q.1.1).isNone <;> simp [bcond]) ⟨(0, l.length), by simp⟩
  rintro ⟨⟨p, n⟩, hq⟩
  simp only at hq ⊢
  rw [hr]
  unfold rnd53
  cases n with
  | zero => exact .inr (by rw [bcF (b := decide (p < l.length)) (decide_eq_false (by omega))]; rfl)
  | succ n =>
    simp only [scanF]
    by_cases h1 : p < l.length
    · rw [bcT (b := decide (p < l.length)) (decide_eq_true h1)]
      rw [bcT (b := decide (p < l.length)) (decide_eq_true h1)]
      cases h2 : (f (runeAt l p) == false) with
      | true => exact .inr rfl
      | false =>
        have hd : 1 ≤ (Utf8.decode ⟨l.toArray⟩ p).2 := Lib.width_pos _ _
        exact .inl ⟨⟨(p + (Utf8.decode ⟨l.toArray⟩ p).2, n), by simp only; omega⟩, by simp, rfl, rfl⟩
    · rw [bcF (b := decide (p < l.length)) (decide_eq_false h1)]
      rw [bcF (b := decide (p < l.length)) (decide_eq_false h1)]
      exact .inr rfl

def nonesV : Nat → List (Option AV) → Bool
  | 0, [] => true
  | n + 1, none :: r => nonesV n r
  | _, _ => false
theorem nonesV_eq : ∀ (n : Nat) (l : List (Option AV)), nonesV n l = true → l = List.replicate n none
  | 0, [], _ => rfl
  | 0, _ :: _, h => by cases h
  | n + 1, [], h => by cases h
  | n + 1, none :: r, h => by rw [List.replicate_succ, ← nonesV_eq n r h]
  | n + 1, some _ :: r, h => by cases h
def ans53 (o : Option Nat) : LAns := .br o.isNone (.out (.exit 0) (fin53 0)) (.out .ret (fin53 ((o.getD 0 : Nat) : Int)))
def e53 : Nat → PState → LAns := fun K t => match K, t with
  | 0, ⟨none :: some (.func 37 [] []) :: some (.bool false) :: none :: none :: none :: some (.int .i64 z) :: none :: none :: none :: some (.ptr 0 0) :: rs, some (.raw (.iter l 0)) :: rm⟩ =>
    .chk (nonesV 10 rs) (.chk (nonesB 64 rm) (.chk (decide (z = 0)) (ans53 (scanF letB l l.length 0))))
  | 0, ⟨none :: some (.func 39 [] []) :: some (.bool false) :: none :: none :: none :: some (.int .i64 z) :: none :: none :: none :: some (.ptr 0 0) :: rs, some (.raw (.iter l 0)) :: rm⟩ =>
    .chk (nonesV 10 rs) (.chk (nonesB 64 rm) (.chk (decide (z = 0)) (ans53 (scanF digB l l.length 0))))
  | _, _ => .fail
def lv53 : FuncId → Lv := fun f => match f with
  | 53 => { keep := fun _ => some [1, 2, 6, 10], ent := fun i => match i with | 2 => some e53 | _ => none }
  | _ => {}
theorem ans53_ok {s : PState} {o : Option Nat} (h : Tri Tryd.prog (.loop ((loopBodies (bodyOf Tryd.f53)).headD .skip)) s.toA (res53 o).1 (res53 o).2.toA 0) : LAnsOK Tryd.prog ((loopBodies (bodyOf Tryd.f53)).headD .skip) 0 s (ans53 o) := by
  unfold ans53
  cases o with
  | none => exact ⟨fun _ => h, fun e => by cases e⟩
  | some q => exact ⟨fun e => (by cases e), fun _ => h⟩
theorem lv53_ok : LvOK Tryd.prog lv53 := by
  intro f fn body hf hb K x hx id e hid he t
  by_cases h : f = 53
  · subst h
    obtain rfl : fn = Tryd.f53 := (Option.some.inj (Tryd.func53.symm.trans hf)).symm
    have hbody : body = bodyOf Tryd.f53 := by unfold bodyOf; rw [hb]; rfl
    subst hbody
    have h1 : loopBodies (bodyOf Tryd.f53) = [(loopBodies (bodyOf Tryd.f53)).headD .skip] := by kernel_rfl
    rw [h1] at hx
    have hx' := List.mem_singleton.1 hx
    have h2 : id = 2 := by
      have h3 : headReg ((loopBodies (bodyOf Tryd.f53)).headD .skip) = some 2 := by kernel_rfl
      rw [hx', h3] at hid; exact (Option.some.inj hid).symm
    subst h2
    have he' : e53 = e := Option.some.inj he
    subst he'
    rw [hx']
    clear hx hx' hid he hb hf h1
    unfold e53
    split
    · rename_i z rs l rm
      refine ⟨fun g1 => ⟨fun g2 => ⟨fun g3 => ?_, fun _ => trivial⟩, fun _ => trivial⟩, fun _ => trivial⟩
      rw [nonesV_eq _ _ g1, nonesB_eq _ _ g2, of_decide_eq_true g3]
      exact ans53_ok (loop53 letB 37 l (round53a l))
    · rename_i z rs l rm
      refine ⟨fun g1 => ⟨fun g2 => ⟨fun g3 => ?_, fun _ => trivial⟩, fun _ => trivial⟩, fun _ => trivial⟩
      rw [nonesV_eq _ _ g1, nonesB_eq _ _ g2, of_decide_eq_true g3]
      exact ans53_ok (loop53 digB 39 l (round53b l))
    · trivial
  · exfalso
    have : (lv53 f).ent id = none := by
      unfold lv53
      split
      · exact absurd rfl h
      · rfl
    rw [this] at he; cases he

/-- What is left behind the signs that are so. -/
def trimF (f : Int → Bool) (l : List UInt8) : List UInt8 := bcond (scanF f l l.length 0).isNone [] (l.drop ((scanF f l l.length 0).getD 0))
def eTrim : Ent := fun args pre => match args, pre with
  | [.str l, .func 37 [] []], [] => .chk (decide (l.length ≤ 9223372036854775807)) (.ret (.str (trimF letB l)) [])
  | [.str l, .func 39 [] []], [] => .chk (decide (l.length ≤ 9223372036854775807)) (.ret (.str (trimF digB l)) [])
  | _, _ => .fail
end Go.Proofs.YtanhlbdcjonaoaaDoor
