/- Layer 2: RefName makes right names. -/
import Derived.Test.YtanhlbdcjonaoaaDoorRdG
set_option linter.unusedVariables false
set_option linter.unusedSimpArgs false
namespace Go.Proofs.YtanhlbdcjonaoaaDoor
open Go Sx

def sgI (l : List UInt8) (p : Nat) : Int := ((signN (List.take (l.length - (p : Int).toNat) (List.drop (p : Int).toNat l)) : Nat) : Int)
def nxI (l : List UInt8) (p : Nat) : Int := IntKind.i64.wrap ((p : Int) + (if 1 > sgI l p then 1 else sgI l p))
def pcI (l : List UInt8) (p : Nat) : List UInt8 := List.take ((nxI l p).toNat - (p : Int).toNat) (List.drop (p : Int).toNat l)
def st25 (u l o : List UInt8) (i : Int) : PState := ⟨some (.str l) :: none :: some (.str u) :: some (.str o) :: some (.int .i64 i) :: List.replicate 35 none, List.replicate 64 none⟩
def fin25 (u l o : List UInt8) : PState := ⟨some (.str l) :: none :: some (.str u) :: some (.str o) :: none :: List.replicate 35 none, List.replicate 64 none⟩

theorem round25 (u l o : List UInt8) (p : Nat) : code (ent Tryd.prog tab8 nolv 64 1 1) Tryd.prog {} 0 64 1 ((loopBodies (bodyOf Tryd.f25)).headD .skip) (st25 u l o p) (endK 0 64 (fun n => hasN [0, 2, 3, 4] n) (fun n => hasN [0, 2, 3] n)) =
    bcond (decide ((p : Int) < (l.length : Int))) (bcond (decide ((o.length : Int) < 20)) (bcond (decide (0 ≤ (p : Int) ∧ (p : Int).toNat ≤ l.length)) (bcond (decide (0 ≤ (p : Int) ∧ 0 ≤ nxI l p ∧ (p : Int).toNat ≤ (nxI l p).toNat ∧ (nxI l p).toNat ≤ l.length))
      (bcond (decide (o.length + (pcI l p).length ≤ 9223372036854775807)) (bcond (decide ((o ++ pcI l p).length ≤ 9223372036854775807)) (bcond (nameB (o ++ pcI l p)) (some (.normal, st25 u l (o ++ pcI l p) (nxI l p))) (some (.normal, st25 u l o (nxI l p)))) none) none) none) none) (some (.exit 0, fin25 u l o))) (some (.exit 0, fin25 u l o)) := by kernel_rfl

theorem signN_four (l : List UInt8) : signN l ≤ 4 := by
  unfold signN
  repeat' split
  all_goals omega
def nmB (l : List UInt8) : Nat → Nat → List UInt8 → List UInt8
  | 0, _, o => o
  | n + 1, p, o => bcond (decide (p < l.length)) (bcond (decide (o.length < 20)) (bcond (nameB (o ++ pcI l p)) (nmB l n (nxI l p).toNat (o ++ pcI l p)) (nmB l n (nxI l p).toNat o)) o) o
theorem nx_facts (l : List UInt8) (p : Nat) (hl : l.length ≤ 9223372036854775807) (hp : p < l.length) : ∃ k : Nat, nxI l p = ((p + k : Nat) : Int) ∧ 1 ≤ k ∧ k ≤ 4 ∧ p + k ≤ l.length ∧ (pcI l p).length ≤ 4 := by
  have ht : List.take (l.length - (p : Int).toNat) (List.drop (p : Int).toNat l) = List.drop p l := by
    rw [Int.toNat_natCast]; exact List.take_of_length_le (by simp)
  have hk := signN_le (l.drop p)
  have h4 := signN_four (l.drop p)
  rw [List.length_drop] at hk
  have hs : sgI l p = ((signN (l.drop p) : Nat) : Int) := by unfold sgI; rw [ht]
  have key : ∃ k : Nat, nxI l p = ((p + k : Nat) : Int) ∧ 1 ≤ k ∧ k ≤ 4 ∧ p + k ≤ l.length := by
    unfold nxI
    rw [hs]
    generalize signN (l.drop p) = s at *
    by_cases c : (1 : Int) > (s : Int)
    · rw [if_pos c, i64_in (by omega) (by omega)]
      exact ⟨1, by omega, by omega, by omega, by omega⟩
    · rw [if_neg c, i64_in (by omega) (by omega)]
      exact ⟨s, by omega, by omega, by omega, by omega⟩
  obtain ⟨k, h1, h2, h3, h5⟩ := key
  refine ⟨k, h1, h2, h3, h5, ?_⟩
  unfold pcI
  rw [h1, List.length_take]
  omega

theorem loop25 (u l o : List UInt8) (hl : l.length ≤ 9223372036854775807) : Tri Tryd.prog (.loop ((loopBodies (bodyOf Tryd.f25)).headD .skip)) (st25 u l o 0).toA (.exit 0) (fin25 u l (nmB l l.length 0 o)).toA 0 := by
  refine loop_rounds (ι := { q : Nat × Nat × List UInt8 // l.length ≤ q.1 + q.2.1 }) (ent_sound (NF := 64) (m := 1) tab8_ok host nolv_ok 1) (lv := {}) (NF := 64) (m := 1) (fun x hx id e h1 h2 => by cases h2) (fun n => hasN [0, 2, 3, 4] n) (fun n => hasN [0, 2, 3] n) (fun q => st25 u l q.1.2.2 (q.1.1 : Int)) (fun q => q.1.2.1) (fun q => (.exit 0, fin25 u l (nmB l q.1.2.1 q.1.1 q.1.2.2))) ?_ (fun q => by simp) ⟨(0, l.length, o), by simp⟩
  rintro ⟨⟨p, n, o⟩, hq⟩
  simp only at hq ⊢
  rw [round25]
  cases n with
  | zero => exact .inr (by rw [bcF (b := decide ((p : Int) < (l.length : Int))) (decide_eq_false (by omega))]; rfl)
  | succ n =>
    simp only [nmB]
    by_cases h1 : p < l.length
    · rw [bcT (b := decide ((p : Int) < (l.length : Int))) (decide_eq_true (by omega)), bcT (b := decide (p < l.length)) (decide_eq_true h1)]
      by_cases h2 : o.length < 20
      · rw [bcT (b := decide ((o.length : Int) < 20)) (decide_eq_true (by omega)), bcT (b := decide (o.length < 20)) (decide_eq_true h2)]
        obtain ⟨k, e1, e2, e3, e4, e5⟩ := nx_facts l p hl h1
        rw [bcT (b := decide (0 ≤ (p : Int) ∧ (p : Int).toNat ≤ l.length)) (decide_eq_true (by omega)), bcT (b := decide (0 ≤ (p : Int) ∧ 0 ≤ nxI l p ∧ (p : Int).toNat ≤ (nxI l p).toNat ∧ (nxI l p).toNat ≤ l.length)) (decide_eq_true (by rw [e1]; omega)),
          bcT (b := decide (o.length + (pcI l p).length ≤ 9223372036854775807)) (decide_eq_true (by omega)), bcT (b := decide ((o ++ pcI l p).length ≤ 9223372036854775807)) (decide_eq_true (by rw [List.length_append]; omega))]
        rw [e1, Int.toNat_natCast]
        cases nameB (o ++ pcI l p) with
        | true => exact .inl ⟨⟨(p + k, n, o ++ pcI l p), by simp only; omega⟩, by simp, rfl, rfl⟩
        | false => exact .inl ⟨⟨(p + k, n, o), by simp only; omega⟩, by simp, rfl, rfl⟩
      · exact .inr (by rw [bcF (b := decide ((o.length : Int) < 20)) (decide_eq_false (by omega)), bcF (b := decide (o.length < 20)) (decide_eq_false h2)])
    · exact .inr (by rw [bcF (b := decide ((p : Int) < (l.length : Int))) (decide_eq_false (by omega)), bcF (b := decide (p < l.length)) (decide_eq_false h1)])

def e25 : Nat → PState → LAns := fun K t => match K, t with
  | 0, ⟨some (.str l) :: none :: some (.str u) :: some (.str o) :: some (.int .i64 i) :: rs, rm⟩ =>
    .chk (nonesW 35 rs) (.chk (nonesB 64 rm) (.chk (decide (i = 0)) (.chk (decide (l.length ≤ 9223372036854775807)) (.out (.exit 0) (fin25 u l (nmB l l.length 0 o))))))
  | _, _ => .fail
def lv25 : FuncId → Lv := fun f => match f with
  | 25 => { keep := fun _ => some [0, 2, 3, 4], ent := fun i => match i with | 3 => some e25 | _ => none }
  | _ => {}
theorem lv25_ok : LvOK Tryd.prog lv25 := by
  intro f fn body hf hb K x hx id e hid he t
  by_cases h : f = 25
  · subst h
    obtain rfl : fn = Tryd.f25 := (Option.some.inj (Tryd.func25.symm.trans hf)).symm
    have hbody : body = bodyOf Tryd.f25 := by unfold bodyOf; rw [hb]; rfl
    subst hbody
    have h1 : loopBodies (bodyOf Tryd.f25) = [(loopBodies (bodyOf Tryd.f25)).headD .skip] := by kernel_rfl
    rw [h1] at hx
    have hx' := List.mem_singleton.1 hx
    have h2 : id = 3 := by
      have h3 : headReg ((loopBodies (bodyOf Tryd.f25)).headD .skip) = some 3 := by kernel_rfl
      rw [hx', h3] at hid; exact (Option.some.inj hid).symm
    subst h2
    have he' : e25 = e := Option.some.inj he
    subst he'
    rw [hx']
    clear hx hx' hid he hb hf h1
    unfold e25
    split
    · rename_i l u o i rs rm
      refine ⟨fun g1 => ⟨fun g2 => ⟨fun g3 => ⟨fun g4 => ?_, fun _ => trivial⟩, fun _ => trivial⟩, fun _ => trivial⟩, fun _ => trivial⟩
      rw [nonesW_eq _ _ g1, nonesB_eq _ _ g2, of_decide_eq_true g3]
      exact loop25 u l o (of_decide_eq_true g4)
    · trivial
  · exfalso
    have : (lv25 f).ent id = none := by
      unfold lv25
      split
      · exact absurd rfl h
      · rfl
    rw [this] at he; cases he

def nameS (l : List UInt8) : List UInt8 := bcond (nmB l l.length 0 [] == []) [83] (nmB l l.length 0 [])
theorem nmB_ok (l : List UInt8) : ∀ (n p : Nat) (o : List UInt8), (o = [] ∨ nameB o = true) → (nmB l n p o = [] ∨ nameB (nmB l n p o) = true)
  | 0, p, o, h => h
  | n + 1, p, o, h => by
    simp only [nmB]
    cases decide (p < l.length) with
    | false => exact h
    | true =>
      cases decide (o.length < 20) with
      | false => exact h
      | true =>
        cases c : nameB (o ++ pcI l p) with
        | true => exact nmB_ok l n _ _ (.inr c)
        | false => exact nmB_ok l n _ _ h
theorem nameS_ok (l : List UInt8) : nameB (nameS l) = true := by
  unfold nameS
  by_cases h : nmB l l.length 0 [] = []
  · rw [bcT (beq_iff_eq.2 h)]; decide
  · rw [bcF (beq_eq_false_iff_ne.2 h)]
    rcases nmB_ok l l.length 0 [] (.inl rfl) with h1 | h1
    · exact absurd h1 h
    · exact h1
def eRefName : Ent := fun args pre => match args, pre with
  | [.str l], [] => .chk (decide (l.length ≤ 9223372036854775807)) (.ret (.str (nameS l)) [])
  | _, _ => .fail
theorem refName_ok : EntOK Tryd.prog 25 eRefName := fun args pre => by
  unfold eRefName
  split
  · rename_i l
    have e : Comes tab8 lv25 25 [.str l] [] (.chk (decide (l.length ≤ 9223372036854775807)) (.br (nmB l l.length 0 [] == []) (.ret (.str [83]) []) (.ret (.str (nmB l l.length 0 [])) []))) := by unfold Comes; kernel_rfl
    refine of_run (ans_comes tab8_ok e lv25_ok) fun r h => ?_
    obtain ⟨h1, h⟩ := chk_run h
    rw [← h]
    simp only [Ans.run, Ans.chk, h1, nameS]
    cases (nmB l l.length 0 [] == []) with
    | true => rfl
    | false => rfl
  · trivial

end Go.Proofs.YtanhlbdcjonaoaaDoor
