/- Layer 2: plain names. -/
import Derived.Test.YtanhlbdcjonaoaaGreatDoorGr07
set_option linter.unusedVariables false
set_option linter.unusedSimpArgs false
namespace Go.Proofs.YtanhlbdcjonaoaaGreatDoor
open Go Sx

theorem trim_run (f : Int → Bool) (l : List UInt8) (r : AV × List PObj) (h : (Ans.chk (decide (l.length ≤ 9223372036854775807)) (.ret (.str (trimF f l)) [])).run pure2 = some r) :
    (Ans.br (scanF f l l.length 0).isNone (.ret (.str []) []) (.br (decide (0 ≤ (((scanF f l l.length 0).getD 0 : Nat) : Int) ∧ (((scanF f l l.length 0).getD 0 : Nat) : Int).toNat ≤ l.length)) (.ret (.str (List.take (l.length - (((scanF f l l.length 0).getD 0 : Nat) : Int).toNat) (List.drop (((scanF f l l.length 0).getD 0 : Nat) : Int).toNat l))) []) .fail)).run pure2 = some r := by
  obtain ⟨_, h⟩ := chk_run h
  rw [← h]
  simp only [Ans.run, trimF]
  cases hs : scanF f l l.length 0 with
  | none => rfl
  | some q =>
    have hq := scan_lt _ _ _ hs
    simp only [Option.isNone_some, Option.getD_some, bcond]
    rw [decide_eq_true (show 0 ≤ (q : Int) ∧ (q : Int).toNat ≤ l.length by omega), Int.toNat_natCast, List.take_of_length_le (by simp)]
theorem trim_ok : EntOK Tryz.prog 34 eTrim := fun args pre => by
  unfold eTrim
  split
  · rename_i l
    have e : Comes tabL lv53 34 [.str l, .func 35 [] []] [] (.br (scanF letB l l.length 0).isNone (.ret (.str []) []) (.br (decide (0 ≤ (((scanF letB l l.length 0).getD 0 : Nat) : Int) ∧ (((scanF letB l l.length 0).getD 0 : Nat) : Int).toNat ≤ l.length)) (.ret (.str (List.take (l.length - (((scanF letB l l.length 0).getD 0 : Nat) : Int).toNat) (List.drop (((scanF letB l l.length 0).getD 0 : Nat) : Int).toNat l))) []) .fail)) := by unfold Comes; kernel_rfl
    exact of_run (ans_comes tabL_ok e lv53_ok) fun r h => trim_run letB l r h
  · rename_i l
    have e : Comes tabL lv53 34 [.str l, .func 37 [] []] [] (.br (scanF digB l l.length 0).isNone (.ret (.str []) []) (.br (decide (0 ≤ (((scanF digB l l.length 0).getD 0 : Nat) : Int) ∧ (((scanF digB l l.length 0).getD 0 : Nat) : Int).toNat ≤ l.length)) (.ret (.str (List.take (l.length - (((scanF digB l l.length 0).getD 0 : Nat) : Int).toNat) (List.drop (((scanF digB l l.length 0).getD 0 : Nat) : Int).toNat l))) []) .fail)) := by unfold Comes; kernel_rfl
    exact of_run (ans_comes tabL_ok e lv53_ok) fun r h => trim_run digB l r h
  · trivial

/-- Is each sign one of a plain name? -/
def plainAt (l : List UInt8) (p : Nat) : Bool := bcond (letB (runeAt l p)) true (bcond (runeAt l p == 95) true (bcond (digB (runeAt l p)) (decide ((p : Int) > 0)) false))
def plainF (l : List UInt8) : Nat → Nat → Bool
  | 0, _ => true
  | n + 1, p => bcond (decide (p < l.length)) (bcond (plainAt l p) (plainF l n (p + (Utf8.decode ⟨l.toArray⟩ p).2)) false) true
def st47 (l : List UInt8) (p : Nat) : PState :=
  ⟨none :: none :: some (.bool false) :: none :: none :: none :: some (.ptr 0 0) :: List.replicate 16 none, some (.raw (.iter l p)) :: List.replicate 64 none⟩
def fin47 : PState := ⟨none :: none :: some (.bool false) :: List.replicate 20 none, List.replicate 64 none⟩
theorem round47 (l : List UInt8) (p : Nat) : code (ent Tryz.prog tabL nolv 64 1 1) Tryz.prog {} 0 64 1 ((loopBodies (bodyOf Tryz.f58)).headD .skip) (st47 l p) (endK 0 64 (fun n => hasN [2, 6] n) (fun n => hasN [2] n)) =
    bcond (decide (p < l.length)) (bcond (letB (runeAt l p)) (some (.normal, st47 l (p + (Utf8.decode ⟨l.toArray⟩ p).2))) (bcond (runeAt l p == 95) (some (.normal, st47 l (p + (Utf8.decode ⟨l.toArray⟩ p).2)))
      (bcond (digB (runeAt l p)) (bcond (decide ((p : Int) > 0)) (some (.normal, st47 l (p + (Utf8.decode ⟨l.toArray⟩ p).2))) (some (.ret, fin47))) (some (.ret, fin47))))) (some (.exit 0, fin47)) := by kernel_rfl
theorem loop47 (l : List UInt8) : Tri Tryz.prog (.loop ((loopBodies (bodyOf Tryz.f58)).headD .skip)) (st47 l 0).toA (bcond (plainF l l.length 0) (.exit 0) .ret) fin47.toA 0 := by
  refine loop_rounds (ι := { q : Nat × Nat // l.length ≤ q.1 + q.2 }) (ent_sound (NF := 64) (m := 1) tabL_ok host nolv_ok 1) (lv := {}) (NF := 64) (m := 1) (fun x hx id e h1 h2 => by cases h2) (fun n => hasN [2, 6] n) (fun n => hasN [2] n) (fun q => st47 l q.1.1) (fun q => q.1.2) (fun q => (bcond (plainF l q.1.2 q.1.1) (.exit 0) .ret, fin47)) ?_ (fun q => by simp only; cases plainF l q.1.2 q.1.1 <;> simp [bcond]) ⟨(0, l.length), by simp⟩
  rintro ⟨⟨p, n⟩, hq⟩
  simp only at hq ⊢
  rw [round47]
  have split : ∀ (x y : Option (Ex × PState)), bcond (letB (runeAt l p)) x (bcond (runeAt l p == 95) x (bcond (digB (runeAt l p)) (bcond (decide ((p : Int) > 0)) x y) y)) = bcond (plainAt l p) x y := fun x y => by
    unfold plainAt
    cases letB (runeAt l p) <;> cases (runeAt l p == 95) <;> cases digB (runeAt l p) <;> rfl
  rw [split]
  cases n with
  | zero => exact .inr (by rw [bcF (b := decide (p < l.length)) (decide_eq_false (by omega))]; rfl)
  | succ n =>
    simp only [plainF]
    by_cases h1 : p < l.length
    · rw [bcT (b := decide (p < l.length)) (decide_eq_true h1)]
      rw [bcT (b := decide (p < l.length)) (decide_eq_true h1)]
      cases h2 : plainAt l p with
      | false => exact .inr rfl
      | true =>
        have hd : 1 ≤ (Utf8.decode ⟨l.toArray⟩ p).2 := Lib.width_pos _ _
        exact .inl ⟨⟨(p + (Utf8.decode ⟨l.toArray⟩ p).2, n), by simp only; omega⟩, by simp, rfl, rfl⟩
    · rw [bcF (b := decide (p < l.length)) (decide_eq_false h1)]
      rw [bcF (b := decide (p < l.length)) (decide_eq_false h1)]
      exact .inr rfl
def e47 : Nat → PState → LAns := fun K t => match K, t with
  | 0, ⟨none :: none :: some (.bool false) :: none :: none :: none :: some (.ptr 0 0) :: rs, some (.raw (.iter l 0)) :: rm⟩ =>
    .chk (nonesV 16 rs) (.chk (nonesB 64 rm) (.br (plainF l l.length 0) (.out (.exit 0) fin47) (.out .ret fin47)))
  | _, _ => .fail
def lv47 : FuncId → Lv := fun f => match f with
  | 58 => { keep := fun _ => some [2, 6], ent := fun i => match i with | 2 => some e47 | _ => none }
  | _ => {}
theorem lv47_ok : LvOK Tryz.prog lv47 := by
  intro f fn body hf hb K x hx id e hid he t
  by_cases h : f = 58
  · subst h
    obtain rfl : fn = Tryz.f58 := (Option.some.inj (Tryz.func58.symm.trans hf)).symm
    have hbody : body = bodyOf Tryz.f58 := by unfold bodyOf; rw [hb]; rfl
    subst hbody
    have h1 : loopBodies (bodyOf Tryz.f58) = [(loopBodies (bodyOf Tryz.f58)).headD .skip] := by kernel_rfl
    rw [h1] at hx
    have hx' := List.mem_singleton.1 hx
    have h2 : id = 2 := by
      have h3 : headReg ((loopBodies (bodyOf Tryz.f58)).headD .skip) = some 2 := by kernel_rfl
      rw [hx', h3] at hid; exact (Option.some.inj hid).symm
    subst h2
    have he' : e47 = e := Option.some.inj he
    subst he'
    rw [hx']
    clear hx hx' hid he hb hf h1
    unfold e47
    split
    · rename_i rs l rm
      refine ⟨fun g1 => ⟨fun g2 => ?_, fun _ => trivial⟩, fun _ => trivial⟩
      rw [nonesV_eq _ _ g1, nonesB_eq _ _ g2]
      have := loop47 l
      refine ⟨fun hc => ?_, fun hc => ?_⟩
      · rw [bcT hc] at this; exact this
      · rw [bcF hc] at this; exact this
    · trivial
  · exfalso
    have : (lv47 f).ent id = none := by
      unfold lv47
      split
      · exact absurd rfl h
      · rfl
    rw [this] at he; cases he
def ePlain : Ent := fun args pre => match args, pre with
  | [.str l], [] => .ret (.bool (plainF l l.length 0)) []
  | _, _ => .fail
theorem plain_ok : EntOK Tryz.prog 58 ePlain := fun args pre => by
  unfold ePlain
  split
  · rename_i l
    have e : Comes tabL lv47 58 [.str l] [] (.br (plainF l l.length 0) (.ret (.bool true) []) (.ret (.bool false) [])) := by unfold Comes; kernel_rfl
    refine of_run (ans_comes tabL_ok e lv47_ok) fun r h => ?_
    rw [← h]
    simp only [Ans.run]
    cases plainF l l.length 0 <;> rfl
  · trivial
end Go.Proofs.YtanhlbdcjonaoaaGreatDoor
