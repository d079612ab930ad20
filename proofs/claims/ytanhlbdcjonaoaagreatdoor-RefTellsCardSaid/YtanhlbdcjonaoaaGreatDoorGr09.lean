/- Layer 2: the first sign of a text, by the document's own answer. -/
import Derived.Test.YtanhlbdcjonaoaaGreatDoorGr07
import Derived.Test.YtanhlbdcjonaoaaGreatDoorRdC
set_option linter.unusedVariables false
set_option linter.unusedSimpArgs false
namespace Go.Proofs.YtanhlbdcjonaoaaGreatDoor
open Go Sx

def signN (l : List UInt8) : Nat :=
  if l = [] then 0 else if (l.getD 0 0).toNat < 128 then 1 else if sizeN (l.getD 0 0).toNat = 0 then 0 else if l.length < sizeN (l.getD 0 0).toNat then 0
  else if (l.getD 1 0).toNat < loN (l.getD 0 0).toNat ∨ hiN (l.getD 0 0).toNat < (l.getD 1 0).toNat then 0 else if sizeN (l.getD 0 0).toNat = 2 then 2
  else if (l.getD 2 0).toNat < 128 ∨ 191 < (l.getD 2 0).toNat then 0 else if sizeN (l.getD 0 0).toNat = 3 then 3
  else if (l.getD 3 0).toNat < 128 ∨ 191 < (l.getD 3 0).toNat then 0 else 4
theorem sizeN_cases (b : Nat) : sizeN b = 0 ∨ sizeN b = 2 ∨ sizeN b = 3 ∨ sizeN b = 4 := by unfold sizeN; split <;> (try split) <;> (try split) <;> (try split) <;> omega
theorem signAns_run (b : Nat) (hb : b < 256) (t : List UInt8) : (signAns b (UInt8.ofNat b :: t)).run pure2 = some (.int .i64 (signN (UInt8.ofNat b :: t) : Int), []) := by
  generalize hl : UInt8.ofNat b :: t = l
  have h0 : (l.getD 0 0).toNat = b := by rw [← hl]; simp; omega
  have hne : l ≠ [] := by rw [← hl]; simp
  have hw : ∀ i, byteAt l i = ((l.getD i 0).toNat : Int) ∧ (l.getD i 0).toNat < 256 := fun i => ⟨rfl, UInt8.toNat_lt _⟩
  have w1 : IntKind.i64.wrap (byteAt l (Int.toNat 1)) = ((l.getD 1 0).toNat : Int) := by
    show IntKind.i64.wrap ((l.getD 1 0).toNat : Int) = _
    exact i64_in (by have := (hw 1).2; omega) (by have := (hw 1).2; omega)
  have w3 : IntKind.i64.wrap (2 + 1) = 3 := by rfl
  unfold signAns signN
  rw [if_neg hne, h0, w1, w3]
  rw [(hw (Int.toNat 2)).1, (hw (Int.toNat 3)).1]
  simp only [show Int.toNat 1 = 1 from rfl, show Int.toNat 2 = 2 from rfl, show Int.toNat 3 = 3 from rfl]
  generalize (l.getD 1 0).toNat = b1
  generalize (l.getD 2 0).toNat = b2
  generalize (l.getD 3 0).toNat = b3
  generalize l.length = n
  by_cases c1 : b < 128
  · rw [if_pos c1, if_pos c1]; rfl
  rw [if_neg c1, if_neg c1]
  have hs := sizeN_cases b
  generalize sizeN b = z at *
  generalize loN b = lo
  generalize hiN b = hi
  by_cases c2 : z = 0
  · rw [if_pos c2, if_pos c2]; rfl
  rw [if_neg c2, if_neg c2]
  simp only [Ans.run, Ans.chk]
  by_cases c3 : n < z
  · rw [if_pos c3, bcT (by simpa using (by omega : (n : Int) < z))]; rfl
  rw [if_neg c3, bcF (by simpa using (by omega : ¬ (n : Int) < z)), bcT (by simp; omega)]
  by_cases c4 : b1 < lo
  · rw [if_pos (c := b1 < lo ∨ hi < b1) (.inl c4), bcT (by simpa using (by omega : (b1 : Int) < lo))]; rfl
  rw [bcF (by simpa using (by omega : ¬ (b1 : Int) < lo)), bcT (by simp; omega)]
  by_cases c5 : hi < b1
  · rw [if_pos (c := b1 < lo ∨ hi < b1) (.inr c5), bcT (by simpa using (by omega : (b1 : Int) > hi))]; rfl
  rw [if_neg (c := b1 < lo ∨ hi < b1) (by omega), bcF (by simpa using (by omega : ¬ (b1 : Int) > hi))]
  by_cases c6 : z = 2
  · rw [if_pos c6, if_pos c6]; rfl
  rw [if_neg c6, if_neg c6]
  simp only [Ans.run, Ans.chk]
  rw [bcT (by simp; omega)]
  by_cases c7 : b2 < 128
  · rw [if_pos (c := b2 < 128 ∨ 191 < b2) (.inl c7), bcT (by simpa using (by omega : (b2 : Int) < 128))]; rfl
  rw [bcF (by simpa using (by omega : ¬ (b2 : Int) < 128)), bcT (by simp; omega)]
  by_cases c8 : 191 < b2
  · rw [if_pos (c := b2 < 128 ∨ 191 < b2) (.inr c8), bcT (by simpa using (by omega : (b2 : Int) > 191))]; rfl
  rw [if_neg (c := b2 < 128 ∨ 191 < b2) (by omega), bcF (by simpa using (by omega : ¬ (b2 : Int) > 191))]
  by_cases c9 : z = 3
  · rw [if_pos c9, if_pos c9]; rfl
  rw [if_neg c9, if_neg c9]
  simp only [Ans.run, Ans.chk]
  rw [bcT (by simp; omega)]
  by_cases c10 : b3 < 128
  · rw [if_pos (c := b3 < 128 ∨ 191 < b3) (.inl c10), bcT (by simpa using (by omega : (b3 : Int) < 128))]; rfl
  rw [bcF (by simpa using (by omega : ¬ (b3 : Int) < 128)), bcT (by simp; omega)]
  by_cases c11 : 191 < b3
  · rw [if_pos (c := b3 < 128 ∨ 191 < b3) (.inr c11), bcT (by simpa using (by omega : (b3 : Int) > 191))]; rfl
  rw [if_neg (c := b3 < 128 ∨ 191 < b3) (by omega), bcF (by simpa using (by omega : ¬ (b3 : Int) > 191))]; rfl

end Go.Proofs.YtanhlbdcjonaoaaGreatDoor

/- Layer 2: the first sign of a text, as an entry. -/
set_option linter.unusedVariables false
set_option linter.unusedSimpArgs false
namespace Go.Proofs.YtanhlbdcjonaoaaGreatDoor
open Go Sx

def eSign : Ent := fun args pre => match args, pre with
  | [.str l], [] => .ret (.int .i64 (signN l : Int)) []
  | _, _ => .fail
theorem sign_ok : EntOK Tryz.prog 55 eSign := fun args pre => by
  unfold eSign
  split
  · rename_i l
    cases l with
    | nil =>
      have e : Comes tab1 nolv 55 [.str []] [] (.ret (.int .i64 0) []) := by unfold Comes; kernel_rfl
      exact ans_comes tab1_ok e
    | cons b t =>
      have hb : b.toNat < 256 := UInt8.toNat_lt _
      have h1 := sign_run t b.toNat hb
      rw [signAns_run _ hb] at h1
      have h2 : UInt8.ofNat b.toNat = b := UInt8.ofNat_toNat
      rw [h2] at h1
      exact meets_ent tab1_ok host h1
  · trivial
def tab6 : Tab := (55, eSign) :: tab1
theorem tab6_ok : TabOK Tryz.prog tab6 := .cons sign_ok tab1_ok

end Go.Proofs.YtanhlbdcjonaoaaGreatDoor

/- Layer 2: what a text is, by the document's own answer. -/
set_option linter.unusedVariables false
set_option linter.unusedSimpArgs false
namespace Go.Proofs.YtanhlbdcjonaoaaGreatDoor
open Go Sx

theorem signN_le (l : List UInt8) : signN l ≤ l.length := by
  unfold signN
  have hs := sizeN_cases (l.getD 0 0).toNat
  generalize sizeN (l.getD 0 0).toNat = z at *
  by_cases h : l = []
  · rw [if_pos h]; omega
  · have : 1 ≤ l.length := List.length_pos_iff.2 h
    rw [if_neg h]
    repeat' split
    all_goals omega
def txtB (l : List UInt8) : Nat → Nat → Bool
  | 0, _ => true
  | n + 1, p => bcond (decide (p < l.length)) (bcond (signN (l.drop p) == 0) false (bcond (decide ((l.getD p 0).toNat < 32)) false (bcond ((l.getD p 0).toNat == 127) false (txtB l n (p + signN (l.drop p)))))) true

def st58 (l : List UInt8) (i : Int) : PState := ⟨some (.str l) :: none :: some (.bool false) :: some (.int .i64 i) :: List.replicate 26 none, List.replicate 64 none⟩
def fin58 (l : List UInt8) : PState := ⟨some (.str l) :: none :: some (.bool false) :: none :: List.replicate 26 none, List.replicate 64 none⟩

theorem round58 (l : List UInt8) (p : Nat) : code (ent Tryz.prog tab6 nolv 64 1 1) Tryz.prog {} 0 64 1 ((loopBodies (bodyOf Tryz.f68)).headD .skip) (st58 l p) (endK 0 64 (fun n => hasN [0, 2, 3] n) (fun n => hasN [0, 2] n)) =
    bcond (decide ((p : Int) < (l.length : Int))) (bcond (decide (0 ≤ (p : Int) ∧ (p : Int).toNat ≤ l.length)) (bcond ((signN (List.take (l.length - (p : Int).toNat) (List.drop (p : Int).toNat l)) : Int) == 0) (some (.ret, fin58 l))
      (bcond (decide (0 ≤ (p : Int) ∧ (p : Int).toNat < l.length)) (bcond (decide (((l.getD (p : Int).toNat 0).toNat : Int) < 32)) (some (.ret, fin58 l)) (bcond (decide (0 ≤ (p : Int) ∧ (p : Int).toNat < l.length)) (bcond (((l.getD (p : Int).toNat 0).toNat : Int) == 127) (some (.ret, fin58 l))
        (some (.normal, st58 l (IntKind.i64.wrap ((p : Int) + (signN (List.take (l.length - (p : Int).toNat) (List.drop (p : Int).toNat l)) : Int)))))) none)) none)) none) (some (.exit 0, fin58 l)) := by kernel_rfl

theorem loop58 (l : List UInt8) (hl : l.length ≤ 9223372036854775807) : Tri Tryz.prog (.loop ((loopBodies (bodyOf Tryz.f68)).headD .skip)) (st58 l 0).toA (bcond (txtB l l.length 0) (.exit 0) .ret) (fin58 l).toA 0 := by
  refine loop_rounds (ι := { q : Nat × Nat // l.length ≤ q.1 + q.2 }) (ent_sound (NF := 64) (m := 1) tab6_ok host nolv_ok 1) (lv := {}) (NF := 64) (m := 1) (fun x hx id e h1 h2 => by cases h2) (fun n => hasN [0, 2, 3] n) (fun n => hasN [0, 2] n) (fun q => st58 l (q.1.1 : Int)) (fun q => q.1.2) (fun q => (bcond (txtB l q.1.2 q.1.1) (.exit 0) .ret, fin58 l)) ?_ (fun q => by simp only; cases txtB l q.1.2 q.1.1 <;> simp [bcond]) ⟨(0, l.length), by simp⟩
  rintro ⟨⟨p, n⟩, hq⟩
  simp only at hq ⊢
  rw [round58]
  simp only [Int.toNat_natCast]
  have ht : List.take (l.length - p) (List.drop p l) = List.drop p l := List.take_of_length_le (by simp)
  rw [ht]
  have hk := signN_le (l.drop p)
  rw [List.length_drop] at hk
  cases n with
  | zero => exact .inr (by rw [bcF (by simp; omega)]; rfl)
  | succ n =>
    simp only [txtB]
    by_cases h1 : p < l.length
    · rw [bcT (b := decide ((p : Int) < (l.length : Int))) (by simpa using h1), bcT (b := decide (p < l.length)) (by simpa using h1), bcT (b := decide (0 ≤ (p : Int) ∧ p ≤ l.length)) (by simp; omega)]
      by_cases h2 : signN (l.drop p) = 0
      · exact .inr (by rw [bcT (b := ((signN (l.drop p) : Int) == 0)) (by simpa using h2), bcT (b := (signN (l.drop p) == 0)) (by simpa using h2)]; rfl)
      · rw [bcF (b := ((signN (l.drop p) : Int) == 0)) (by simpa using h2), bcF (b := (signN (l.drop p) == 0)) (by simpa using h2)]
        rw [bcT (b := decide (0 ≤ (p : Int) ∧ p < l.length)) (by simpa using h1)]
        by_cases h3 : (l.getD p 0).toNat < 32
        · exact .inr (by rw [bcT (b := decide (((l.getD p 0).toNat : Int) < 32)) (decide_eq_true (by omega)), bcT (b := decide ((l.getD p 0).toNat < 32)) (decide_eq_true h3)]; rfl)
        · rw [bcF (b := decide (((l.getD p 0).toNat : Int) < 32)) (decide_eq_false (by omega)), bcF (b := decide ((l.getD p 0).toNat < 32)) (decide_eq_false h3), bcT (b := decide (0 ≤ (p : Int) ∧ p < l.length)) (by simpa using h1)]
          by_cases h4 : (l.getD p 0).toNat = 127
          · exact .inr (by rw [bcT (b := (((l.getD p 0).toNat : Int) == 127)) (beq_iff_eq.2 (by omega)), bcT (b := ((l.getD p 0).toNat == 127)) (beq_iff_eq.2 h4)]; rfl)
          · rw [bcF (b := (((l.getD p 0).toNat : Int) == 127)) (beq_eq_false_iff_ne.2 (by omega)), bcF (b := ((l.getD p 0).toNat == 127)) (beq_eq_false_iff_ne.2 h4)]
            refine .inl ⟨⟨(p + signN (l.drop p), n), by simp only; omega⟩, by simp, rfl, ?_⟩
            rw [i64_in (by omega) (by omega)]
            simp
    · exact .inr (by rw [bcF (b := decide ((p : Int) < (l.length : Int))) (by simpa using h1), bcF (b := decide (p < l.length)) (by simpa using h1)]; rfl)

def nonesW : Nat → List (Option AV) → Bool
  | 0, [] => true
  | n + 1, none :: r => nonesW n r
  | _, _ => false
theorem nonesW_eq : ∀ (n : Nat) (l : List (Option AV)), nonesW n l = true → l = List.replicate n none
  | 0, [], _ => rfl
  | 0, _ :: _, h => by cases h
  | n + 1, [], h => by cases h
  | n + 1, none :: r, h => by rw [List.replicate_succ, ← nonesW_eq n r h]
  | n + 1, some _ :: r, h => by cases h
def e58 : Nat → PState → LAns := fun K t => match K, t with
  | 0, ⟨some (.str l) :: none :: some (.bool false) :: some (.int .i64 i) :: rs, rm⟩ =>
    .chk (nonesW 26 rs) (.chk (nonesB 64 rm) (.chk (decide (i = 0)) (.chk (decide (l.length ≤ 9223372036854775807)) (.br (txtB l l.length 0) (.out (.exit 0) (fin58 l)) (.out .ret (fin58 l))))))
  | _, _ => .fail
def lv58 : FuncId → Lv := fun f => match f with
  | 68 => { keep := fun _ => some [0, 2, 3], ent := fun i => match i with | 2 => some e58 | _ => none }
  | _ => {}
theorem lv58_ok : LvOK Tryz.prog lv58 := by
  intro f fn body hf hb K x hx id e hid he t
  by_cases h : f = 68
  · subst h
    obtain rfl : fn = Tryz.f68 := (Option.some.inj (Tryz.func68.symm.trans hf)).symm
    have hbody : body = bodyOf Tryz.f68 := by unfold bodyOf; rw [hb]; rfl
    subst hbody
    have h1 : loopBodies (bodyOf Tryz.f68) = [(loopBodies (bodyOf Tryz.f68)).headD .skip] := by kernel_rfl
    rw [h1] at hx
    have hx' := List.mem_singleton.1 hx
    have h2 : id = 2 := by
      have h3 : headReg ((loopBodies (bodyOf Tryz.f68)).headD .skip) = some 2 := by kernel_rfl
      rw [hx', h3] at hid; exact (Option.some.inj hid).symm
    subst h2
    have he' : e58 = e := Option.some.inj he
    subst he'
    rw [hx']
    clear hx hx' hid he hb hf h1
    unfold e58
    split
    · rename_i l i rs rm
      refine ⟨fun g1 => ⟨fun g2 => ⟨fun g3 => ⟨fun g4 => ?_, fun _ => trivial⟩, fun _ => trivial⟩, fun _ => trivial⟩, fun _ => trivial⟩
      rw [nonesW_eq _ _ g1, nonesB_eq _ _ g2, of_decide_eq_true g3]
      have := loop58 l (of_decide_eq_true g4)
      refine ⟨fun hc => ?_, fun hc => ?_⟩
      · rw [bcT hc] at this; exact this
      · rw [bcF hc] at this; exact this
    · trivial
  · exfalso
    have : (lv58 f).ent id = none := by
      unfold lv58
      split
      · exact absurd rfl h
      · rfl
    rw [this] at he; cases he

def eIsText2 : Ent := fun args pre => match args, pre with
  | [.str l], [] => .chk (decide (l.length ≤ 9223372036854775807)) (.ret (.bool (txtB l l.length 0)) [])
  | _, _ => .fail
theorem isText2_ok : EntOK Tryz.prog 68 eIsText2 := fun args pre => by
  unfold eIsText2
  split
  · rename_i l
    have e : Comes tab6 lv58 68 [.str l] [] (.chk (decide (l.length ≤ 9223372036854775807)) (.br (txtB l l.length 0) (.ret (.bool true) []) (.ret (.bool false) []))) := by unfold Comes; kernel_rfl
    refine of_run (ans_comes tab6_ok e lv58_ok) fun r h => ?_
    obtain ⟨h1, h⟩ := chk_run h
    rw [← h]
    simp only [Ans.run, Ans.chk, h1]
    cases txtB l l.length 0 with
    | true => rfl
    | false => rfl
  · trivial
def tab7 : Tab := (68, eIsText2) :: tab6
theorem tab7_ok : TabOK Tryz.prog tab7 := .cons isText2_ok tab6_ok
/-- May a text be a sheet's name, by the document's own answer? -/
def nameB (l : List UInt8) : Bool := txtB l l.length 0 && decide (0 < l.length) && decide (l.length ≤ 30)
def eIsSheet2 : Ent := fun args pre => match args, pre with
  | [.str l], [] => .chk (decide (l.length ≤ 9223372036854775807)) (.ret (.bool (nameB l)) [])
  | _, _ => .fail
theorem isSheet2_ok : EntOK Tryz.prog 49 eIsSheet2 := fun args pre => by
  unfold eIsSheet2
  split
  · rename_i l
    have e : Comes tab7 nolv 49 [.str l] [] (.chk (decide (l.length ≤ 9223372036854775807)) (.br (txtB l l.length 0) (.br (decide ((l.length : Int) > 0)) (.ret (.bool (decide ((l.length : Int) ≤ 30))) []) (.ret (.bool false) [])) (.ret (.bool false) []))) := by unfold Comes; kernel_rfl
    refine of_run (ans_comes tab7_ok e) fun r h => ?_
    obtain ⟨h1, h⟩ := chk_run h
    rw [← h]
    simp only [Ans.run, Ans.chk, h1, nameB]
    cases txtB l l.length 0 with
    | false => rfl
    | true =>
      by_cases c : 0 < l.length
      · rw [bcT rfl, bcT rfl, bcT (b := decide ((l.length : Int) > 0)) (decide_eq_true (by omega)), decide_eq_true c]
        have : decide ((l.length : Int) ≤ 30) = decide (l.length ≤ 30) := by rw [decide_eq_decide]; omega
        rw [this]; rfl
      · rw [bcT rfl, bcT rfl, bcF (b := decide ((l.length : Int) > 0)) (decide_eq_false (by omega)), decide_eq_false c]; rfl
  · trivial
def tab8 : Tab := (49, eIsSheet2) :: tab7
theorem tab8_ok : TabOK Tryz.prog tab8 := .cons isSheet2_ok tab7_ok

end Go.Proofs.YtanhlbdcjonaoaaGreatDoor

/- Layer 2, the document's own answers: the sheet's name that begins a text. -/
set_option linter.unusedVariables false
set_option linter.unusedSimpArgs false
namespace Go.Proofs.YtanhlbdcjonaoaaGreatDoor
open Go Sx

theorem uqR_neg : ∀ (f : Nat) (l : List UInt8) (p : Nat) (o : List UInt8), (uqR f l p o).2 < 0 → uqR f l p o = ([], -1)
  | 0, l, p, o, _ => rfl
  | f + 1, l, p, o, h => by
    simp only [uqR] at h ⊢
    by_cases c1 : p < l.length
    · rw [bcT (b := decide (p < l.length)) (decide_eq_true c1)] at h ⊢
      cases c2 : !(l.getD p 0 == 39) with
      | true => rw [c2, bcT rfl] at h; rw [bcT rfl]; exact uqR_neg f _ _ _ h
      | false =>
        rw [c2, bcF rfl] at h
        rw [bcF rfl]
        cases c3 : (decide (p + 1 < l.length) && l.getD (p + 1) 0 == 39) with
        | true => rw [c3, bcT rfl] at h; rw [bcT rfl]; exact uqR_neg f _ _ _ h
        | false =>
          rw [c3, bcF rfl] at h
          exfalso
          simp only at h
          omega
    · rw [bcF (b := decide (p < l.length)) (decide_eq_false c1)]
theorem uqR_len : ∀ (f : Nat) (l : List UInt8) (p : Nat) (o : List UInt8), o.length ≤ p → p ≤ l.length + 1 → (uqR f l p o).1.length ≤ l.length ∧ (uqR f l p o).2 ≤ l.length ∧ -1 ≤ (uqR f l p o).2
  | 0, l, p, o, _, _ => ⟨Nat.zero_le _, by show (-1 : Int) ≤ _; omega, Int.le_refl _⟩
  | f + 1, l, p, o, ho, hp => by
    simp only [uqR]
    by_cases c1 : p < l.length
    · rw [bcT (b := decide (p < l.length)) (decide_eq_true c1)]
      cases c2 : !(l.getD p 0 == 39) with
      | true => rw [bcT rfl]; exact uqR_len f _ _ _ (by simp; omega) (by omega)
      | false =>
        rw [bcF rfl]
        cases c3 : (decide (p + 1 < l.length) && l.getD (p + 1) 0 == 39) with
        | true =>
          rw [bcT rfl]
          rw [Bool.and_eq_true, decide_eq_true_eq] at c3
          exact uqR_len f _ _ _ (by simp; omega) (by omega)
        | false => rw [bcF rfl]; simp only; omega
    · rw [bcF (b := decide (p < l.length)) (decide_eq_false c1)]
      exact ⟨Nat.zero_le _, by show (-1 : Int) ≤ _; omega, Int.le_refl _⟩
def uqS (l : List UInt8) : List UInt8 × Int := bcond (l.take 1 == [39]) (uqR l.length l 1 []) ([], -1)
theorem unq_ok : EntOK Tryz.prog 63 (eUO uqS) := fun args pre => by
  unfold eUO
  split
  · rename_i l
    have e : Comes tab0 lvUq 63 [.str l] [] (.br ((l.length : Int) == 0) (.ret (.tuple [.str [], .int .i64 (-1)]) []) (.br (decide (0 ≤ (0 : Int) ∧ Int.toNat 0 < l.length)) (.br (byteAt l (Int.toNat 0) != 39) (.ret (.tuple [.str [], .int .i64 (-1)]) [])
      (.chk (decide ((1 : Int) = 1 ∧ l.length ≤ 1000000)) (.br (decide ((uqR l.length l 1 []).2 < 0)) (.ret (.tuple [.str [], .int .i64 (-1)]) []) (.ret (.tuple [.str (uqR l.length l 1 []).1, .int .i64 (uqR l.length l 1 []).2]) [])))) .fail)) := by unfold Comes; kernel_rfl
    refine of_run (ans_comes tab0_ok e lvUq_ok) fun r h => ?_
    obtain ⟨h1, h⟩ := chk_run h
    have hl := of_decide_eq_true h1
    rw [← h]
    simp only [Ans.run, Ans.chk]
    unfold uqS
    cases l with
    | nil => rfl
    | cons c r =>
      have e0 : ((((c :: r).length : Nat) : Int) == 0) = false := beq_eq_false_iff_ne.2 (by simp only [List.length_cons]; omega)
      rw [e0, bcF rfl, bcT (b := decide (0 ≤ (0 : Int) ∧ _)) (by rw [decide_eq_true_eq]; simp)]
      have eb : byteAt (c :: r) (Int.toNat 0) = (c.toNat : Int) := rfl
      have et : ((c :: r).take 1 == [39]) = (c == 39) := by show ([c] == [39]) = _; simp
      rw [eb, et]
      by_cases hc : c = 39
      · have e1 : ((c.toNat : Int) != 39) = false := by rw [hc]; rfl
        have e2 : (c == 39) = true := by rw [hc]; rfl
        rw [e1, bcF rfl, e2, bcT rfl, bcT (b := decide (_ ∧ _)) (by rw [decide_eq_true_eq]; exact ⟨trivial, hl⟩)]
        by_cases hn : (uqR (c :: r).length (c :: r) 1 []).2 < 0
        · rw [bcT (decide_eq_true hn), uqR_neg _ _ _ _ hn]
        · rw [bcF (decide_eq_false hn)]
      · have e1 : ((c.toNat : Int) != 39) = true := by
          rw [bne_iff_ne]; intro e; apply hc
          exact UInt8.toNat_inj.1 (by show _ = 39; omega)
        have e2 : (c == 39) = false := beq_eq_false_iff_ne.2 hc
        rw [e1, bcT rfl, e2, bcF rfl]
  · trivial
theorem nameO_ok : EntOK Tryz.prog 49 (eBO nameB) := fun args pre => by
  unfold eBO
  split
  · rename_i l
    have h := isSheet2_ok [.str l] []
    exact ⟨fun hl => h.1 (decide_eq_true (by have := of_decide_eq_true hl; omega)), fun _ => trivial⟩
  · trivial
theorem plainO_ok : EntOK Tryz.prog 27 (eBO plD) := fun args pre => by
  unfold eBO
  split
  · rename_i l; exact plainD_ok [.str l] []
  · trivial
theorem tabSh_ok : TabOK Tryz.prog (tabSh uqS plD nameB) := .cons unq_ok (.cons plainO_ok (.cons nameO_ok tab0_ok))
def noS : List UInt8 × Int := ([], -1)
def taS (N : List UInt8 → Bool) (l n : List UInt8) (z : Int) : List UInt8 × Int := bcond (N n && decide (z < (l.length : Int)) && byteAt l z.toNat == 33) (n, z + 1) noS
def shF (U : List UInt8 → List UInt8 × Int) (P N : List UInt8 → Bool) (l : List UInt8) : List UInt8 × Int :=
  bcond (decide ((U l).2 < 0)) (bcond (Nat.beq (skF l) l.length) ([], 0) (bcond (P (l.take (skF l))) (taS N l (l.take (skF l)) (skF l : Int)) noS)) (taS N l (U l).1 (U l).2)
def noT : Ans := .ret (.tuple [.str [], .int .i64 (-1)]) []
def taT (N : List UInt8 → Bool) (l n : List UInt8) (z : Int) : Ans :=
  .br (decide (n.length ≤ 1000000)) (.br (!N n) noT (.br (decide (z ≥ (l.length : Int))) noT (.br (decide (0 ≤ z ∧ z.toNat < l.length)) (.br (byteAt l z.toNat != 33) noT (.ret (.tuple [.str n, .int .i64 (IntKind.i64.wrap (z + 1))]) [])) .fail))) .fail
theorem sheet_comes (U : List UInt8 → List UInt8 × Int) (P N : List UInt8 → Bool) (l : List UInt8) : Comes (tabSh U P N) lvSh 38 [.str l] []
    (.br (decide (l.length ≤ 1000000)) (.br (decide ((U l).2 < 0)) (.br (decide ((0 : Int) = 0 ∧ l.length ≤ 1000000)) (.br ((skF l : Int) == (l.length : Int)) (.ret (.tuple [.str [], .int .i64 0]) []) (.br (decide (0 ≤ (skF l : Int) ∧ ((skF l : Int)).toNat ≤ l.length))
      (.br (decide ((List.take ((skF l : Int).toNat - 0) (List.drop 0 l)).length ≤ 1000000)) (.br (!P (List.take ((skF l : Int).toNat - 0) (List.drop 0 l))) noT (taT N l (List.take ((skF l : Int).toNat - 0) (List.drop 0 l)) (skF l : Int))) .fail) .fail)) .fail) (taT N l (U l).1 (U l).2)) .fail) := by unfold Comes; kernel_rfl
theorem taT_run {N : List UInt8 → Bool} {l n : List UInt8} {z : Int} (hn : n.length ≤ 1000000) (h0 : 0 ≤ z) (hl : l.length ≤ 1000000) : (taT N l n z).run pure2 = pure2 (.tuple [.str (taS N l n z).1, .int .i64 (taS N l n z).2]) [] := by
  unfold taT taS noT noS
  simp only [Ans.run]
  rw [bcT (b := decide (n.length ≤ 1000000)) (decide_eq_true hn)]
  cases N n with
  | false => rfl
  | true =>
    rw [bcF (b := !true) rfl, Bool.true_and]
    by_cases h1 : z < (l.length : Int)
    · rw [bcF (b := decide (z ≥ (l.length : Int))) (decide_eq_false (by omega)), bcT (b := decide (0 ≤ z ∧ _)) (decide_eq_true (by omega)), decide_eq_true h1, Bool.true_and]
      cases h2 : byteAt l z.toNat == 33 with
      | true =>
        have : (byteAt l z.toNat != 33) = false := by rw [bne, h2]; rfl
        rw [this, bcF rfl, bcT rfl, i64_in (by omega) (by omega)]
      | false =>
        have : (byteAt l z.toNat != 33) = true := by rw [bne, h2]; rfl
        rw [this, bcT rfl, bcF rfl]
    · rw [bcT (b := decide (z ≥ (l.length : Int))) (decide_eq_true (by omega)), decide_eq_false h1]; rfl
def shD (l : List UInt8) : List UInt8 × Int := shF uqS plD nameB l
theorem sheetD_ok : EntOK Tryz.prog 38 (eUO shD) := fun args pre => by
  unfold eUO
  split
  · rename_i l
    refine of_run (ans_comes tabSh_ok (sheet_comes uqS plD nameB l) lvSh_ok) fun r h => ?_
    obtain ⟨h1, h⟩ := chk_run h
    have hl := of_decide_eq_true h1
    rw [← h]
    have hk := skF_le l
    have hu : (uqS l).1.length ≤ l.length ∧ (uqS l).2 ≤ l.length ∧ -1 ≤ (uqS l).2 := by
      unfold uqS
      cases l.take 1 == [39] with
      | false => exact ⟨Nat.zero_le _, by show (-1 : Int) ≤ _; omega, Int.le_refl _⟩
      | true => exact uqR_len _ _ _ _ (Nat.zero_le _) (by omega)
    simp only [Ans.run]
    unfold shD shF
    rw [bcT (b := decide (l.length ≤ 1000000)) (decide_eq_true hl), Int.toNat_natCast, Nat.sub_zero, List.drop_zero]
    by_cases c1 : (uqS l).2 < 0
    · rw [bcT (b := decide ((uqS l).2 < 0)) (decide_eq_true c1), bcT (b := decide ((uqS l).2 < 0)) (decide_eq_true c1), bcT (b := decide (_ ∧ _)) (by rw [decide_eq_true_eq]; exact ⟨trivial, hl⟩)]
      by_cases c2 : skF l = l.length
      · rw [bcT (b := ((skF l : Int) == (l.length : Int))) (by rw [c2]; exact beq_self_eq_true _), bcT (b := Nat.beq (skF l) l.length) (beqT.2 c2)]
      · rw [bcF (b := ((skF l : Int) == (l.length : Int))) (beq_eq_false_iff_ne.2 (by omega)), bcF (b := Nat.beq (skF l) l.length) (Bool.eq_false_iff.2 fun e => c2 (beqT.1 e)), bcT (b := decide (0 ≤ (skF l : Int) ∧ _)) (decide_eq_true (by omega)), bcT (b := decide ((l.take (skF l)).length ≤ 1000000)) (decide_eq_true (by rw [List.length_take]; omega))]
        cases plD (l.take (skF l)) with
        | false => rfl
        | true => rw [bcF (b := !true) rfl, bcT rfl]; exact taT_run (by rw [List.length_take]; omega) (by omega) hl
    · rw [bcF (b := decide ((uqS l).2 < 0)) (decide_eq_false c1), bcF (b := decide ((uqS l).2 < 0)) (decide_eq_false c1)]
      exact taT_run (by omega) (by omega) hl
  · trivial
end Go.Proofs.YtanhlbdcjonaoaaGreatDoor
