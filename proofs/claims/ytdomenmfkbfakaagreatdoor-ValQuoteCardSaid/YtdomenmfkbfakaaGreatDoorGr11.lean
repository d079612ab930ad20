/- Layer 3: what is put in and what is written: of plain values. -/
import Derived.Test.YtdomenmfkbfakaaGreatDoorGr10
import Derived.Test.YtdomenmfkbfakaaGreatDoorGr09
set_option linter.unusedVariables false
set_option linter.unusedSimpArgs false
set_option linter.unusedSectionVars false
namespace Go.Proofs.YtdomenmfkbfakaaGreatDoor
open Go Sx
/-- Does a text begin so? -/
def preB (l t : List UInt8) : Bool := l.take t.length == t
def trimQ (s : List UInt8) : List UInt8 := bcond (preB s [39]) (s.drop 1) s
def fGo (low : List UInt8) : List (List UInt8) → Int → Int
  | [], n => n
  | t :: r, n => bcond (low == smallL t) n (fGo low r (n + 1))
/-- Which error's text this is; 10: none. -/
def fErr (low : List UInt8) : Int := fGo low fltS 0
/-- The value of what is put in. -/
def rdV (s : List UInt8) : List CV × Int :=
  bcond (preB s [61]) (zP, 30) (bcond (s == []) (zP, 0) (bcond ((Dq.readR s).2.2 == 0) (nmR (Dq.readR s).1 (Dq.readR s).2.1, 0)
    (bcond (smallL s == sTrue) (trR (smallL s == sTrue), 0) (bcond (smallL s == sFalse) (trR (smallL s == sTrue), 0)
      (bcond (fErr (smallL s) == 10) (bcond (isTx (trimQ s)) (txR (trimQ s), 0) (zP, 30)) (errR (fErr (smallL s)), 0))))))
-- what begins so
theorem pre1 (c d : UInt8) (t : List UInt8) : preB (c :: t) [d] = (c == d) := by
  show ([c] == [d]) = (c == d)
  cases h : c == d with
  | true => rw [beq_iff_eq.1 h]; exact beq_self_eq_true _
  | false => rw [beq_eq_false_iff_ne] at h ⊢; intro e; cases e; exact h rfl
theorem okW_first {s : List UInt8} (h : Dq.okW s = true) : ∃ c t, s = c :: t ∧ (c = 45 ∨ Dq.okDig c) := by
  cases s with
  | nil => exact absurd h (by decide)
  | cons c t =>
    refine ⟨c, t, rfl, ?_⟩
    by_cases h45 : c = 45
    · exact .inl h45
    right
    have hm : Dq.minusB (c :: t) = false := by unfold Dq.minusB; simp [h45]
    have hb : Dq.bodyS (c :: t) = c :: t := by unfold Dq.bodyS; rw [hm]; rfl
    unfold Dq.okW at h
    rw [hb, Bool.and_eq_true] at h
    have hd := Dq.isDigs_spec h.1
    unfold Dq.wholeS at hd
    split at hd
    · cases hk : (Dq.idx46 (c :: t)).toNat with
      | zero => rw [hk] at hd; exact absurd rfl hd.1
      | succ k => rw [hk] at hd; exact hd.2.2 c (by simp)
    · exact hd.2.2 c (by simp)
theorem read_bad {c : UInt8} {t : List UInt8} (h1 : c ≠ 45) (h2 : ¬ Dq.okDig c) : ((Dq.readR (c :: t)).2.2 == 0) = false := by
  unfold Dq.readR
  rw [if_neg]
  · rfl
  · intro h
    obtain ⟨d, u, e, hd⟩ := okW_first h
    cases e
    rcases hd with hd | hd
    · exact h1 hd
    · exact h2 hd
theorem read_good {s : List UInt8} {m e : Int} (h : Dq.readR s = (m, e, 0)) : rdV s = (nmR m e, 0) := by
  have hw : Dq.okW s = true := by
    cases hw : Dq.okW s with
    | true => rfl
    | false => unfold Dq.readR at h; rw [if_neg (by rw [hw]; decide)] at h; cases h
  obtain ⟨c, t, rfl, hc⟩ := okW_first hw
  have h61 : (c == 61) = false := by
    rw [beq_eq_false_iff_ne]; rintro rfl
    rcases hc with hc | hc
    · cases hc
    · exact absurd hc (by decide)
  unfold rdV
  rw [pre1, h61, h]; rfl
theorem fGo_none {low : List UInt8} : ∀ (l : List (List UInt8)) (n : Int), (∀ t ∈ l, low ≠ smallL t) → fGo low l n = n + l.length
  | [], n, _ => by simp [fGo]
  | t :: r, n, h => by
    rw [fGo, beq_eq_false_iff_ne.2 (h t (by simp))]
    show fGo low r (n + 1) = _
    rw [fGo_none r (n + 1) fun u hu => h u (by simp [hu]), List.length_cons]; omega
theorem small_ne {c : UInt8} {t u : List UInt8} {d : UInt8} (h : sbB c ≠ d) : smallL (c :: t) ≠ d :: u := by
  intro e; exact h (List.cons.inj e).1
/-- What is put in behind an apostrophe. -/
theorem rd_quote (s : List UInt8) : rdV (39 :: s) = bcond (isTx s) (txR s, 0) (zP, 30) := by
  have e1 : (smallL (39 :: s) == sTrue) = false := beq_eq_false_iff_ne.2 (small_ne (by decide))
  have e2 : (smallL (39 :: s) == sFalse) = false := beq_eq_false_iff_ne.2 (small_ne (by decide))
  have e3 : fErr (smallL (39 :: s)) = 10 := by
    unfold fErr
    rw [fGo_none]
    · rfl
    · intro t ht
      cases t with
      | nil => intro h; cases h
      | cons d u =>
        have hd : d = 35 := by
          have : ∀ x ∈ fltS, x.head? = none ∨ x.head? = some 35 := by decide
          rcases this _ ht with h | h
          · cases h
          · exact Option.some.inj h
        subst hd
        exact small_ne (by decide)
  have e4 : trimQ (39 :: s) = s := by unfold trimQ; rw [pre1]; rfl
  unfold rdV
  rw [pre1, read_bad (by decide) (by decide), e1, e2, e3, e4]
  rfl
end Go.Proofs.YtdomenmfkbfakaaGreatDoor

/- Layer 3: what is put in (val.Read), what is written of a plain value (val.Text): as entries. -/
set_option linter.unusedVariables false
set_option linter.unusedSimpArgs false
namespace Go.Proofs.YtdomenmfkbfakaaGreatDoor
open Go Sx
theorem preT_run (l : List UInt8) (c : UInt8) : (Ans.br (decide ((l.length : Int) ≥ l1 c)) (.chk (decide (0 ≤ l1 c ∧ (l1 c).toNat ≤ l.length)) (.ret (.bool (List.take ((l1 c).toNat - 0) (List.drop 0 l) == [c])) [])) (.ret (.bool false) [])).run pure2 = pure2 (.bool (preB l [c])) [] := by
  by_cases h : 1 ≤ l.length
  · rw [brT (decide_eq_true (show (l.length : Int) ≥ l1 c by show (1 : Int) ≤ _; omega)), chkT (decide_eq_true ⟨by show (0 : Int) ≤ 1; omega, by show (1 : Int).toNat ≤ _; exact h⟩)]; rfl
  · rw [brF (decide_eq_false (show ¬ (l.length : Int) ≥ l1 c by show ¬ (1 : Int) ≤ _; omega))]
    cases l with
    | nil => rfl
    | cons a t => simp at h
theorem one_of {t : List UInt8} (h : Nat.beq t.length 1 = true) : ∃ c, t = [c] := by
  have := Nat.eq_of_beq_eq_true h
  match t, this with
  | [c], _ => exact ⟨c, rfl⟩
theorem ePre_ok : EntOK Tryz.prog 43 (ePre preB) := fun args pre => by
  unfold ePre
  split
  · refine ⟨fun g => ?_, fun _ => trivial⟩
    obtain ⟨c, rfl⟩ := one_of g
    exact meets_ent (pre := []) (post := []) .nil host ((pre_comes _ c).trans (preT_run _ c)) nolv_ok
  · trivial
theorem ePrs_ok : EntOK Tryz.prog 94 (ePre preB) := fun args pre => by
  unfold ePre
  split
  · refine ⟨fun g => ?_, fun _ => trivial⟩
    obtain ⟨c, rfl⟩ := one_of g
    exact meets_ent (pre := []) (post := []) .nil host ((prs_comes _ c).trans (preT_run _ c)) nolv_ok
  · trivial
theorem eTrm_ok : EntOK Tryz.prog 50 (eTrm preB) := fun args pre => by
  unfold eTrm
  split
  · rename_i l t
    refine ⟨fun g => ?_, fun _ => trivial⟩
    obtain ⟨c, rfl⟩ := one_of g
    refine meets_ent (pre := []) (post := []) (.cons ePrs_ok .nil) host ((trm_comes preB l c).trans ?_) nolv_ok
    cases h : preB l [c] with
    | false => rfl
    | true =>
      have hl : 1 ≤ l.length := by
        cases l with
        | nil => cases h
        | cons a t => simp
      rw [brT rfl, chkT (decide_eq_true ⟨by show (0 : Int) ≤ 1; omega, by show (1 : Int).toNat ≤ _; exact hl⟩)]
      show pure2 (.str (List.take (l.length - 1) (List.drop 1 l))) [] = pure2 (.str (l.drop 1)) []
      rw [List.take_of_length_le (by simp)]
  · trivial
theorem flT_run {low : List UInt8} {X : Ans} : ∀ (l : List (List UInt8)) (n : Int), (flT smallL low l n X).run pure2 = (bcond (fGo low l n == n + l.length) X (R2 (errR (fGo low l n)) 0)).run pure2
  | [], n => by
    rw [show (fGo low [] n == n + (([] : List (List UInt8)).length : Int)) = true from beq_iff_eq.2 (by simp [fGo])]; rfl
  | t :: r, n => by
    rw [flT, fGo]
    cases low == smallL t with
    | true =>
      rw [brT rfl, show (bcond true n (fGo low r (n + 1)) == n + ((t :: r : List (List UInt8)).length : Int)) = false from beq_eq_false_iff_ne.2 (by simp only [bcond, List.length_cons]; omega)]; rfl
    | false =>
      rw [brF rfl, flT_run r (n + 1)]
      show (bcond (fGo low r (n + 1) == n + 1 + (r.length : Int)) X (R2 (errR (fGo low r (n + 1))) 0)).run pure2 = (bcond (fGo low r (n + 1) == n + ((t :: r).length : Int)) X (R2 (errR (fGo low r (n + 1))) 0)).run pure2
      rw [show n + 1 + (r.length : Int) = n + ((t :: r).length : Int) by rw [List.length_cons]; omega]
theorem rdT_run {s : List UInt8} (hs : s.length < 1000000) : (rdT preB Dq.readR smallL isTx s).run pure2 = pure2 (.tuple [vR (rdV s).1, .int .i64 (rdV s).2]) [] := by
  unfold rdT rdV
  cases preB s [61] with
  | true => rfl
  | false => cases s == [] with
    | true => rfl
    | false =>
      rw [brF rfl, brF rfl, chkT (decide_eq_true hs)]
      cases (Dq.readR s).2.2 == 0 with
      | true => rfl
      | false =>
        rw [brF rfl, chkT (decide_eq_true hs)]
        cases smallL s == sTrue with
        | true => rfl
        | false => cases smallL s == sFalse with
          | true => rfl
          | false =>
            rw [brF rfl, brF rfl, flT_run]
            show (bcond (fErr (smallL s) == 10) (endR isTx (trimQ s)) (R2 (errR (fErr (smallL s))) 0) : Ans).run pure2 = _
            cases fErr (smallL s) == 10 with
            | false => rfl
            | true =>
              have hl : (trimQ s).length ≤ 1000000 := by
                unfold trimQ
                cases preB s [39]
                · simp only [bcond]; omega
                · simp only [bcond, List.length_drop]; omega
              show (endR isTx (trimQ s)).run pure2 = pure2 (.tuple [vR (bcond (isTx (trimQ s)) (txR (trimQ s), (0 : Int)) (zP, 30)).1, .int .i64 (bcond (isTx (trimQ s)) (txR (trimQ s), (0 : Int)) (zP, 30)).2]) []
              unfold endR
              rw [chkT (decide_eq_true hl)]
              cases isTx (trimQ s) <;> rfl
theorem eRdV_ok : EntOK Tryz.prog 17 (eRdV rdV) := fun args pre => by
  unfold eRdV
  split
  · rename_i s
    refine ⟨fun g => ?_, fun _ => trivial⟩
    exact meets_ent (pre := []) (post := []) (.cons ePre_ok (.cons eTrm_ok (.cons eRdF_ok (.cons eSmF_ok (.cons eIsT_ok .nil))))) host ((rd_comes preB Dq.readR smallL isTx s).trans (rdT_run (of_decide_eq_true g))) nolv_ok
  · trivial
end Go.Proofs.YtdomenmfkbfakaaGreatDoor

/- Law 3: what is written of a plain value is read as that value (ValBack). -/
set_option linter.unusedVariables false
set_option linter.unusedSimpArgs false
namespace Go.Proofs.YtdomenmfkbfakaaGreatDoor
open Go Sx
def tfT (b : Bool) : Ans := .ret (.bool b) []
section
variable (fv : FV) (tx : List UInt8 → Bool) (wr : Int → Int → Int → List UInt8 → Bool → Int → List UInt8) (rv : List UInt8 → List CV × Int)
def smT (t : List UInt8) (X : Ans) : Ans := .chk (decide (t.length < 1000000)) X
end
theorem sm_run {t : List UInt8} (h : t.length < 1000000) {X : Ans} {r : Option (AV × List PObj)} (hX : X.run pure2 = r) : (smT t X).run pure2 = r := by
  unfold smT
  rw [chkT (decide_eq_true h)]; exact hX
end Go.Proofs.YtdomenmfkbfakaaGreatDoor

/- Layer 2: what is a text by the program is one by the document's own answer. -/
set_option linter.unusedVariables false
set_option linter.unusedSimpArgs false
namespace Go.Proofs.YtdomenmfkbfakaaGreatDoor
open Go Sx
theorem tab_none : ((List.range 256).all fun b => !(sizeN b == 0) || !(Lib.firstT b % 8 == 2 || Lib.firstT b % 8 == 3 || Lib.firstT b % 8 == 4)) = true := by kernel_rfl
theorem check_back (L : List UInt8) (hne : L ≠ []) (h0 : 128 ≤ (L.getD 0 0).toNat) {k : Nat}
    (hk : Lib.checkN L.length (L.getD 1 0).toNat (L.getD 2 0).toNat (L.getD 3 0).toNat (Lib.firstT (L.getD 0 0).toNat % 8) (Lib.accLo (Lib.firstT (L.getD 0 0).toNat / 16)) (Lib.accHi (Lib.firstT (L.getD 0 0).toNat / 16)) = some k) : signN L = k := by
  have hz := sizeN_cases (L.getD 0 0).toNat
  have ht := List.all_eq_true.1 tab_same (L.getD 0 0).toNat (List.mem_range.2 (UInt8.toNat_lt _))
  have hn := List.all_eq_true.1 tab_none (L.getD 0 0).toNat (List.mem_range.2 (UInt8.toNat_lt _))
  unfold signN
  rw [if_neg hne, if_neg (by omega)]
  generalize (L.getD 0 0).toNat = b at *
  generalize (L.getD 1 0).toNat = b1 at *
  generalize (L.getD 2 0).toNat = b2 at *
  generalize (L.getD 3 0).toNat = b3 at *
  generalize L.length = n at *
  by_cases hz0 : sizeN b = 0
  · exfalso
    simp only [hz0, beq_self_eq_true, Bool.not_true, Bool.false_or, Bool.not_eq_true', Bool.or_eq_false_iff, beq_eq_false_iff_ne] at hn
    unfold Lib.checkN at hk
    rw [if_neg hn.1.1, if_neg hn.1.2, if_neg hn.2] at hk
    cases hk
  · simp only [Bool.or_eq_true, beq_iff_eq, Bool.and_eq_true] at ht
    rcases ht with ht | ⟨⟨e1, e2⟩, e3⟩
    · exact absurd ht hz0
    rw [e1, e2, e3] at hk
    generalize sizeN b = z at *
    generalize loN b = lo at *
    generalize hiN b = hi at *
    unfold Lib.checkN at hk
    rcases hz with rfl | rfl | rfl | rfl
    · exact absurd rfl hz0
    all_goals
      simp only [Nat.reduceEqDiff, if_false, if_true] at hk ⊢
      repeat' split at hk
      all_goals first | (cases hk; done) | skip
      all_goals (cases hk)
      all_goals (repeat' split)
      all_goals first | rfl | (exfalso; omega)
theorem text_back (l : List UInt8) : ∀ (n p : Nat), l.length ≤ p + n → ctlB l n p = true → Lib.validD (l.drop p) = true → txtB l n p = true
  | 0, p, hn, _, _ => rfl
  | n + 1, p, hn, h, hv => by
    simp only [txtB, ctlB] at h ⊢
    by_cases hp : p < l.length
    · rw [bcT (b := decide (p < l.length)) (decide_eq_true hp)] at h ⊢
      have hL0 : ((l.drop p).getD 0 0).toNat = (l.getD p 0).toNat := by simp [List.getD_eq_getElem?_getD]
      have hdl : Lib.decodeL (l.drop p) = Utf8.decode ⟨l.toArray⟩ p := Lib.decodeL_drop ⟨l.toArray⟩ p
      have hLne : l.drop p ≠ [] := by simp; omega
      have h32 : ¬ (((Utf8.decode ⟨l.toArray⟩ p).1 : Int) < 32) := fun e => by rw [bcT (b := decide (((Utf8.decode ⟨l.toArray⟩ p).1 : Int) < 32)) (decide_eq_true e)] at h; cases h
      rw [bcF (b := decide (((Utf8.decode ⟨l.toArray⟩ p).1 : Int) < 32)) (decide_eq_false h32)] at h
      have h127 : ((Utf8.decode ⟨l.toArray⟩ p).1 : Int) ≠ 127 := fun e => by rw [bcT (b := (((Utf8.decode ⟨l.toArray⟩ p).1 : Int) == 127)) (beq_iff_eq.2 e)] at h; cases h
      rw [bcF (b := (((Utf8.decode ⟨l.toArray⟩ p).1 : Int) == 127)) (beq_eq_false_iff_ne.2 h127)] at h
      have hbad : ¬ ((Utf8.decode ⟨l.toArray⟩ p).1 = 65533 ∧ (Utf8.decode ⟨l.toArray⟩ p).2 = 1) := fun e => by
        rw [Lib.validD_step _ hLne, hdl, if_pos e] at hv; cases hv
      have hw : signN (l.drop p) = (Utf8.decode ⟨l.toArray⟩ p).2 ∧ signN (l.drop p) ≠ 0 ∧ ¬ (l.getD p 0).toNat < 32 ∧ (l.getD p 0).toNat ≠ 127 := by
        have hsz : p < (⟨l.toArray⟩ : ByteArray).size := by simpa [ByteArray.size] using hp
        have hby : ((⟨l.toArray⟩ : ByteArray)[p]'hsz).toNat = (l.getD p 0).toNat := by
          show (l.toArray[p]'(by simpa using hp)).toNat = _
          simp [List.getD_eq_getElem?_getD, List.getElem?_eq_getElem hp]
        by_cases hlt : (l.getD p 0).toNat < 128
        · have hd := decode_ascii ⟨l.toArray⟩ p hsz (by rw [hby]; exact hlt)
          rw [hby] at hd
          rw [hd] at h32 h127 ⊢
          have hs : signN (l.drop p) = 1 := by
            unfold signN
            rw [if_neg hLne, if_pos (by rw [hL0]; exact hlt)]
          simp only at h32 h127
          exact ⟨hs, by omega, by omega, by omega⟩
        · have h0 : 128 ≤ ((l.drop p).getD 0 0).toNat := by rw [hL0]; omega
          rcases Lib.check_decode (l.drop p).length ((l.drop p).getD 0 0).toNat ((l.drop p).getD 1 0).toNat ((l.drop p).getD 2 0).toNat ((l.drop p).getD 3 0).toNat (List.length_pos_iff.2 hLne) h0 (UInt8.toNat_lt _) (UInt8.toNat_lt _) (UInt8.toNat_lt _) (UInt8.toNat_lt _) with ⟨_, h2⟩ | ⟨k, hk2, h1, h2⟩
          · exfalso
            rw [← Lib.decodeL_N, hdl] at h2
            exact hbad ⟨by rw [h2], by rw [h2]⟩
          · have hs := check_back (l.drop p) hLne h0 h1
            rw [← Lib.decodeL_N, hdl] at h2
            exact ⟨by rw [hs, h2], by omega, by omega, by omega⟩
      obtain ⟨w1, w2, w3, w4⟩ := hw
      rw [bcF (b := (signN (l.drop p) == 0)) (beq_eq_false_iff_ne.2 w2), bcF (b := decide ((l.getD p 0).toNat < 32)) (decide_eq_false w3), bcF (b := ((l.getD p 0).toNat == 127)) (beq_eq_false_iff_ne.2 w4)]
      refine text_back l n (p + signN (l.drop p)) (by omega) (by rw [w1]; exact h) ?_
      rw [Lib.validD_step _ hLne, hdl, if_neg hbad, ← w1, List.drop_drop] at hv
      exact hv
    · rw [bcF (b := decide (p < l.length)) (decide_eq_false hp)]
/-- The two answers are one. -/
theorem txt_eq (l : List UInt8) : txtB l l.length 0 = textB l := by
  unfold textB
  cases h : txtB l l.length 0 with
  | true =>
    have := text_of l l.length 0 (by omega) h
    rw [this.1]; exact this.2.symm
  | false =>
    cases hc : ctlB l l.length 0 with
    | false => rfl
    | true =>
      cases hv : Lib.validD l with
      | false => rfl
      | true => rw [text_back l l.length 0 (by omega) hc hv] at h; cases h
end Go.Proofs.YtdomenmfkbfakaaGreatDoor

/- Law 3: what is put in behind an apostrophe is that text; a number's text is that number (ValQuote). -/
set_option linter.unusedVariables false
set_option linter.unusedSimpArgs false
namespace Go.Proofs.YtdomenmfkbfakaaGreatDoor
open Go Sx
def eTTF (f : List UInt8 → Bool) : Ent := fun args pre => match args, pre with
  | [.str s], [] => .chk (decide (s.length ≤ 9223372036854775807)) (.ret (.bool (f s)) [])
  | _, _ => .fail
theorem eTTF_ok : EntOK Tryz.prog 34 (eTTF textB) := fun args pre => by
  unfold eTTF
  split
  · rename_i s
    have key := isText2_ok [.str s] []
    unfold eIsText2 at key
    simp only [txt_eq] at key
    exact key
  · trivial
section
variable (fv : FV) (tx t2 : List UInt8 → Bool) (rv : List UInt8 → List CV × Int) (dt : Int → Int → List UInt8) (tf : List UInt8 → List UInt8)
noncomputable def tQu : Tab := [(11, eTrue), (12, eVal fv), (17, eRdV rv), (26, eSamC), (32, eTx tf), (33, eDtF dt), (34, eTTF t2)]
def caT (t : List UInt8) (X : Ans) : Ans := .chk (decide (([39] : List UInt8).length + t.length ≤ 9223372036854775807)) (smT ([39] ++ t) X)
def quE (z : List UInt8) (y : List CV) (a c d : List CV × Int) (right : Bool) : Ans :=
  .br (a.2 == 0) (psT a.1 (txR (tf z)) (.br (d.2 == 0) (psT d.1 (nmR (rm y) (re y)) (tfT ((c.2 == 0) == right))) (tfT false))) (tfT false)
def quF (z : List UInt8) (y : List CV) (d : List CV × Int) : Ans :=
  .chk (Dq.rightB (rm y) (re y)) (smT (dt (rm y) (re y)) (caT z (.br (decide ((z.length : Int) ≤ 200)) (.chk (decide (z.length ≤ 9223372036854775807)) (quE tf z y (rv ([39] ++ tf z)) (rv ([39] ++ z)) d (t2 z))) (quE tf z y (rv ([39] ++ tf z)) (rv ([39] ++ z)) d false))))
theorem qu_comes (k m e : Int) (s z : List UInt8) (b : Bool) : Comes (tQu fv t2 rv dt tf) nolv 10 [.str z, .agg [.int .i64 k, .int .i64 m, .int .i64 e, .str s, .bool b]] []
  (.br (decide ((z.length : Int) > 300)) (tfT true) (.chk (decide (z.length ≤ 9223372036854775807)) (caT (tf z) (.chk (inI m) (.chk (inI e) (.chk (decide (s.length ≤ 9223372036854775807))
    (quF t2 rv dt tf z (fv 1 m e s b) (rv (dt (rm (fv 1 m e s b)) (re (fv 1 m e s b)))))))))) ) := by unfold Comes; kernel_rfl
end
theorem ca_run {t : List UInt8} (h : t.length ≤ 1000) {X : Ans} {r : Option (AV × List PObj)} (hX : X.run pure2 = r) : (caT t X).run pure2 = r := by
  unfold caT
  rw [chkT (decide_eq_true (by simp only [List.length_cons, List.length_nil]; omega))]
  exact sm_run (by simp only [List.length_append, List.length_cons, List.length_nil]; omega) hX
theorem valR_num (m e : Int) (s : List UInt8) (b : Bool) : ∃ M E, Dq.rightB M E = true ∧ valR 1 m e s b = nmR M E := by
  have h := (valR_ok 1 m e s b).2
  unfold valR valF at *
  have e1 : (pickS 1 5 == 1) = true := by decide
  rw [e1] at h ⊢
  cases h1 : (numO m).2.2 == 0 with
  | false => exact ⟨0, 0, rfl, rfl⟩
  | true => cases h2 : (numD m e).2.2 == 0 with
    | false => exact ⟨0, 0, rfl, rfl⟩
    | true => exact ⟨_, _, numD_right m e (beq_iff_eq.1 h2), rfl⟩
theorem qu_true {z : List UInt8} {M E : Int} (hz : z.length ≤ 300) (hr : Dq.rightB M E = true) : (quF textB rdV decS textL z (nmR M E) (rdV (decS M E))).run pure2 = pure2 (.bool true) [] := by
  obtain ⟨t, h1, h2, _, _, h3⟩ := Dq.text_law hr
  have ed : decS M E = t := by unfold decS; rw [h1]
  have er : rdV (decS M E) = (nmR M E, 0) := by rw [ed]; exact read_good h2
  obtain ⟨x1, x2⟩ := textL_ok z
  have et : isTx (textL z) = true := by unfold isTx; rw [x1, decide_eq_true (by omega)]; rfl
  have ea : rdV ([39] ++ textL z) = (txR (textL z), 0) := by
    show rdV (39 :: textL z) = _
    rw [rd_quote, et]; rfl
  have key : ∀ right : Bool, isTx z = right → (quE textL z (nmR M E) (rdV ([39] ++ textL z)) (rdV ([39] ++ z)) (nmR M E, 0) right).run pure2 = pure2 (.bool true) [] := fun right h => by
    unfold quE
    rw [ea, brT (show ((txR (textL z), (0 : Int)).2 == 0) = true from rfl)]
    refine ps_run rfl ?_
    rw [brT (show ((nmR M E, (0 : Int)).2 == 0) = true from rfl)]
    refine ps_run rfl ?_
    show pure2 (.bool (((rdV (39 :: z)).2 == 0) == right)) [] = _
    rw [rd_quote, h]
    cases right <;> rfl
  unfold quF
  show (Ans.chk (Dq.rightB M E) (smT (decS M E) _)).run pure2 = _
  rw [chkT hr, er]
  refine sm_run (by rw [ed]; omega) (ca_run (by omega) ?_)
  by_cases h : (z.length : Int) ≤ 200
  · rw [brT (decide_eq_true h), chkT (decide_eq_true (by omega))]
    exact key _ (by unfold isTx; rw [decide_eq_true (by omega)]; rfl)
  · rw [brF (decide_eq_false h)]
    exact key _ (by unfold isTx; rw [decide_eq_false (by omega)]; rfl)
theorem tQu_ok (hf : EntOK Tryz.prog 12 (eVal valR)) (ha : EntOK Tryz.prog 11 eTrue) : TabOK Tryz.prog (tQu valR textB rdV decS textL) :=
  .cons ha (.cons hf (.cons eRdV_ok (.cons eSamC_ok (.cons eTx_ok (.cons eDtF_ok (.cons eTTF_ok .nil))))))
theorem qu_meets {k m e : Int} {s z : List UInt8} {b : Bool} (hk : inI k = true) (hm : inI m = true) (he : inI e = true) (hs : s.length ≤ 9223372036854775807) (hf : EntOK Tryz.prog 12 (eVal valR)) (ha : EntOK Tryz.prog 11 eTrue) :
    Meets Tryz.prog 10 [.str z, .agg [.int .i64 k, .int .i64 m, .int .i64 e, .str s, .bool b]] [] (.bool true) [] := by
  refine meets_ent (pre := []) (post := []) (tQu_ok hf ha) host ((qu_comes valR textB rdV decS textL k m e s z b).trans ?_) nolv_ok
  by_cases hz : (z.length : Int) > 300
  · rw [brT (decide_eq_true hz)]; rfl
  · have x2 := (textL_ok z).2
    rw [brF (decide_eq_false hz), chkT (decide_eq_true (by omega))]
    refine ca_run (by omega) ?_
    rw [chkT hm, chkT he, chkT (decide_eq_true hs)]
    obtain ⟨M, E, hr, ev⟩ := valR_num m e s b
    rw [ev]
    exact qu_true (by omega) hr
end Go.Proofs.YtdomenmfkbfakaaGreatDoor
