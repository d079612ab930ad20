/- Layer 3: what is put in and what is written: of plain values. -/
import Derived.Test.YtdomenmfkbfakaaGreatDoorGr10
set_option linter.unusedVariables false
set_option linter.unusedSimpArgs false
set_option linter.unusedSectionVars false
namespace Go.Proofs.YtdomenmfkbfakaaGreatDoor
open Go Sx
/-- Does a text begin so? -/
def preB (l t : List UInt8) : Bool := l.take t.length == t
def trimQ (s : List UInt8) : List UInt8 := bcond (preB s [39]) (s.drop 1) s
def ftx (j : Nat) : List UInt8 := fltS.getD j []
def fGo (low : List UInt8) : List (List UInt8) → Int → Int
  | [], n => n
  | t :: r, n => bcond (low == smallL t) n (fGo low r (n + 1))
/-- Which error's text this is; 10: none. -/
def fErr (low : List UInt8) : Int := fGo low fltS 0
/-- The value of what is put in. -/
def rdV (s : List UInt8) : List CV × Int :=
  bcond (preB s [61]) (zP, 30) (bcond (s == []) (zP, 0) (bcond ((Dq.readR s).2.2 == 0) (nmR (Dq.readR s).1 (Dq.readR s).2.1, 0)
    (bcond (smallL s == sTrue) (trR (smallL s == sTrue), 0) (bcond (smallL s == sFalse) (trR (smallL s == sTrue), 0)
      (bcond (fErr (smallL s) == 10) (bcond (isTx (trimQ s)) (txR (trimQ s), 0) (zP, 30)) (errR (fErr (smallL s)), 0))))))
/-- A text, with an apostrophe where it would be read as another value. -/
def litL (s : List UInt8) : List UInt8 := bcond ((rdV s).2 == 0) (bcond (rk (rdV s).1 == 2) (bcond (rs (rdV s).1 == s) s (39 :: s)) (39 :: s)) (39 :: s)
def wrF (k m e : Int) (s : List UInt8) (b : Bool) (r : Int) : List UInt8 := bcond (k == 1) (decS m e) (bcond (k == 2) (litL s) (bcond (k == 3) (bcond b sT4 sF5) (bcond (k == 4) (ftx r.toNat) [])))
/-- A plain value as it is put in. -/
abbrev wrR (x : List CV) : List UInt8 := wrF (rk x) (rm x) (re x) (rs x) (rb x) (rr x)
-- what begins so
theorem pre1 (c d : UInt8) (t : List UInt8) : preB (c :: t) [d] = (c == d) := by
  show ([c] == [d]) = (c == d)
  cases h : c == d with
  | true => rw [beq_iff_eq.1 h]; exact beq_self_eq_true _
  | false => rw [beq_eq_false_iff_ne] at h ⊢; intro e; cases e; exact h rfl
theorem okW_first {s : List UInt8} (h : Dq.okW s = true) : ∃ c t, s = c :: t ∧ (c = 45 ∨ Dq.okDig c) := by
  cases s with
  | nil => exact absurd h (by decide)
  | cons c t =>
    refine ⟨c, t, rfl, ?_⟩
    by_cases h45 : c = 45
    · exact .inl h45
    right
    have hm : Dq.minusB (c :: t) = false := by unfold Dq.minusB; simp [h45]
    have hb : Dq.bodyS (c :: t) = c :: t := by unfold Dq.bodyS; rw [hm]; rfl
    unfold Dq.okW at h
    rw [hb, Bool.and_eq_true] at h
    have hd := Dq.isDigs_spec h.1
    unfold Dq.wholeS at hd
    split at hd
    · cases hk : (Dq.idx46 (c :: t)).toNat with
      | zero => rw [hk] at hd; exact absurd rfl hd.1
      | succ k => rw [hk] at hd; exact hd.2.2 c (by simp)
    · exact hd.2.2 c (by simp)
theorem read_bad {c : UInt8} {t : List UInt8} (h1 : c ≠ 45) (h2 : ¬ Dq.okDig c) : ((Dq.readR (c :: t)).2.2 == 0) = false := by
  unfold Dq.readR
  rw [if_neg]
  · rfl
  · intro h
    obtain ⟨d, u, e, hd⟩ := okW_first h
    cases e
    rcases hd with hd | hd
    · exact h1 hd
    · exact h2 hd
theorem read_good {s : List UInt8} {m e : Int} (h : Dq.readR s = (m, e, 0)) : rdV s = (nmR m e, 0) := by
  have hw : Dq.okW s = true := by
    cases hw : Dq.okW s with
    | true => rfl
    | false => unfold Dq.readR at h; rw [if_neg (by rw [hw]; decide)] at h; cases h
  obtain ⟨c, t, rfl, hc⟩ := okW_first hw
  have h61 : (c == 61) = false := by
    rw [beq_eq_false_iff_ne]; rintro rfl
    rcases hc with hc | hc
    · cases hc
    · exact absurd hc (by decide)
  unfold rdV
  rw [pre1, h61, h]; rfl
theorem fGo_none {low : List UInt8} : ∀ (l : List (List UInt8)) (n : Int), (∀ t ∈ l, low ≠ smallL t) → fGo low l n = n + l.length
  | [], n, _ => by simp [fGo]
  | t :: r, n, h => by
    rw [fGo, beq_eq_false_iff_ne.2 (h t (by simp))]
    show fGo low r (n + 1) = _
    rw [fGo_none r (n + 1) fun u hu => h u (by simp [hu]), List.length_cons]; omega
theorem fGo_bd (low : List UInt8) : ∀ (l : List (List UInt8)) (n : Int), n ≤ fGo low l n ∧ fGo low l n ≤ n + l.length
  | [], n => by simp [fGo]
  | t :: r, n => by
    have := fGo_bd low r (n + 1)
    rw [fGo, List.length_cons]
    cases low == smallL t
    · simp only [bcond]; omega
    · simp only [bcond]; omega
theorem small_ne {c : UInt8} {t u : List UInt8} {d : UInt8} (h : sbB c ≠ d) : smallL (c :: t) ≠ d :: u := by
  intro e; exact h (List.cons.inj e).1
/-- What is put in behind an apostrophe. -/
theorem rd_quote (s : List UInt8) : rdV (39 :: s) = bcond (isTx s) (txR s, 0) (zP, 30) := by
  have e1 : (smallL (39 :: s) == sTrue) = false := beq_eq_false_iff_ne.2 (small_ne (by decide))
  have e2 : (smallL (39 :: s) == sFalse) = false := beq_eq_false_iff_ne.2 (small_ne (by decide))
  have e3 : fErr (smallL (39 :: s)) = 10 := by
    unfold fErr
    rw [fGo_none]
    · rfl
    · intro t ht
      cases t with
      | nil => intro h; cases h
      | cons d u =>
        have hd : d = 35 := by
          have : ∀ x ∈ fltS, x.head? = none ∨ x.head? = some 35 := by decide
          rcases this _ ht with h | h
          · cases h
          · exact Option.some.inj h
        subst hd
        exact small_ne (by decide)
  have e4 : trimQ (39 :: s) = s := by unfold trimQ; rw [pre1]; rfl
  unfold rdV
  rw [pre1, read_bad (by decide) (by decide), e1, e2, e3, e4]
  rfl
/-- A text is written so that it is read as it. -/
theorem rd_lit {s : List UInt8} (h : isTx s = true) : rdV (litL s) = (txR s, 0) := by
  have hq : rdV (39 :: s) = (txR s, 0) := by rw [rd_quote, h]; rfl
  unfold litL
  cases h0 : (rdV s).2 == 0 with
  | false => exact hq
  | true => cases h1 : rk (rdV s).1 == 2 with
    | false => exact hq
    | true => cases h2 : rs (rdV s).1 == s with
      | false => exact hq
      | true =>
        show rdV s = _
        revert h0 h1 h2
        unfold rdV
        cases preB s [61] with
        | true => intro h0; cases h0
        | false => cases s == [] with
          | true => intro _ h1; cases h1
          | false => cases (Dq.readR s).2.2 == 0 with
            | true => intro _ h1; cases h1
            | false => cases smallL s == sTrue with
              | true => intro _ h1; cases h1
              | false => cases smallL s == sFalse with
                | true => intro _ h1; cases h1
                | false => cases fErr (smallL s) == 10 with
                  | false => intro _ h1; cases h1
                  | true => cases isTx (trimQ s) with
                    | false => intro h0; cases h0
                    | true =>
                      intro _ _ h2
                      have : trimQ s = s := beq_iff_eq.1 h2
                      show (txR (trimQ s), (0 : Int)) = _
                      rw [this]
/-- What plain values there are that are right. -/
theorem rig_shape {x : List CV} (h : rigR isTx x = true) : nrm x = zP ∨ (∃ m e, Dq.rightB m e = true ∧ nrm x = nmR m e) ∨ (∃ s, isTx s = true ∧ nrm x = txR s) ∨ (∃ b, nrm x = trR b) ∨ ∃ r, (1 ≤ r ∧ r ≤ 9) ∧ nrm x = errR r := by
  have c := rightF_facts h
  unfold rigR nrm at *
  generalize rk x = k at *
  generalize rm x = m at *
  generalize re x = e at *
  generalize rs x = s at *
  generalize rb x = b at *
  generalize rr x = r at *
  generalize rh x = h' at *
  generalize rw_ x = w at *
  generalize rf x = f at *
  have hk : k = 0 ∨ k = 1 ∨ k = 2 ∨ k = 3 ∨ k = 4 := by omega
  have zf : ∀ {m e : Int} {s : List UInt8} {b : Bool} {r h w f : Int}, zF m e s b r h w f = true → m = 0 ∧ e = 0 ∧ s = [] ∧ b = false ∧ r = 0 ∧ h = 0 ∧ w = 0 ∧ f = 0 := by
    intro m e s b r h w f hz
    unfold zF sameF at hz
    simp only [Bool.and_eq_true, beq_iff_eq] at hz
    exact hz.2
  rcases hk with rfl | rfl | rfl | rfl | rfl
  · have h : zF m e s b r h' w f = true := h
    obtain ⟨rfl, rfl, rfl, rfl, rfl, rfl, rfl, rfl⟩ := zf h
    exact .inl rfl
  · have h : (Dq.rightB m e && zF 0 0 s b r h' w f) = true := h
    rw [Bool.and_eq_true] at h
    obtain ⟨_, _, rfl, rfl, rfl, rfl, rfl, rfl⟩ := zf h.2
    exact .inr (.inl ⟨m, e, h.1, rfl⟩)
  · have h : (isTx s && zF m e [] b r h' w f) = true := h
    rw [Bool.and_eq_true] at h
    obtain ⟨rfl, rfl, _, rfl, rfl, rfl, rfl, rfl⟩ := zf h.2
    exact .inr (.inr (.inl ⟨s, h.1, rfl⟩))
  · have h : zF m e s false r h' w f = true := h
    obtain ⟨rfl, rfl, rfl, _, rfl, rfl, rfl, rfl⟩ := zf h
    exact .inr (.inr (.inr (.inl ⟨b, rfl⟩)))
  · have h : (decide (1 ≤ r ∧ r ≤ 9) && zF m e s b 0 h' w f) = true := h
    rw [Bool.and_eq_true] at h
    obtain ⟨rfl, rfl, rfl, rfl, _, rfl, rfl, rfl⟩ := zf h.2
    exact .inr (.inr (.inr (.inr ⟨r, of_decide_eq_true h.1, rfl⟩)))
set_option maxRecDepth 20000 in
/-- What is written of a plain value is read as it. -/
theorem rd_back {x : List CV} (h : rigR isTx x = true) : rdV (wrR x) = (nrm x, 0) := by
  have e : wrR x = wrR (nrm x) := rfl
  rw [e]
  rcases rig_shape h with h | ⟨m, e, hr, h⟩ | ⟨s, hs, h⟩ | ⟨b, h⟩ | ⟨r, hr, h⟩
  · rw [h]; rfl
  · rw [h]
    obtain ⟨t, h1, h2, _⟩ := Dq.text_law hr
    show rdV (decS m e) = _
    have : decS m e = t := by unfold decS; rw [h1]
    rw [this]; exact read_good h2
  · rw [h]; exact rd_lit hs
  · rw [h]; cases b
    · show rdV sF5 = _; kernel_rfl
    · show rdV sT4 = _; kernel_rfl
  · rw [h]
    have : r = 1 ∨ r = 2 ∨ r = 3 ∨ r = 4 ∨ r = 5 ∨ r = 6 ∨ r = 7 ∨ r = 8 ∨ r = 9 := by omega
    rcases this with rfl | rfl | rfl | rfl | rfl | rfl | rfl | rfl | rfl
    · show rdV (ftx 1) = (errR 1, 0); kernel_rfl
    · show rdV (ftx 2) = (errR 2, 0); kernel_rfl
    · show rdV (ftx 3) = (errR 3, 0); kernel_rfl
    · show rdV (ftx 4) = (errR 4, 0); kernel_rfl
    · show rdV (ftx 5) = (errR 5, 0); kernel_rfl
    · show rdV (ftx 6) = (errR 6, 0); kernel_rfl
    · show rdV (ftx 7) = (errR 7, 0); kernel_rfl
    · show rdV (ftx 8) = (errR 8, 0); kernel_rfl
    · show rdV (ftx 9) = (errR 9, 0); kernel_rfl
/-- What is read is right, and there is no error, or one. -/
theorem rd_rig (s : List UInt8) : rigR isTx (rdV s).1 = true ∧ ((rdV s).2 = 0 ∨ (rdV s).2 = 30) := by
  have hz : rigR isTx zP = true := by kernel_rfl
  unfold rdV
  cases preB s [61] with
  | true => exact ⟨hz, .inr rfl⟩
  | false => cases hs : s == [] with
    | true => exact ⟨hz, .inl rfl⟩
    | false => cases (Dq.readR s).2.2 == 0 with
      | true => exact ⟨rig_nm (readR_right s), .inl rfl⟩
      | false => cases smallL s == sTrue with
        | true => exact ⟨rig_tr _, .inl rfl⟩
        | false => cases smallL s == sFalse with
          | true => exact ⟨rig_tr _, .inl rfl⟩
          | false => cases hf : fErr (smallL s) == 10 with
            | false =>
              refine ⟨rig_err ?_, .inl rfl⟩
              have b1 := fGo_bd (smallL s) fltS.tail 1
              have e : fErr (smallL s) = fGo (smallL s) fltS.tail 1 := by
                show bcond (smallL s == smallL []) 0 (fGo (smallL s) fltS.tail 1) = _
                have : (smallL s == smallL []) = false := by
                  rw [beq_eq_false_iff_ne] at hs ⊢
                  intro e
                  cases s with
                  | nil => exact hs rfl
                  | cons c t => cases e
                rw [this]; rfl
              rw [beq_eq_false_iff_ne, e] at hf
              have hl : (fltS.tail.length : Int) = 9 := by decide
              rw [e]; omega
            | true => cases ht : isTx (trimQ s) with
              | true => exact ⟨rig_tx ht, .inl rfl⟩
              | false => exact ⟨hz, .inr rfl⟩
theorem wr_len {x : List CV} (h : rigR isTx x = true) : (wrR x).length ≤ 1000 := by
  have e : wrR x = wrR (nrm x) := rfl
  rw [e]
  rcases rig_shape h with h | ⟨m, e, hr, h⟩ | ⟨s, hs, h⟩ | ⟨b, h⟩ | ⟨r, hr, h⟩
  · rw [h]; decide
  · rw [h]
    obtain ⟨t, h1, _, _, _, h2⟩ := Dq.text_law hr
    show (decS m e).length ≤ 1000
    unfold decS; rw [h1]; show t.length ≤ 1000; omega
  · rw [h]
    show (litL s).length ≤ 1000
    unfold isTx at hs
    rw [Bool.and_eq_true, decide_eq_true_eq] at hs
    have h2 : (39 :: s : List UInt8).length ≤ 1000 := by rw [List.length_cons]; omega
    unfold litL
    cases (rdV s).2 == 0 with
    | false => exact h2
    | true => cases rk (rdV s).1 == 2 with
      | false => exact h2
      | true => cases rs (rdV s).1 == s with
        | false => exact h2
        | true => show s.length ≤ 1000; omega
  · rw [h]; cases b <;> decide
  · rw [h]
    have : r = 1 ∨ r = 2 ∨ r = 3 ∨ r = 4 ∨ r = 5 ∨ r = 6 ∨ r = 7 ∨ r = 8 ∨ r = 9 := by omega
    rcases this with rfl | rfl | rfl | rfl | rfl | rfl | rfl | rfl | rfl <;> decide
end Go.Proofs.YtdomenmfkbfakaaGreatDoor

/- Layer 3: what is put in (val.Read), what is written of a plain value (val.Text): as entries. -/
set_option linter.unusedVariables false
set_option linter.unusedSimpArgs false
namespace Go.Proofs.YtdomenmfkbfakaaGreatDoor
open Go Sx
theorem preT_run (l : List UInt8) (c : UInt8) : (Ans.br (decide ((l.length : Int) ≥ l1 c)) (.chk (decide (0 ≤ l1 c ∧ (l1 c).toNat ≤ l.length)) (.ret (.bool (List.take ((l1 c).toNat - 0) (List.drop 0 l) == [c])) [])) (.ret (.bool false) [])).run pure2 = pure2 (.bool (preB l [c])) [] := by
  by_cases h : 1 ≤ l.length
  · rw [brT (decide_eq_true (show (l.length : Int) ≥ l1 c by show (1 : Int) ≤ _; omega)), chkT (decide_eq_true ⟨by show (0 : Int) ≤ 1; omega, by show (1 : Int).toNat ≤ _; exact h⟩)]; rfl
  · rw [brF (decide_eq_false (show ¬ (l.length : Int) ≥ l1 c by show ¬ (1 : Int) ≤ _; omega))]
    cases l with
    | nil => rfl
    | cons a t => simp at h
theorem one_of {t : List UInt8} (h : Nat.beq t.length 1 = true) : ∃ c, t = [c] := by
  have := Nat.eq_of_beq_eq_true h
  match t, this with
  | [c], _ => exact ⟨c, rfl⟩
theorem ePre_ok : EntOK Tryz.prog 43 (ePre preB) := fun args pre => by
  unfold ePre
  split
  · refine ⟨fun g => ?_, fun _ => trivial⟩
    obtain ⟨c, rfl⟩ := one_of g
    exact meets_ent (pre := []) (post := []) .nil host ((pre_comes _ c).trans (preT_run _ c)) nolv_ok
  · trivial
theorem ePrs_ok : EntOK Tryz.prog 94 (ePre preB) := fun args pre => by
  unfold ePre
  split
  · refine ⟨fun g => ?_, fun _ => trivial⟩
    obtain ⟨c, rfl⟩ := one_of g
    exact meets_ent (pre := []) (post := []) .nil host ((prs_comes _ c).trans (preT_run _ c)) nolv_ok
  · trivial
theorem eTrm_ok : EntOK Tryz.prog 50 (eTrm preB) := fun args pre => by
  unfold eTrm
  split
  · rename_i l t
    refine ⟨fun g => ?_, fun _ => trivial⟩
    obtain ⟨c, rfl⟩ := one_of g
    refine meets_ent (pre := []) (post := []) (.cons ePrs_ok .nil) host ((trm_comes preB l c).trans ?_) nolv_ok
    cases h : preB l [c] with
    | false => rfl
    | true =>
      have hl : 1 ≤ l.length := by
        cases l with
        | nil => cases h
        | cons a t => simp
      rw [brT rfl, chkT (decide_eq_true ⟨by show (0 : Int) ≤ 1; omega, by show (1 : Int).toNat ≤ _; exact hl⟩)]
      show pure2 (.str (List.take (l.length - 1) (List.drop 1 l))) [] = pure2 (.str (l.drop 1)) []
      rw [List.take_of_length_le (by simp)]
  · trivial
theorem flT_run {low : List UInt8} {X : Ans} : ∀ (l : List (List UInt8)) (n : Int), (flT smallL low l n X).run pure2 = (bcond (fGo low l n == n + l.length) X (R2 (errR (fGo low l n)) 0)).run pure2
  | [], n => by
    rw [show (fGo low [] n == n + (([] : List (List UInt8)).length : Int)) = true from beq_iff_eq.2 (by simp [fGo])]; rfl
  | t :: r, n => by
    rw [flT, fGo]
    cases low == smallL t with
    | true =>
      rw [brT rfl, show (bcond true n (fGo low r (n + 1)) == n + ((t :: r : List (List UInt8)).length : Int)) = false from beq_eq_false_iff_ne.2 (by simp only [bcond, List.length_cons]; omega)]; rfl
    | false =>
      rw [brF rfl, flT_run r (n + 1)]
      show (bcond (fGo low r (n + 1) == n + 1 + (r.length : Int)) X (R2 (errR (fGo low r (n + 1))) 0)).run pure2 = (bcond (fGo low r (n + 1) == n + ((t :: r).length : Int)) X (R2 (errR (fGo low r (n + 1))) 0)).run pure2
      rw [show n + 1 + (r.length : Int) = n + ((t :: r).length : Int) by rw [List.length_cons]; omega]
theorem rdT_run {s : List UInt8} (hs : s.length < 1000000) : (rdT preB Dq.readR smallL isTx s).run pure2 = pure2 (.tuple [vR (rdV s).1, .int .i64 (rdV s).2]) [] := by
  unfold rdT rdV
  cases preB s [61] with
  | true => rfl
  | false => cases s == [] with
    | true => rfl
    | false =>
      rw [brF rfl, brF rfl, chkT (decide_eq_true hs)]
      cases (Dq.readR s).2.2 == 0 with
      | true => rfl
      | false =>
        rw [brF rfl, chkT (decide_eq_true hs)]
        cases smallL s == sTrue with
        | true => rfl
        | false => cases smallL s == sFalse with
          | true => rfl
          | false =>
            rw [brF rfl, brF rfl, flT_run]
            show (bcond (fErr (smallL s) == 10) (endR isTx (trimQ s)) (R2 (errR (fErr (smallL s))) 0) : Ans).run pure2 = _
            cases fErr (smallL s) == 10 with
            | false => rfl
            | true =>
              have hl : (trimQ s).length ≤ 1000000 := by
                unfold trimQ
                cases preB s [39]
                · simp only [bcond]; omega
                · simp only [bcond, List.length_drop]; omega
              show (endR isTx (trimQ s)).run pure2 = pure2 (.tuple [vR (bcond (isTx (trimQ s)) (txR (trimQ s), (0 : Int)) (zP, 30)).1, .int .i64 (bcond (isTx (trimQ s)) (txR (trimQ s), (0 : Int)) (zP, 30)).2]) []
              unfold endR
              rw [chkT (decide_eq_true hl)]
              cases isTx (trimQ s) <;> rfl
theorem eRdV_ok : EntOK Tryz.prog 17 (eRdV rdV) := fun args pre => by
  unfold eRdV
  split
  · rename_i s
    refine ⟨fun g => ?_, fun _ => trivial⟩
    exact meets_ent (pre := []) (post := []) (.cons ePre_ok (.cons eTrm_ok (.cons eRdF_ok (.cons eSmF_ok (.cons eIsT_ok .nil))))) host ((rd_comes preB Dq.readR smallL isTx s).trans (rdT_run (of_decide_eq_true g))) nolv_ok
  · trivial
theorem eLit_ok : EntOK Tryz.prog 61 (eLit litL) := fun args pre => by
  unfold eLit
  split
  · rename_i s
    refine ⟨fun g => ?_, fun _ => trivial⟩
    refine meets_ent (pre := []) (post := []) (.cons eRdV_ok .nil) host ((lit_comes rdV s).trans ?_) nolv_ok
    have hq : (quoT s).run pure2 = pure2 (.str (39 :: s)) [] := by
      unfold quoT
      rw [chkT (decide_eq_true (by have := of_decide_eq_true g; show 1 + s.length ≤ _; omega))]; rfl
    rw [chkT g]
    unfold litL
    cases (rdV s).2 == 0 with
    | false => exact hq
    | true => cases rk (rdV s).1 == 2 with
      | false => exact hq
      | true => cases rs (rdV s).1 == s with
        | false => exact hq
        | true => rfl
  · trivial
/-- What is written of a plain value that is right. -/
def eTxC (tx : List UInt8 → Bool) (wr : Int → Int → Int → List UInt8 → Bool → Int → List UInt8) : Ent := fun args pre => match args, pre with
  | [.agg [.int .i64 k, .int .i64 m, .int .i64 e, .str s, .bool b, .int .i64 r, .int .i64 h, .int .i64 w, .nilslice, .int .i64 f, .nilslice, .nilslice]], [] =>
    .chk (decide (0 ≤ k ∧ k ≤ 4)) (.chk (decide (s.length ≤ 1000000)) (.chk (rightF tx k m e s b r h w f) (.ret (.tuple [.str (wr k m e s b r), .int .i64 0]) [])))
  | _, _ => .fail
theorem eTxC_ok : EntOK Tryz.prog 25 (eTxC isTx wrF) := fun args pre => by
  unfold eTxC
  split
  · rename_i k m e s b r h w f
    refine ⟨fun g1 => ⟨fun g2 => ⟨fun g3 => ?_, fun _ => trivial⟩, fun _ => trivial⟩, fun _ => trivial⟩
    have T : TabOK Tryz.prog (tWr isTx decS litL) := .cons (eRig_ok eIsT_ok) (.cons eDtF_ok (.cons eLit_ok .nil))
    have c := rightF_facts g3
    have hk : k = 0 ∨ k = 1 ∨ k = 2 ∨ k = 3 ∨ k = 4 := by omega
    have h0 : ∀ {X : Ans}, (wrT0 isTx m e s b r h w f k X).run pure2 = X.run pure2 := by
      intro X
      unfold wrT0
      rw [chkT g2, g3, Bool.not_true, brF rfl]
    rcases hk with rfl | rfl | rfl | rfl | rfl
    · exact meets_ent (pre := []) (post := []) T host ((wr_comes0 isTx decS litL m e s b r h w f).trans (h0.trans rfl)) nolv_ok
    · exact meets_ent (pre := []) (post := []) T host ((wr_comes1 isTx decS litL m e s b r h w f).trans (h0.trans (by rw [chkT (c.2.2.1 rfl)]; rfl))) nolv_ok
    · exact meets_ent (pre := []) (post := []) T host ((wr_comes2 isTx decS litL m e s b r h w f).trans (h0.trans (by rw [chkT (decide_eq_true (by omega))]; rfl))) nolv_ok
    · exact meets_ent (pre := []) (post := []) T host ((wr_comes3 isTx decS litL m e s b r h w f).trans (h0.trans (by cases b <;> rfl))) nolv_ok
    · have := c.2.2.2.2 rfl
      exact meets_ent (pre := []) (post := []) T host ((wr_comes4 isTx decS litL m e s b r h w f (by omega)).trans (h0.trans rfl)) nolv_ok
  · trivial
end Go.Proofs.YtdomenmfkbfakaaGreatDoor

/- Law 3: what is written of a plain value is read as that value (ValBack). -/
set_option linter.unusedVariables false
set_option linter.unusedSimpArgs false
namespace Go.Proofs.YtdomenmfkbfakaaGreatDoor
open Go Sx
def tfT (b : Bool) : Ans := .ret (.bool b) []
section
variable (fv : FV) (tx : List UInt8 → Bool) (wr : Int → Int → Int → List UInt8 → Bool → Int → List UInt8) (rv : List UInt8 → List CV × Int)
noncomputable def tBk : Tab := [(11, eTrue), (12, eVal fv), (25, eTxC tx wr), (17, eRdV rv), (26, eSamC), (27, eRigC tx)]
abbrev wrX (x : List CV) : List UInt8 := wr (rk x) (rm x) (re x) (rs x) (rb x) (rr x)
def smT (t : List UInt8) (X : Ans) : Ans := .chk (decide (t.length < 1000000)) X
def bkT (z : List UInt8) (x : List CV) (w r u : List CV × Int) : Ans :=
  prT tx x (smT (wrX wr x) (smT z (prT tx r.1 (smT (wrX wr r.1)
    (.br (r.2 != 0) (.br (r.2 == 30) (.br (w.2 == 0) (psT x w.1 (tfT true)) (tfT false)) (tfT false))
      (.br (w.2 == 0) (psT x w.1 (.br (u.2 == 0) (psT r.1 u.1 (prT tx r.1 (tfT true))) (tfT false))) (tfT false)))))))
theorem bk_comes (k m e : Int) (s z : List UInt8) (b : Bool) : Comes (tBk fv tx wr rv) nolv 5 [.agg [.int .i64 k, .int .i64 m, .int .i64 e, .str s, .bool b], .str z] []
  (.br (decide ((z.length : Int) > 300)) (tfT true) (.chk (inI k) (.chk (inI m) (.chk (inI e) (.chk (decide (s.length ≤ 9223372036854775807))
    (bkT tx wr z (fv k m e s b) (rv (wrX wr (fv k m e s b))) (rv z) (rv (wrX wr (rv z).1)))))))) := by unfold Comes; kernel_rfl
end
theorem sm_run {t : List UInt8} (h : t.length < 1000000) {X : Ans} {r : Option (AV × List PObj)} (hX : X.run pure2 = r) : (smT t X).run pure2 = r := by
  unfold smT
  rw [chkT (decide_eq_true h)]; exact hX
theorem ps_nrm {x y : List CV} (h : y = nrm x) {X : Ans} {r : Option (AV × List PObj)} (hX : X.run pure2 = r) : (psT x y X).run pure2 = r := by
  subst h
  unfold psT
  rw [chkT (show samR x (nrm x) = true from sameF_refl ..)]; exact hX
theorem bk_true {x : List CV} {z : List UInt8} (h : rigR isTx x = true) (hz : z.length ≤ 300) : (bkT isTx wrF z x (rdV (wrX wrF x)) (rdV z) (rdV (wrX wrF (rdV z).1))).run pure2 = pure2 (.bool true) [] := by
  have e1 : rdV (wrX wrF x) = (nrm x, 0) := rd_back h
  obtain ⟨r1, r2⟩ := rd_rig z
  have e2 : rdV (wrX wrF (rdV z).1) = (nrm (rdV z).1, 0) := rd_back r1
  have l1 : (wrX wrF x).length ≤ 1000 := wr_len h
  have l2 : (wrX wrF (rdV z).1).length ≤ 1000 := wr_len r1
  unfold bkT
  rw [e1, e2]
  refine pr_run h (sm_run (by omega) (sm_run (by omega) (pr_run r1 (sm_run (by omega) ?_))))
  rcases r2 with r2 | r2
  · rw [r2, brF (show ((0 : Int) != 0) = false from rfl), brT (show ((0 : Int) == 0) = true from rfl)]
    refine ps_nrm rfl ?_
    rw [brT (show ((0 : Int) == 0) = true from rfl)]
    exact ps_nrm rfl (pr_run r1 rfl)
  · rw [r2, brT (show ((30 : Int) != 0) = true from rfl), brT (show ((30 : Int) == 30) = true from rfl), brT (show ((0 : Int) == 0) = true from rfl)]
    exact ps_nrm rfl rfl
theorem tBk_ok (hf : EntOK Tryz.prog 12 (eVal valR)) (ha : EntOK Tryz.prog 11 eTrue) : TabOK Tryz.prog (tBk valR isTx wrF rdV) :=
  .cons ha (.cons hf (.cons eTxC_ok (.cons eRdV_ok (.cons eSamC_ok (.cons (eRigC_ok eIsT_ok) .nil)))))
theorem bk_meets {k m e : Int} {s z : List UInt8} {b : Bool} (hk : inI k = true) (hm : inI m = true) (he : inI e = true) (hs : s.length ≤ 9223372036854775807) (hf : EntOK Tryz.prog 12 (eVal valR)) (ha : EntOK Tryz.prog 11 eTrue) :
    Meets Tryz.prog 5 [.agg [.int .i64 k, .int .i64 m, .int .i64 e, .str s, .bool b], .str z] [] (.bool true) [] := by
  refine meets_ent (pre := []) (post := []) (tBk_ok hf ha) host ((bk_comes valR isTx wrF rdV k m e s z b).trans ?_) nolv_ok
  by_cases hz : (z.length : Int) > 300
  · rw [brT (decide_eq_true hz)]; rfl
  · rw [brF (decide_eq_false hz), chkT hk, chkT hm, chkT he, chkT (decide_eq_true hs)]
    exact bk_true (valR_ok k m e s b).2 (by omega)
end Go.Proofs.YtdomenmfkbfakaaGreatDoor
