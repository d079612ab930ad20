/- Layer 2: references, read: any text: the entry. -/
import Derived.Test.YtanhlbdcjonaoaaDoorRy1
import Derived.Test.YtanhlbdcjonaoaaDoorRy2
import Derived.Test.YtanhlbdcjonaoaaDoorRcC
import Derived.Test.YtanhlbdcjonaoaaDoorRdU
import Derived.Test.YtanhlbdcjonaoaaDoorRdZ
import Derived.Test.YtanhlbdcjonaoaaDoorRdK0
import Derived.Test.YtanhlbdcjonaoaaDoorPx1
set_option linter.unusedVariables false
set_option linter.unusedSimpArgs false
namespace Go.Proofs.YtanhlbdcjonaoaaDoor
open Go Sx

/-- The row of some digits, less one, and whether there is one. -/
def rrG (l : List UInt8) : Int × Bool := bcond (l.take 1 == [48]) (0, false) (bcond (atoB l && decide (atoV l ≤ 200)) (IntKind.i64.wrap (atoV l - 1), true) (0, false))
def eRRg : Ent := fun args pre => match args, pre with
  | [.str l], [] => .chk (Nat.ble l.length 1000000) (.ret (.tuple [.int .i64 (rrG l).1, .bool (rrG l).2]) [])
  | _, _ => .fail
def tabA : Tab := (55, eAtoi) :: tab0
theorem tabA_ok : TabOK Tryd.prog tabA := .cons atoi_ok tab0_ok
def noRow : Ans := .ret (.tuple [.int .i64 0, .bool false]) []
def ato38 (l : List UInt8) : Ans := .br (decide (l.length ≤ 1000000)) (.br (atoB l) (.br (decide (atoV l > 200)) noRow (.ret (.tuple [.int .i64 (IntKind.i64.wrap (atoV l - 1)), .bool true]) [])) noRow) .fail
theorem readRowG_ok : EntOK Tryd.prog 38 eRRg := fun args pre => by
  unfold eRRg
  split
  · rename_i l
    have e : Comes tabA nolv 38 [.str l] [] (.br (decide ((l.length : Int) ≥ ((1 : Nat) : Int))) (.br (decide (0 ≤ ((1 : Nat) : Int) ∧ (((1 : Nat) : Int)).toNat ≤ l.length)) (.br (List.take ((((1 : Nat) : Int)).toNat - 0) (List.drop 0 l) == [48]) noRow (ato38 l)) .fail) (ato38 l)) := by unfold Comes; kernel_rfl
    refine of_run (ans_comes tabA_ok e) fun r h => ?_
    obtain ⟨h1, h⟩ := chk_run h
    have hl := bleT.1 h1
    rw [← h]
    have key : (bcond (l.take 1 == [48]) (noRow.run pure2) ((ato38 l).run pure2)) = pure2 (.tuple [.int .i64 (rrG l).1, .bool (rrG l).2]) [] := by
      unfold rrG ato38 noRow
      cases l.take 1 == [48] with
      | true => rfl
      | false =>
        simp only [Ans.run]
        rw [bcF rfl, bcT (b := decide (l.length ≤ 1000000)) (decide_eq_true hl)]
        cases atoB l with
        | false => rfl
        | true =>
          by_cases h2 : atoV l ≤ 200
          · rw [bcF (b := decide (atoV l > 200)) (decide_eq_false (by omega)), decide_eq_true h2]; rfl
          · rw [bcT (b := decide (atoV l > 200)) (decide_eq_true (by omega)), decide_eq_false h2]; rfl
    cases l with
    | nil =>
      have hz : decide ((([] : List UInt8).length : Int) ≥ ((1 : Nat) : Int)) = false := by decide
      simp only [Ans.run]
      rw [hz]
      exact key
    | cons c t =>
      have hz : decide (((c :: t).length : Int) ≥ ((1 : Nat) : Int)) = true := decide_eq_true (by simp only [List.length_cons]; omega)
      have hy : decide (0 ≤ ((1 : Nat) : Int) ∧ (((1 : Nat) : Int)).toNat ≤ (c :: t).length) = true := by rw [decide_eq_true_eq]; simp only [List.length_cons]; omega
      simp only [Ans.run] at key ⊢
      rw [hz, bcT rfl, hy, bcT rfl]
      exact key
  · trivial
def lowS (n : Nat) : List UInt8 := (colS n).map (· + 32)
theorem trim_len (f : Int → Bool) (l : List UInt8) : (trimF f l).length ≤ l.length := by
  unfold trimF
  cases (scanF f l l.length 0).isNone with
  | true => simp [bcond]
  | false => simp [bcond]
theorem cqF_len (f : List UInt8 → Bool) : ∀ (n : Nat) (l acc : List UInt8), (cqF f n l acc).2.1.length ≤ l.length
  | 0, l, acc => by simp [cqF]
  | n + 1, l, acc => by
    have hb : (bhd l).length ≤ l.length := by unfold bhd; rw [List.length_drop]; omega
    unfold cqF
    cases decide (ixC 39 l ≥ 0) with
    | false => simp [bcond]
    | true =>
      cases cpB 33 (bhd l) with
      | true => show ((bhd l).drop 1).length ≤ _; rw [List.length_drop]; omega
      | false =>
        cases cpB 39 (bhd l) with
        | false => simp [bcond]
        | true =>
          refine Nat.le_trans (cqF_len f n _ _) ?_
          rw [List.length_drop]; omega
theorem csS_len (l : List UInt8) : (csS l).2.1.length ≤ l.length := by
  unfold csS csF
  cases cpB 39 l with
  | true =>
    refine Nat.le_trans (cqF_len _ _ _ _) ?_
    rw [List.length_drop]; omega
  | false =>
    cases decide (ixC 33 l ≥ 0) with
    | false => exact Nat.le_refl _
    | true => show (l.drop _).length ≤ _; rw [List.length_drop]; omega
theorem trimO_ok : EntOK Tryd.prog 36 (eTrimO (trimF letB) (trimF digB)) := trim_ok
def tabEg : Tab := tabE csS (trimF letB) (trimF digB) letsB rcG (fun l => Nat.ble l.length 1000000) rrG
theorem rc_ent : eRC letsB rcG = eRCg := by
  funext args pre
  unfold eRC eRCg
  rfl
theorem rr_ent : eRR (fun l => Nat.ble l.length 1000000) rrG = eRRg := by
  funext args pre
  unfold eRR eRRg
  rfl
theorem tabEg_ok : TabOK Tryd.prog tabEg := .cons cutSheet_ok (.cons trimO_ok (.cons (rc_ent ▸ readColG_ok) (.cons (rr_ent ▸ readRowG_ok) (.cons cutP_ok tab0_ok))))
/-- A reference's text, read. -/
def readA (l : List UInt8) : AV := readS csS (trimF letB) (trimF digB) rcG rrG l
def colA (l : List UInt8) : List UInt8 := ahd (trimF letB) (colP csS l)
def rowA (l : List UInt8) : List UInt8 := ahd (trimF digB) (rowP csS (trimF letB) l)

/-- What is ahead of what is not so is so. -/
theorem scan_pre {f : Int → Bool} (hf : ∀ c, f c = true → c < 128) (l : List UInt8) : ∀ (n p : Nat), l.length ≤ p + n → ∀ i (hi : i < l.length), p ≤ i → (∀ k, scanF f l n p = some k → i < k) → l[i].toNat < 128 ∧ f l[i].toNat = true
  | 0, p, h, i, hi, hp, _ => by omega
  | n + 1, p, h, i, hi, hp, hk => by
    have hpl : p < l.length := by omega
    simp only [scanF] at hk
    rw [bcT (b := decide (p < l.length)) (decide_eq_true hpl)] at hk
    cases hb : f (runeAt l p) == false with
    | true =>
      have := hk p (by rw [hb]; rfl)
      omega
    | false =>
      rw [hb] at hk
      have hft : f (runeAt l p) = true := by cases h2 : f (runeAt l p) with | true => rfl | false => rw [h2] at hb; cases hb
      have hlow := rune_low hpl (hf _ hft)
      have hasc := rune_asc hpl hlow
      by_cases e : i = p
      · subst e
        exact ⟨hlow, by rw [← hasc.1]; exact hft⟩
      · have hk' : ∀ k, scanF f l n (p + 1) = some k → i < k := fun k hk0 => hk k (by rw [hasc.2]; exact hk0)
        exact scan_pre hf l n (p + 1) (by omega) i hi (by omega) hk'
theorem ahd_all {f : Int → Bool} (hf : ∀ c, f c = true → c < 128) (l : List UInt8) : ∀ c ∈ ahd (trimF f) l, c.toNat < 128 ∧ f c.toNat = true := by
  intro c hc
  unfold ahd at hc
  obtain ⟨i, hi, e⟩ := List.getElem_of_mem hc
  rw [List.length_take] at hi
  have hil : i < l.length := by omega
  have e2 : l[i] = c := by rw [← e, List.getElem_take]
  rw [← e2]
  refine scan_pre hf l l.length 0 (by omega) i hil (Nat.zero_le _) fun k hk => ?_
  have ht : trimF f l = l.drop k := by unfold trimF; rw [hk]; rfl
  rw [ht, List.length_drop] at hi
  omega
theorem let_low (c : Int) (h : letB c = true) : c < 128 := by unfold letB at h; have := of_decide_eq_true h; omega
theorem dig_low (c : Int) (h : digB c = true) : c < 128 := by unfold digB at h; have := of_decide_eq_true h; omega
theorem ahd_len (t : List UInt8 → List UInt8) (R : List UInt8) : (ahd t R).length ≤ R.length := by unfold ahd; rw [List.length_take]; omega
theorem unfix_len (R : List UInt8) : (unfix R).length ≤ R.length := by
  unfold unfix
  cases cpB 36 R with
  | true => simp [bcond]
  | false => simp [bcond]
theorem colP_len (l : List UInt8) : (colP csS l).length ≤ l.length := Nat.le_trans (unfix_len _) (csS_len l)
theorem rowP_len (l : List UInt8) : (rowP csS (trimF letB) l).length ≤ l.length := Nat.le_trans (unfix_len _) (Nat.le_trans (trim_len _ _) (colP_len l))
theorem colA_ok {l : List UInt8} (h : l.length ≤ 1000000) : letsB (colA l) = true := by
  unfold letsB
  rw [Bool.and_eq_true, bleT]
  exact ⟨Nat.le_trans (ahd_len _ _) (Nat.le_trans (colP_len l) h), List.all_eq_true.2 fun c hc => (ahd_all let_low _ c hc).2⟩
theorem rowA_ok {l : List UInt8} (h : l.length ≤ 1000000) : Nat.ble (rowA l).length 1000000 = true :=
  bleT.2 (Nat.le_trans (ahd_len _ _) (Nat.le_trans (rowP_len l) h))
def eRead : Ent := fun args pre => match args, pre with
  | [.str l], [] => .chk (decide (l.length ≤ 1000000)) (.ret (readA l) [])
  | _, _ => .fail
theorem read_ok : EntOK Tryd.prog 13 eRead := fun args pre => by
  unfold eRead
  split
  · rename_i l
    refine of_run (ans_comes tabEg_ok (read_comes _ _ _ _ _ _ _ l)) fun r h => ?_
    obtain ⟨h1, h⟩ := chk_run h
    have hl := of_decide_eq_true h1
    rw [← h]
    exact rdT_run (trim_len letB) (trim_len digB) hl (csS_len l) (colA_ok hl) (rowA_ok hl)
  · trivial
end Go.Proofs.YtanhlbdcjonaoaaDoor

/- Layer 2: what is written, read. -/
set_option linter.unusedVariables false
set_option linter.unusedSimpArgs false
namespace Go.Proofs.YtanhlbdcjonaoaaDoor
open Go Sx

theorem cpB_cons (c x : UInt8) (l : List UInt8) : cpB c (x :: l) = (x == c) := by
  unfold cpB
  show ([x] == [c]) = _
  simp
theorem csS_plain {s r : List UInt8} (h : plainF s s.length 0 = true) : csS (s ++ 33 :: r) = (s, r, sheetB s) := by
  have hb := plain_bytes s.length s 0 (by omega) h
  have h33 : (33 : UInt8) ∉ s := fun hm => by
    obtain ⟨k, hk, e⟩ := List.getElem_of_mem hm
    exact (hb k hk (Nat.zero_le _)).1 e
  have h39 : cpB 39 (s ++ 33 :: r) = false := by
    cases s with
    | nil => rfl
    | cons x s => rw [List.cons_append, cpB_cons]; have := (hb 0 (by simp) (Nat.le_refl _)).2; simpa using this
  have hi := ixC_at 33 s r h33
  unfold csS csF
  rw [h39, bcF rfl, hi, bcT (b := decide ((s.length : Int) ≥ 0)) (decide_eq_true (by omega)), Int.toNat_natCast]
  have e1 : (s ++ 33 :: r).take s.length = s := by simp
  have e2 : (s ++ 33 :: r).drop (s.length + 1) = r := by rw [show s ++ 33 :: r = (s ++ [33]) ++ r by simp]; exact List.drop_left' (by simp)
  rw [e1, e2]
  simp only [h, Bool.true_and]
theorem csS_none {r : List UInt8} (h : (33 : UInt8) ∉ r) (h' : cpB 39 r = false) : csS r = ([], r, true) := by
  unfold csS csF
  rw [h', bcF rfl, ixC_no 33 r h]; rfl
theorem take_ahd (K A : List UInt8) : (K ++ A).take ((K ++ A).length - A.length) = K := by
  have : (K ++ A).length - A.length = K.length := by rw [List.length_append]; omega
  rw [this]; simp
theorem cs_torn : (csS [35, 82, 69, 70, 33]).2.2 = false := by kernel_rfl
theorem readA_tail {l s K D : List UInt8} {a b : Bool} (hcs : csS l = (s, bcond b [36] [] ++ (K ++ (bcond a [36] [] ++ D)), true)) (hK : ∀ x ∈ K, x.toNat < 128 ∧ letB x.toNat = true) (hK0 : K ≠ []) (hD : ∀ x ∈ D, x.toNat < 128 ∧ digB x.toNat = true) (hD0 : D ≠ []) (hC : (rcG K).2 = 0) (hR : (rrG D).2 = true) :
    colA l = K ∧ rowA l = D ∧ readA l = .tuple [.agg [.str s, .int .i64 (rrG D).1, .int .i64 (rcG K).1, .bool a, .bool b, .bool false], .int .i64 0] := by
  obtain ⟨k, K', rfl⟩ := List.exists_cons_of_ne_nil hK0
  obtain ⟨d, D', rfl⟩ := List.exists_cons_of_ne_nil hD0
  have hd := hD d List.mem_cons_self
  have hk := hK k List.mem_cons_self
  have hd36 : (d == 36) = false := by
    rw [beq_eq_false_iff_ne]; intro e; subst e; exact absurd hd.2 (by decide)
  have hk36 : (k == 36) = false := by
    rw [beq_eq_false_iff_ne]; intro e; subst e; exact absurd hk.2 (by decide)
  have hdl : letB d.toNat = false := by
    have := hd.2
    unfold digB at this; unfold letB
    have := of_decide_eq_true this
    exact decide_eq_false (by omega)
  have e1 : cpB 36 (csS l).2.1 = b := by
    rw [hcs]
    cases b with
    | true => rfl
    | false => show cpB 36 (k :: _) = false; rw [cpB_cons, hk36]
  have e2 : colP csS l = k :: K' ++ (bcond a [36] [] ++ d :: D') := by
    unfold colP unfix
    rw [e1, hcs]
    cases b <;> rfl
  have e3 : trimF letB (colP csS l) = bcond a [36] [] ++ d :: D' := by
    rw [e2]
    cases a with
    | true => exact trim_stop (c := 36) (by decide) (by decide) hK
    | false => exact trim_stop (c := d) hd.1 hdl hK
  have e4 : colA l = k :: K' := by
    unfold colA ahd
    rw [e3, e2]
    exact take_ahd _ _
  have e5 : cpB 36 (trimF letB (colP csS l)) = a := by
    rw [e3]
    cases a with
    | true => rfl
    | false => show cpB 36 (d :: _) = false; rw [cpB_cons, hd36]
  have e6 : rowP csS (trimF letB) l = d :: D' := by
    unfold rowP unfix
    rw [e5, e3]
    cases a <;> rfl
  have e7 : trimF digB (rowP csS (trimF letB) l) = [] := by rw [e6]; exact trim_end hD
  have e8 : rowA l = d :: D' := by
    unfold rowA ahd
    rw [e7, e6]; simp
  refine ⟨e4, e8, ?_⟩
  have ht : (l == [35, 82, 69, 70, 33]) = false := by
    rw [beq_eq_false_iff_ne]; intro e
    have := cs_torn
    rw [← e, hcs] at this; cases this
  unfold colA at e4
  unfold rowA at e8
  unfold readA readS
  rw [ht, bcF rfl, e4, e8, e7, e1, e5, hcs, hC, hR]
  rfl
theorem col_bytes : (List.range 52).all (fun n => (colS n).all (fun x => decide (x.toNat < 128) && letB x.toNat) && (lowS n).all (fun x => decide (x.toNat < 128) && letB x.toNat) && !(colS n).isEmpty && !(lowS n).isEmpty) = true := by kernel_rfl
theorem row_bytes : (List.range 200).all (fun n => (rowS (n + 1)).all (fun x => decide (x.toNat < 128) && digB x.toNat) && !(rowS (n + 1)).isEmpty) = true := by kernel_rfl
end Go.Proofs.YtanhlbdcjonaoaaDoor

/- Layer 2: Read undoes Text. -/
set_option linter.unusedVariables false
set_option linter.unusedSimpArgs false
namespace Go.Proofs.YtanhlbdcjonaoaaDoor
open Go Sx

/-- A sheet's name ahead: between apostrophes, or not. -/
def nmS (q : Bool) (s : List UInt8) : List UInt8 := bcond (!(s == [])) (bcond q (39 :: (dblS s ++ [39])) s ++ [33]) []
def tlS (a b : Bool) (K D : List UInt8) : List UInt8 := bcond b [36] [] ++ (K ++ (bcond a [36] [] ++ D))
theorem cs_name {q : Bool} {s T : List UInt8} (hs : s = [] ∨ sheetB s = true) (hq : q = false → plainF s s.length 0 = true) (h33 : (33 : UInt8) ∉ T) (h39 : cpB 39 T = false) : csS (nmS q s ++ T) = (s, T, true) := by
  unfold nmS
  by_cases h0 : s = []
  · subst h0; exact csS_none h33 h39
  · have hb : (!(s == [])) = true := by rw [Bool.not_eq_true', beq_eq_false_iff_ne]; exact h0
    have hS : sheetB s = true := hs.resolve_left h0
    rw [hb, bcT rfl]
    cases q with
    | true =>
      rw [bcT rfl, show 39 :: (dblS s ++ [39]) ++ [33] ++ T = 39 :: (dblS s ++ 39 :: 33 :: T) by simp, csS_quoted, hS]
    | false =>
      rw [bcF rfl, show s ++ [33] ++ T = s ++ 33 :: T by simp, csS_plain (hq rfl), hS]
theorem let_ne {x : UInt8} (h : letB x.toNat = true) : x ≠ 33 ∧ x ≠ 39 ∧ x ≠ 36 :=
  ⟨fun e => by subst e; exact absurd h (by decide), fun e => by subst e; exact absurd h (by decide), fun e => by subst e; exact absurd h (by decide)⟩
theorem dig_ne {x : UInt8} (h : digB x.toNat = true) : x ≠ 33 ∧ x ≠ 39 ∧ x ≠ 36 :=
  ⟨fun e => by subst e; exact absurd h (by decide), fun e => by subst e; exact absurd h (by decide), fun e => by subst e; exact absurd h (by decide)⟩
theorem tl_ne {a b : Bool} {K D : List UInt8} (hK : ∀ x ∈ K, x.toNat < 128 ∧ letB x.toNat = true) (hK0 : K ≠ []) (hD : ∀ x ∈ D, x.toNat < 128 ∧ digB x.toNat = true) : (33 : UInt8) ∉ tlS a b K D ∧ cpB 39 (tlS a b K D) = false := by
  constructor
  · intro h
    unfold tlS at h
    simp only [List.mem_append] at h
    rcases h with h | h | h | h
    · cases b <;> simp [bcond] at h
    · exact (let_ne (hK _ h).2).1 rfl
    · cases a <;> simp [bcond] at h
    · exact (dig_ne (hD _ h).2).1 rfl
  · obtain ⟨k, K', rfl⟩ := List.exists_cons_of_ne_nil hK0
    unfold tlS
    cases b with
    | true => rfl
    | false =>
      show cpB 39 (k :: _) = false
      rw [cpB_cons, beq_eq_false_iff_ne]
      exact (let_ne (hK k List.mem_cons_self).2).2.1
theorem rrG_row : (List.range 200).all (fun n => (rrG (rowS (n + 1))).1 == (n : Int) && (rrG (rowS (n + 1))).2) = true := by kernel_rfl
theorem rcG_col : (List.range 52).all (fun n => (rcG (colS n)).1 == (n : Int) && (rcG (colS n)).2 == 0 && ((rcG (lowS n)).1 == (n : Int) && (rcG (lowS n)).2 == 0)) = true := by kernel_rfl
theorem col_facts {n : Nat} (h : n < 52) : ((∀ x ∈ colS n, x.toNat < 128 ∧ letB x.toNat = true) ∧ colS n ≠ [] ∧ rcG (colS n) = ((n : Int), 0)) ∧ ((∀ x ∈ lowS n, x.toNat < 128 ∧ letB x.toNat = true) ∧ lowS n ≠ [] ∧ rcG (lowS n) = ((n : Int), 0)) := by
  have h1 := List.all_eq_true.1 col_bytes n (List.mem_range.2 h)
  have h2 := List.all_eq_true.1 rcG_col n (List.mem_range.2 h)
  simp only [Bool.and_eq_true, List.all_eq_true, decide_eq_true_eq, Bool.not_eq_true', beq_iff_eq, List.isEmpty_eq_false_iff] at h1 h2
  exact ⟨⟨h1.1.1.1, h1.1.2, Prod.ext h2.1.1 h2.1.2⟩, ⟨h1.1.1.2, h1.2, Prod.ext h2.2.1 h2.2.2⟩⟩
theorem row_facts {n : Nat} (h : n < 200) : (∀ x ∈ rowS (n + 1), x.toNat < 128 ∧ digB x.toNat = true) ∧ rowS (n + 1) ≠ [] ∧ rrG (rowS (n + 1)) = ((n : Int), true) := by
  have h1 := List.all_eq_true.1 row_bytes n (List.mem_range.2 h)
  have h2 := List.all_eq_true.1 rrG_row n (List.mem_range.2 h)
  simp only [Bool.and_eq_true, List.all_eq_true, decide_eq_true_eq, Bool.not_eq_true', beq_iff_eq, List.isEmpty_eq_false_iff] at h1 h2
  exact ⟨h1.1, h1.2, Prod.ext h2.1 h2.2⟩
/-- A right reference's text, its name in either way, its letters great or small, is read as it. -/
theorem readA_any {s : List UInt8} {r c : Int} {a b q g : Bool} (h : rightB ⟨s, r, c, a, b, false⟩ = true) (hq : q = false → plainF s s.length 0 = true) :
    let l := nmS q s ++ tlS a b (bcond g (colS c.toNat) (lowS c.toNat)) (rowS (r + 1).toNat)
    readA l = .tuple [Rf.v ⟨s, r, c, a, b, false⟩, .int .i64 0] := by
  have hb := right_bd h rfl
  simp only at hb
  obtain ⟨m, rfl⟩ : ∃ m : Nat, r = m := ⟨r.toNat, by omega⟩
  obtain ⟨n, rfl⟩ : ∃ n : Nat, c = n := ⟨c.toNat, by omega⟩
  have hc := col_facts (n := n) (by omega)
  have hr := row_facts (n := m) (by omega)
  have hs : s = [] ∨ sheetB s = true := by
    by_cases h0 : s = []
    · exact .inl h0
    · right
      unfold rightB at h
      rw [bcF rfl, Bool.and_eq_true] at h
      have hbb : (!(s == [])) = true := by rw [Bool.not_eq_true', beq_eq_false_iff_ne]; exact h0
      have := h.1
      simp only [hbb] at this
      exact this
  have e1 : ((m : Int) + 1).toNat = m + 1 := by omega
  rw [e1, Int.toNat_natCast]
  have hK : (∀ x ∈ bcond g (colS n) (lowS n), x.toNat < 128 ∧ letB x.toNat = true) ∧ bcond g (colS n) (lowS n) ≠ [] ∧ rcG (bcond g (colS n) (lowS n)) = ((n : Int), 0) := by
    cases g with
    | true => exact hc.1
    | false => exact hc.2
  generalize bcond g (colS n) (lowS n) = K at *
  have ht := tl_ne (a := a) (b := b) hK.1 hK.2.1 hr.1
  have hcs := cs_name hs hq ht.1 ht.2
  have := readA_tail hcs hK.1 hK.2.1 hr.1 hr.2.1 (by rw [hK.2.2]) (by rw [hr.2.2])
  show readA (nmS q s ++ tlS a b K (rowS (m + 1))) = _
  rw [this.2.2, hr.2.2, hK.2.2]; rfl
end Go.Proofs.YtanhlbdcjonaoaaDoor

/- Layer 2: Read undoes Text: the entry, and unlike references. -/
set_option linter.unusedVariables false
set_option linter.unusedSimpArgs false
namespace Go.Proofs.YtanhlbdcjonaoaaDoor
open Go Sx

theorem txt_eq {s : List UInt8} {r c : Int} {a b : Bool} : txtS ⟨s, r, c, a, b, false⟩ = nmS (!plainF s s.length 0) s ++ tlS a b (colS c.toNat) (rowS (r + 1).toNat) := by
  unfold txtS nmS tlS
  show bcond false _ _ = _
  rw [bcF rfl]
  have : wriS s = bcond (!plainF s s.length 0) (39 :: (dblS s ++ [39])) s := by
    unfold wriS
    cases plainF s s.length 0 <;> simp [bcond]
  simp only [this, List.append_assoc]
theorem right_bad {x : Rf} (h : rightB x = true) (hd : x.d = true) : x = ⟨[], 0, 0, false, false, true⟩ := by
  obtain ⟨s, r, c, a, b, d⟩ := x
  unfold rightB at h
  simp only at hd
  subst hd
  rw [bcT rfl] at h
  simp only [Bool.and_eq_true, beq_iff_eq, Bool.and_true] at h
  obtain ⟨rfl, rfl, rfl, rfl, rfl, _⟩ := h
  rfl
/-- Read undoes Text. -/
theorem back_ok {x : Rf} (h : rightB x = true) : readA (txtS x) = .tuple [x.v, .int .i64 0] := by
  cases hd : x.d with
  | true => rw [right_bad h hd]; rfl
  | false =>
    obtain ⟨s, r, c, a, b, d⟩ := x
    simp only at hd
    subst hd
    have := readA_any (q := !plainF s s.length 0) (g := true) h (fun e => by simpa using e)
    rw [txt_eq]
    exact this
theorem v_inj {x y : Rf} (h : x.v = y.v) : x = y := by
  obtain ⟨s, r, c, a, b, d⟩ := x
  obtain ⟨s', r', c', a', b', d'⟩ := y
  unfold Rf.v at h
  simp only [AV.agg.injEq, List.cons.injEq, AV.str.injEq, AV.int.injEq, AV.bool.injEq, true_and, and_true] at h
  obtain ⟨rfl, rfl, rfl, rfl, rfl, rfl⟩ := h
  rfl
/-- Unlike references are written in unlike ways. -/
theorem txt_inj {x y : Rf} (hx : rightB x = true) (hy : rightB y = true) : txtS x = txtS y ↔ x = y := by
  refine ⟨fun e => v_inj ?_, fun e => by rw [e]⟩
  have h1 := back_ok hx
  have h2 := back_ok hy
  rw [e, h2] at h1
  simp only [AV.tuple.injEq, List.cons.injEq, and_true] at h1
  exact h1.symm
end Go.Proofs.YtanhlbdcjonaoaaDoor

/- Layer 2: names between apostrophes, by the document's own answer. -/
set_option linter.unusedVariables false
set_option linter.unusedSimpArgs false
namespace Go.Proofs.YtanhlbdcjonaoaaDoor
open Go Sx

def st14 (l o : List UInt8) (i : Int) : PState := ⟨some (.str l) :: none :: some (.str []) :: some (.str o) :: some (.int .i64 i) :: List.replicate 21 none, List.replicate 64 none⟩
def fin14 (o : List UInt8) : PState := ⟨none :: none :: some (.str []) :: some (.str o) :: List.replicate 22 none, List.replicate 64 none⟩
def pc14 (l : List UInt8) (p : Int) : List UInt8 := List.take ((IntKind.i64.wrap (p + 1)).toNat - p.toNat) (List.drop p.toNat l)
theorem round14 (l o : List UInt8) (p : Nat) : code (ent (R := Ex × PState) Tryd.prog tab0 nolv 64 18446744073709551616 30) Tryd.prog {} 0 64 18446744073709551616 ((loopBodies (bodyOf Tryd.f14)).headD .skip) (st14 l o p) (endK 0 64 (fun n => hasN [0, 2, 3, 4] n) (fun n => hasN [2, 3] n)) =
    bcond (decide ((p : Int) < (l.length : Int))) (bcond (decide (0 ≤ (p : Int) ∧ 0 ≤ IntKind.i64.wrap ((p : Int) + 1) ∧ (p : Int).toNat ≤ (IntKind.i64.wrap ((p : Int) + 1)).toNat ∧ (IntKind.i64.wrap ((p : Int) + 1)).toNat ≤ l.length))
      (bcond (decide (o.length + (pc14 l p).length ≤ 9223372036854775807)) (bcond (decide (0 ≤ (p : Int) ∧ (p : Int).toNat < l.length)) (bcond (byteAt l (p : Int).toNat == 39)
        (bcond (decide ((o ++ pc14 l p).length + [(39 : UInt8)].length ≤ 9223372036854775807)) (some (.normal, st14 l (o ++ pc14 l p ++ [39]) (IntKind.i64.wrap ((p : Int) + 1)))) none)
        (some (.normal, st14 l (o ++ pc14 l p) (IntKind.i64.wrap ((p : Int) + 1))))) none) none) none) (some (.exit 0, fin14 o)) := by kernel_rfl
theorem dbl_append : ∀ (a b : List UInt8), dblS (a ++ b) = dblS a ++ dblS b
  | [], b => rfl
  | x :: a, b => by
    rw [List.cons_append, dblS, dblS, dbl_append a b]
    split <;> rfl
theorem loop14 (l : List UInt8) (hl : l.length ≤ 1000000) : Tri Tryd.prog (.loop ((loopBodies (bodyOf Tryd.f14)).headD .skip)) (st14 l [39] 0).toA (.exit 0) (fin14 (39 :: dblS l)).toA 0 := by
  refine loop_rounds (ι := { p : Nat // p ≤ l.length }) (ent_sound (NF := 64) (m := 18446744073709551616) tab0_ok host nolv_ok 30) (lv := {}) (NF := 64) (m := 18446744073709551616) (fun x hx id e h1 h2 => by cases h2) (fun n => hasN [0, 2, 3, 4] n) (fun n => hasN [2, 3] n) (fun p => st14 l (39 :: dblS (l.take p.1)) (p.1 : Int)) (fun p => l.length - p.1) (fun p => (.exit 0, fin14 (39 :: dblS l))) ?_ (fun p => by simp) ⟨0, Nat.zero_le _⟩
  rintro ⟨p, hp⟩
  simp only
  rw [round14]
  by_cases h : p < l.length
  · have hw : IntKind.i64.wrap ((p : Int) + 1) = ((p + 1 : Nat) : Int) := by rw [i64_in (by omega) (by omega)]; rfl
    have hpc : pc14 l p = [l[p]] := by
      unfold pc14
      rw [hw, Int.toNat_natCast, Int.toNat_natCast, show p + 1 - p = 1 by omega, List.drop_eq_getElem_cons h]; rfl
    have hd : (39 :: dblS (l.take p)).length ≤ 2 * l.length + 1 := by
      have := dbl_len (l.take p)
      rw [List.length_take] at this
      simp only [List.length_cons]; omega
    have ht : l.take (p + 1) = l.take p ++ [l[p]] := by rw [List.take_succ_eq_append_getElem h]
    have hb : byteAt l p = ((l[p]).toNat : Int) := by unfold byteAt; simp [h]
    rw [hpc, hw, bcT (b := decide ((p : Int) < (l.length : Int))) (decide_eq_true (by omega)), bcT (b := decide (0 ≤ (p : Int) ∧ _)) (by rw [decide_eq_true_eq]; omega), bcT (b := decide (_ + [l[p]].length ≤ _)) (decide_eq_true (by simp only [List.length_cons, List.length_nil] at hd ⊢; omega)),
      bcT (b := decide (0 ≤ (p : Int) ∧ _)) (by rw [decide_eq_true_eq]; omega), Int.toNat_natCast, hb]
    refine .inl ⟨⟨p + 1, h⟩, by simp only; omega, trivial, ?_⟩
    rw [ht, dbl_append]
    by_cases hc : l[p] = 39
    · rw [hc, bcT (b := (((39 : UInt8).toNat : Int) == 39)) rfl, bcT (b := decide (_ + [(39 : UInt8)].length ≤ _)) (decide_eq_true (by simp only [List.length_append, List.length_cons, List.length_nil] at hd ⊢; omega))]
      simp [dblS]
    · rw [bcF (b := (((l[p]).toNat : Int) == 39)) (by
        rw [beq_eq_false_iff_ne]; intro e; apply hc
        have : (l[p]).toNat = 39 := by omega
        exact UInt8.toNat_inj.1 (by rw [this]; rfl))]
      simp [dblS, hc]
  · right
    have : p = l.length := by omega
    subst this
    rw [bcF (b := decide _) (decide_eq_false (by omega)), List.take_length]
end Go.Proofs.YtanhlbdcjonaoaaDoor

/- Layer 2: names between apostrophes, by the document's own answer: the entry. -/
set_option linter.unusedVariables false
set_option linter.unusedSimpArgs false
namespace Go.Proofs.YtanhlbdcjonaoaaDoor
open Go Sx

def e14 : Nat → PState → LAns := fun K t => match K, t with
  | 0, ⟨some (.str l) :: none :: some (.str []) :: some (.str [39]) :: some (.int .i64 i) :: rs, rm⟩ =>
    .chk (nonesV 21 rs) (.chk (nonesB 64 rm) (.chk (decide (i = 0)) (.chk (decide (l.length ≤ 1000000)) (.out (.exit 0) (fin14 (39 :: dblS l))))))
  | _, _ => .fail
def lv14 : FuncId → Lv := fun f => match f with
  | 14 => { keep := fun _ => some [0, 2, 3, 4], ent := fun i => match i with | 3 => some e14 | _ => none }
  | _ => {}
theorem lv14_ok : LvOK Tryd.prog lv14 := by
  intro f fn body hf hb K x hx id e hid he t
  by_cases h : f = 14
  · subst h
    obtain rfl : fn = Tryd.f14 := (Option.some.inj (Tryd.func14.symm.trans hf)).symm
    have hbody : body = bodyOf Tryd.f14 := by unfold bodyOf; rw [hb]; rfl
    subst hbody
    have h1 : loopBodies (bodyOf Tryd.f14) = [(loopBodies (bodyOf Tryd.f14)).headD .skip] := by kernel_rfl
    rw [h1] at hx
    have hx' := List.mem_singleton.1 hx
    have h2 : id = 3 := by
      have h3 : headReg ((loopBodies (bodyOf Tryd.f14)).headD .skip) = some 3 := by kernel_rfl
      rw [hx', h3] at hid; exact (Option.some.inj hid).symm
    subst h2
    have he' : e14 = e := Option.some.inj he
    subst he'
    rw [hx']
    clear hx hx' hid he hb hf h1
    unfold e14
    split
    · rename_i l i rs rm
      refine ⟨fun g1 => ⟨fun g2 => ⟨fun g3 => ⟨fun g4 => ?_, fun _ => trivial⟩, fun _ => trivial⟩, fun _ => trivial⟩, fun _ => trivial⟩
      rw [nonesV_eq _ _ g1, nonesB_eq _ _ g2, of_decide_eq_true g3]
      exact loop14 l (of_decide_eq_true g4)
    · trivial
  · exfalso
    have : (lv14 f).ent id = none := by
      unfold lv14
      split
      · exact absurd rfl h
      · rfl
    rw [this] at he; cases he
def eQuoted : Ent := fun args pre => match args, pre with
  | [.str l], [] => .chk (decide (l.length ≤ 1000000)) (.ret (.str (39 :: (dblS l ++ [39]))) [])
  | _, _ => .fail
theorem quoted_ok : EntOK Tryd.prog 14 eQuoted := fun args pre => by
  unfold eQuoted
  split
  · rename_i l
    have e : Comes tab0 lv14 14 [.str l] [] (.chk (decide (l.length ≤ 1000000)) (.br (decide ((39 :: dblS l).length + [(39 : UInt8)].length ≤ 9223372036854775807)) (.ret (.str (39 :: dblS l ++ [39])) []) .fail)) := by unfold Comes; kernel_rfl
    refine of_run (ans_comes tab0_ok e lv14_ok) fun r h => ?_
    obtain ⟨h1, h⟩ := chk_run h
    have hl := of_decide_eq_true h1
    have := dbl_len l
    rw [← h]
    simp only [Ans.run, Ans.chk]
    rw [bcT h1, bcT (b := decide ((39 :: dblS l).length + _ ≤ _)) (decide_eq_true (by simp only [List.length_cons, List.length_nil]; omega))]
    rfl
  · trivial
end Go.Proofs.YtanhlbdcjonaoaaDoor

/- Layer 2: texts, read and written, by functions that are not looked into. -/
set_option linter.unusedVariables false
set_option linter.unusedSimpArgs false
namespace Go.Proofs.YtanhlbdcjonaoaaDoor
open Go Sx

def entTx (ok : Rf → Bool) (W : Rf → List UInt8) (w : Rf → Int) : Ent := fun args pre => match args, pre with
  | [.agg [.str s, .int .i64 r, .int .i64 c, .bool a, .bool b, .bool d]], [] => .chk (ok ⟨s, r, c, a, b, d⟩) (.ret (.tuple [.str (W ⟨s, r, c, a, b, d⟩), .int .i64 (w ⟨s, r, c, a, b, d⟩)]) [])
  | _, _ => .fail
def entRd (G : List UInt8 → Rf) (g : List UInt8 → Int) : Ent := fun args pre => match args, pre with
  | [.str l], [] => .chk (decide (l.length ≤ 1000000)) (.ret (.tuple [(G l).v, .int .i64 (g l)]) [])
  | _, _ => .fail
def entQ (Q : List UInt8 → List UInt8) : Ent := fun args pre => match args, pre with
  | [.str l], [] => .chk (decide (l.length ≤ 1000000)) (.ret (.str (Q l)) [])
  | _, _ => .fail
def okT (x : Rf) : Bool := decide (x.s.length ≤ 100000)
def txV (x : Rf) : List UInt8 := bcond (rightB x) (txtS x) []
def txE (x : Rf) : Int := bcond (rightB x) 0 20
def rdC (l : List UInt8) : Bool := (csS l).2.2 && (rcG (colA l)).2 == 0 && (rrG (rowA l)).2 && trimF digB (rowP csS (trimF letB) l) == []
def rdX (l : List UInt8) : Rf := ⟨(csS l).1, (rrG (rowA l)).1, (rcG (colA l)).1, cpB 36 (trimF letB (colP csS l)), cpB 36 (csS l).2.1, false⟩
def torn : Rf := ⟨[], 0, 0, false, false, true⟩
def rdV (l : List UInt8) : Rf := bcond (l == [35, 82, 69, 70, 33]) torn (bcond (rdC l) (rdX l) noRf)
def rdE (l : List UInt8) : Int := bcond (l == [35, 82, 69, 70, 33]) 0 (bcond (rdC l) 0 20)
theorem readA_eq (l : List UInt8) : readA l = .tuple [(rdV l).v, .int .i64 (rdE l)] := by
  unfold readA readS rdV rdE rdC
  cases l == [35, 82, 69, 70, 33] with
  | true => rfl
  | false =>
    simp only [bcond]
    show (match (csS l).2.2 && (rcG (colA l)).2 == 0 && (rrG (rowA l)).2 && trimF digB (rowP csS (trimF letB) l) == [] with | true => _ | false => _) = _
    cases (csS l).2.2 && (rcG (colA l)).2 == 0 && (rrG (rowA l)).2 && trimF digB (rowP csS (trimF letB) l) == [] <;> rfl
theorem ent_tx : entTx okT txV txE = eText := by funext args pre; unfold entTx eText; rfl
theorem rdG_ok : EntOK Tryd.prog 13 (entRd rdV rdE) := fun args pre => by
  unfold entRd
  split
  · rename_i l
    have h := read_ok [.str l] []
    rw [show eRead [.str l] [] = .chk (decide (l.length ≤ 1000000)) (.ret (readA l) []) from rfl, readA_eq] at h
    exact h
  · trivial
theorem ent_q : entQ (fun l => 39 :: (dblS l ++ [39])) = eQuoted := by funext args pre; unfold entQ eQuoted; rfl
def tabB (F : Rf → Rf) (ok : Rf → Bool) (W : Rf → List UInt8) (w : Rf → Int) (G : List UInt8 → Rf) (g : List UInt8 → Int) (Q : List UInt8 → List UInt8) : Tab :=
  (10, eTrue) :: (11, entRef F) :: (12, entTx ok W w) :: (13, entRd G g) :: (14, entQ Q) :: tab11
theorem tabB_ok : TabOK Tryd.prog (tabB refS okT txV txE rdV rdE fun l => 39 :: (dblS l ++ [39])) :=
  .cons awake_ok (.cons refOf_ok (.cons (ent_tx ▸ text_ok) (.cons rdG_ok (.cons (ent_q ▸ quoted_ok) tab11_ok))))
end Go.Proofs.YtanhlbdcjonaoaaDoor

/- RefBack: the state of its loop. -/
set_option linter.unusedVariables false
set_option linter.unusedSimpArgs false
namespace Go.Proofs.YtanhlbdcjonaoaaDoor
open Go Sx
def objR (X : Rf) : PObj := .raw (.cells [.str X.s, .int .i64 X.r, .int .i64 X.c, .bool X.a, .bool X.b, .bool X.d] 23)
def st3 (X : Rf) (h : Int) (l : List UInt8) (n : Nat) (i : Int) : PState :=
  ⟨none :: none :: none :: none :: none :: some (.bool true) :: some (.ptr 0 0) :: none :: none :: none :: none :: none :: none :: none :: none :: none :: some (.int .i64 h) :: some (.vec 1 n) :: some (.int .i64 i) :: List.replicate 134 none,
   some (objR X) :: some (.vecB l 5) :: List.replicate 64 none⟩
def fin3 (X : Rf) (h : Int) (l : List UInt8) (n : Nat) : PState :=
  ⟨none :: none :: none :: none :: none :: some (.bool true) :: some (.ptr 0 0) :: none :: none :: none :: none :: none :: none :: none :: none :: none :: some (.int .i64 h) :: some (.vec 1 n) :: List.replicate 135 none,
   some (objR X) :: some (.vecB l 5) :: List.replicate 64 none⟩
end Go.Proofs.YtanhlbdcjonaoaaDoor

/- RefBack: its loop, that makes small letters. -/
set_option linter.unusedVariables false
set_option linter.unusedSimpArgs false
namespace Go.Proofs.YtanhlbdcjonaoaaDoor
open Go Sx

def dnB (x : UInt8) : UInt8 := bcond (decide (65 ≤ x.toNat ∧ x.toNat ≤ 90)) (UInt8.ofNat (x.toNat + 32)) x
def dnW (l : List UInt8) (p : Int) : Int := IntKind.u8.wrap (byteAt l (p.toNat * 1) + 32)
def dnN (X : Rf) (h : Int) (l : List UInt8) (n : Nat) (p : Int) : Option (Ex × PState) := some (.normal, st3 X h l n (IntKind.i64.wrap (p + 1)))
def inB (p n : Int) (l : List UInt8) (x : Option (Ex × PState)) : Option (Ex × PState) := bcond (decide (0 ≤ p ∧ p < n)) (bcond (decide (p.toNat * 1 < l.length)) x none) none
theorem round3 (X : Rf) (h : Int) (l : List UInt8) (n p : Nat) : code (ent (R := Ex × PState) Tryd.prog tab0 nolv 64 18446744073709551616 30) Tryd.prog {} 0 64 18446744073709551616 ((loopBodies (bodyOf Tryd.f3)).headD .skip) (st3 X h l n p) (endK 0 64 (fun n => hasN [5, 6, 16, 17, 18] n) (fun n => hasN [5, 6, 16, 17] n)) =
    bcond (decide ((p : Int) < (n : Int))) (inB p n l (bcond (decide (byteAt l ((p : Int).toNat * 1) ≥ 65))
      (inB p n l (bcond (decide (byteAt l ((p : Int).toNat * 1) ≤ 90))
        (inB p n l (bcond (decide (0 ≤ (p : Int) ∧ (p : Int) < (n : Int))) (bcond (decide ((p : Int).toNat * 1 < l.length) && decide (0 ≤ dnW l p ∧ dnW l p < 256)) (dnN X h (l.set ((p : Int).toNat * 1) (toByte (dnW l p))) n p) none) none))
        (dnN X h l n p)))
      (dnN X h l n p))) (some (.exit 0, fin3 X h l n)) := by kernel_rfl
theorem inB_ok {p n : Nat} {l : List UInt8} {x : Option (Ex × PState)} (h1 : p < n) (h2 : p < l.length) : inB p n l x = x := by
  unfold inB
  rw [bcT (decide_eq_true (by omega)), bcT (decide_eq_true (by omega))]

def lwS (l : List UInt8) (p : Nat) : List UInt8 := (l.take p).map dnB ++ l.drop p
theorem lw_at {l : List UInt8} {p : Nat} (h : p < l.length) : lwS l p = (l.take p).map dnB ++ l[p] :: l.drop (p + 1) := by
  unfold lwS; rw [List.drop_eq_getElem_cons h]
theorem lw_next {l : List UInt8} {p : Nat} (h : p < l.length) : lwS l (p + 1) = (l.take p).map dnB ++ dnB l[p] :: l.drop (p + 1) := by
  unfold lwS; rw [List.take_succ_eq_append_getElem h, List.map_append, List.append_assoc]; rfl
theorem lw_len {l : List UInt8} {p : Nat} (h : p ≤ l.length) : (lwS l p).length = l.length := by
  unfold lwS; simp; omega
theorem dn_great {x : UInt8} (h : 65 ≤ x.toNat ∧ x.toNat ≤ 90) : toByte (IntKind.u8.wrap ((x.toNat : Int) + 32)) = dnB x ∧ (0 ≤ IntKind.u8.wrap ((x.toNat : Int) + 32) ∧ IntKind.u8.wrap ((x.toNat : Int) + 32) < 256) := by
  have e : IntKind.u8.wrap ((x.toNat : Int) + 32) = (x.toNat : Int) + 32 := u8_in (by omega) (by omega)
  rw [e]
  refine ⟨?_, by omega, by omega⟩
  unfold dnB toByte
  rw [bcT (decide_eq_true h)]
  congr 1
theorem loop3 (X : Rf) (h : Int) (l : List UInt8) (hl : l.length ≤ 9223372036854775807) : Tri Tryd.prog (.loop ((loopBodies (bodyOf Tryd.f3)).headD .skip)) (st3 X h l l.length 0).toA (.exit 0) (fin3 X h (l.map dnB) l.length).toA 0 := by
  have h0 : l = lwS l 0 := by unfold lwS; simp
  have key := loop_rounds (ι := { p : Nat // p ≤ l.length }) (ent_sound (NF := 64) (m := 18446744073709551616) tab0_ok host nolv_ok 30) (x := (loopBodies (bodyOf Tryd.f3)).headD .skip) (K := 0) (lv := {}) (NF := 64) (m := 18446744073709551616) (fun x hx id e h1 h2 => by cases h2) (fun n => hasN [5, 6, 16, 17, 18] n) (fun n => hasN [5, 6, 16, 17] n) (fun p => st3 X h (lwS l p.1) l.length (p.1 : Int)) (fun p => l.length - p.1) (fun p => (.exit 0, fin3 X h (l.map dnB) l.length)) ?_ (fun p => by simp) ⟨0, Nat.zero_le _⟩
  · simp only at key
    rw [← h0] at key
    exact key
  rintro ⟨p, hp⟩
  simp only
  rw [round3]
  by_cases hlt : p < l.length
  · have hlt' : p < (lwS l p).length := by rw [lw_len hp]; exact hlt
    have hw : IntKind.i64.wrap ((p : Int) + 1) = ((p + 1 : Nat) : Int) := by rw [i64_in (by omega) (by omega)]; rfl
    have htl : ((l.take p).map dnB).length = p := by simp; omega
    have hb : byteAt (lwS l p) ((p : Int).toNat * 1) = (l[p].toNat : Int) := by rw [Nat.mul_one, Int.toNat_natCast, lw_at hlt]; exact byte_mid _ _ _ htl
    have hW : dnW (lwS l p) p = IntKind.u8.wrap ((l[p].toNat : Int) + 32) := by unfold dnW; rw [hb]
    have hset : (lwS l p).set ((p : Int).toNat * 1) (dnB l[p]) = lwS l (p + 1) := by rw [Nat.mul_one, Int.toNat_natCast, lw_at hlt, lw_next hlt, set_mid _ _ _ _ htl]
    unfold dnN
    rw [hw, hb, hW, inB_ok hlt hlt', inB_ok hlt hlt', inB_ok hlt hlt', bcT (b := decide ((p : Int) < (l.length : Int))) (decide_eq_true (by omega))]
    refine .inl ⟨⟨p + 1, hlt⟩, by simp only; omega, trivial, ?_⟩
    by_cases h1 : 65 ≤ l[p].toNat
    · rw [bcT (b := decide ((l[p].toNat : Int) ≥ 65)) (decide_eq_true (by omega))]
      by_cases h2 : l[p].toNat ≤ 90
      · have hs := dn_great (x := l[p]) ⟨h1, h2⟩
        rw [bcT (b := decide ((l[p].toNat : Int) ≤ 90)) (decide_eq_true (by omega)), bcT (b := decide (0 ≤ (p : Int) ∧ _)) (by rw [decide_eq_true_eq]; omega), bcT (b := _ && _) (by rw [Nat.mul_one, Int.toNat_natCast, decide_eq_true hlt', decide_eq_true hs.2]; rfl), hs.1, hset]
      · have hu : dnB l[p] = l[p] := by unfold dnB; rw [bcF (decide_eq_false (by omega))]
        rw [bcF (b := decide ((l[p].toNat : Int) ≤ 90)) (decide_eq_false (by omega)), lw_next hlt, hu, lw_at hlt]
    · have hu : dnB l[p] = l[p] := by unfold dnB; rw [bcF (decide_eq_false (by omega))]
      rw [bcF (b := decide ((l[p].toNat : Int) ≥ 65)) (decide_eq_false (by omega)), lw_next hlt, hu, lw_at hlt]
  · right
    have : p = l.length := by omega
    subst this
    rw [bcF (b := decide _) (decide_eq_false (by omega))]
    have : lwS l l.length = l.map dnB := by unfold lwS; simp
    rw [this]

def e3 : Nat → PState → LAns := fun K t => match K, t with
  | 0, ⟨none :: none :: none :: none :: none :: some (.bool true) :: some (.ptr 0 0) :: none :: none :: none :: none :: none :: none :: none :: none :: none :: some (.int .i64 h) :: some (.vec 1 n) :: some (.int .i64 i) :: rs,
      some (.raw (.cells [.str s, .int .i64 r, .int .i64 c, .bool a, .bool b, .bool d] 23)) :: some (.vecB l 5) :: rm⟩ =>
    .chk (nonesV 134 rs) (.chk (nonesB 64 rm) (.chk (decide (n = l.length ∧ i = 0 ∧ l.length ≤ 9223372036854775807)) (.out (.exit 0) (fin3 ⟨s, r, c, a, b, d⟩ h (l.map dnB) l.length))))
  | _, _ => .fail
def lv3 : FuncId → Lv := fun f => match f with
  | 3 => { keep := fun _ => some [5, 6, 16, 17, 18], ent := fun i => match i with | 14 => some e3 | _ => none }
  | _ => {}
theorem lv3_ok : LvOK Tryd.prog lv3 := by
  intro f fn body hf hb K x hx id e hid he t
  by_cases h : f = 3
  · subst h
    obtain rfl : fn = Tryd.f3 := (Option.some.inj (Tryd.func3.symm.trans hf)).symm
    have hbody : body = bodyOf Tryd.f3 := by unfold bodyOf; rw [hb]; rfl
    subst hbody
    have h1 : loopBodies (bodyOf Tryd.f3) = [(loopBodies (bodyOf Tryd.f3)).headD .skip] := by kernel_rfl
    rw [h1] at hx
    have hx' := List.mem_singleton.1 hx
    have h2 : id = 14 := by
      have h3 : headReg ((loopBodies (bodyOf Tryd.f3)).headD .skip) = some 14 := by kernel_rfl
      rw [hx', h3] at hid; exact (Option.some.inj hid).symm
    subst h2
    have he' : e3 = e := Option.some.inj he
    subst he'
    rw [hx']
    clear hx hx' hid he hb hf h1
    unfold e3
    split
    · rename_i h n i rs s r c a b d l rm
      refine ⟨fun g1 => ⟨fun g2 => ⟨fun g3 => ?_, fun _ => trivial⟩, fun _ => trivial⟩, fun _ => trivial⟩
      obtain ⟨k1, k2, k3⟩ := of_decide_eq_true g3
      subst k1; subst k2
      rw [nonesV_eq _ _ g1, nonesB_eq _ _ g2]
      exact loop3 ⟨s, r, c, a, b, d⟩ h l k3
    · trivial
  · exfalso
    have : (lv3 f).ent id = none := by
      unfold lv3
      split
      · exact absurd rfl h
      · rfl
    rw [this] at he; cases he
end Go.Proofs.YtanhlbdcjonaoaaDoor

/- RefBack is so. -/
set_option linter.unusedVariables false
set_option linter.unusedSimpArgs false
namespace Go.Proofs.YtanhlbdcjonaoaaDoor
open Go Sx

def rfB (X Y : Rf) : Bool := X.s == Y.s && (X.r == Y.r && (X.c == Y.c && (X.a == Y.a && (X.b == Y.b && (X.d == Y.d && true)))))
theorem rfB_iff {X Y : Rf} : rfB X Y = true ↔ X = Y := by
  obtain ⟨s, r, c, a, b, d⟩ := X
  obtain ⟨s', r', c', a', b', d'⟩ := Y
  unfold rfB
  simp only [Bool.and_eq_true, beq_iff_eq, Bool.and_true, Rf.mk.injEq]
theorem rfB_self (X : Rf) : rfB X X = true := rfB_iff.2 rfl
def bare (X : Rf) : Rf := ⟨[], X.r, X.c, X.a, X.b, X.d⟩
def noB : Ans := .ret (.bool false) []
def earlyT (X : Rf) (l : List UInt8) (Y : Rf) (e : Int) : Ans := .br X.d (.br (l == [35, 82, 69, 70, 33]) (.br (rfB Y X) (.ret (.bool (e == 0)) []) noB) noB) noB
def finT (X : Rf) (h : Int) (Y : Rf) (e : Int) : Ans := .br (h == 0) (.br (e == 0) (.ret (.bool (rfB Y X)) []) noB) noB
def tailT (G : List UInt8 → Rf) (g : List UInt8 → Int) (Q : List UInt8 → List UInt8) (X : Rf) (h : Int) (l : List UInt8) (n : Nat) : Ans :=
  .br (decide (n ≤ l.length)) (.br (!(X.s == [])) (.br (decide (X.s.length ≤ 1000000)) (.br (decide ((Q X.s).length + [(33 : UInt8)].length ≤ 9223372036854775807)) (.br (decide ((Q X.s ++ [33]).length + (List.take n l).length ≤ 9223372036854775807))
    (.br (decide ((Q X.s ++ [33] ++ List.take n l).length ≤ 1000000)) (finT X h (G (Q X.s ++ [33] ++ List.take n l)) (g (Q X.s ++ [33] ++ List.take n l))) .fail) .fail) .fail) .fail)
    (.br (decide ((List.take n l).length ≤ 1000000)) (finT X h (G (List.take n l)) (g (List.take n l))) .fail)) .fail
def bkT (ok : Rf → Bool) (W : Rf → List UInt8) (w : Rf → Int) (G : List UInt8 → Rf) (g : List UInt8 → Int) (Q : List UInt8 → List UInt8) (X Y : Rf) : Ans :=
  .br (ok X) (.br (ok Y) (.br (decide ((W X).length ≤ 1000000)) (.br (w X != 0) (earlyT X (W X) (G (W X)) (g (W X))) (.br (w Y != 0) (earlyT X (W X) (G (W X)) (g (W X))) (.br (g (W X) != 0) (earlyT X (W X) (G (W X)) (g (W X)))
    (.br (!(rfB (G (W X)) X)) (earlyT X (W X) (G (W X)) (g (W X))) (.br (!((W X == W Y) == rfB X Y)) (earlyT X (W X) (G (W X)) (g (W X))) (.br X.d (earlyT X (W X) (G (W X)) (g (W X)))
      (.br (ok (bare X)) (.chk (decide ((W (bare X)).length = (W (bare X)).length ∧ (0 : Int) = 0 ∧ (W (bare X)).length ≤ 9223372036854775807)) (tailT G g Q X (w (bare X)) ((W (bare X)).map dnB) (W (bare X)).length)) .fail))))))) .fail) .fail) .fail
theorem back_comes (F : Rf → Rf) (ok : Rf → Bool) (W : Rf → List UInt8) (w : Rf → Int) (G : List UInt8 → Rf) (g : List UInt8 → Int) (Q : List UInt8 → List UInt8) (s s2 : List UInt8) (r c r2 c2 : Int) (a b d a2 b2 d2 : Bool) :
    Comes (tabB F ok W w G g Q) lv3 3 [.agg [.str s, .int .i64 r, .int .i64 c, .bool a, .bool b, .bool d], .agg [.str s2, .int .i64 r2, .int .i64 c2, .bool a2, .bool b2, .bool d2]] []
      (.br (inI r && inI c && decide (s.length ≤ 9223372036854775807)) (.br (inI r2 && inI c2 && decide (s2.length ≤ 9223372036854775807)) (bkT ok W w G g Q (F ⟨s, r, c, a, b, d⟩) (F ⟨s2, r2, c2, a2, b2, d2⟩)) .fail) .fail) := by unfold Comes; kernel_rfl

theorem sheet_len {l : List UInt8} (h : sheetB l = true) : l.length ≤ 30 := by
  unfold sheetB at h
  rw [Bool.and_eq_true, Bool.and_eq_true] at h
  exact of_decide_eq_true h.1.2
theorem name_len {X : Rf} (h : rightB X = true) : X.s.length ≤ 30 := by
  unfold rightB at h
  cases hd : X.d with
  | true =>
    rw [bcT hd] at h
    simp only [Bool.and_eq_true, beq_iff_eq] at h
    rw [h.1]; exact Nat.zero_le _
  | false =>
    rw [bcF hd, Bool.and_eq_true] at h
    by_cases h0 : X.s = []
    · rw [h0]; exact Nat.zero_le _
    · have hb : (!(X.s == [])) = true := by rw [Bool.not_eq_true', beq_eq_false_iff_ne]; exact h0
      rw [bcT hb] at h
      exact sheet_len h.1
theorem bare_right {X : Rf} (h : rightB X = true) (hd : X.d = false) : rightB (bare X) = true := by
  have hb := right_bd h hd
  unfold rightB bare
  simp only
  rw [bcF hd]
  show (true && _) = true
  rw [Bool.true_and, decide_eq_true_eq]; exact hb
theorem low_col : (List.range 52).all (fun n => (colS n).map dnB == lowS n) = true := by kernel_rfl
theorem low_row : (List.range 200).all (fun n => (rowS (n + 1)).map dnB == rowS (n + 1)) = true := by kernel_rfl
theorem low_tl {m n : Nat} (h : m < 200) (k : n < 52) (a b : Bool) : (tlS a b (colS n) (rowS (m + 1))).map dnB = tlS a b (lowS n) (rowS (m + 1)) := by
  have h1 := beq_iff_eq.1 (List.all_eq_true.1 low_row m (List.mem_range.2 h))
  have h2 := beq_iff_eq.1 (List.all_eq_true.1 low_col n (List.mem_range.2 k))
  unfold tlS
  rw [List.map_append, List.map_append, List.map_append, h1, h2]
  cases a <;> cases b <;> rfl
theorem col_len2 (n : Nat) : (lowS n).length ≤ 2 := by unfold lowS; rw [List.length_map]; exact (col_len n).2
theorem rd_of {l : List UInt8} {X : Rf} (h : readA l = .tuple [X.v, .int .i64 0]) : rdV l = X ∧ rdE l = 0 := by
  rw [readA_eq] at h
  simp only [AV.tuple.injEq, List.cons.injEq, AV.int.injEq, true_and, and_true] at h
  exact ⟨v_inj h.1, h.2⟩
theorem bkT_true {X Y : Rf} (hX : rightB X = true) (hY : rightB Y = true) : (bkT okT txV txE rdV rdE (fun l => 39 :: (dblS l ++ [39])) X Y).run pure2 = some (.bool true, []) := by
  have lX := name_len hX
  have lY := name_len hY
  have oX : okT X = true := decide_eq_true (by omega)
  have oY : okT Y = true := decide_eq_true (by omega)
  have tX : txV X = txtS X := by unfold txV; rw [bcT hX]
  have tY : txV Y = txtS Y := by unfold txV; rw [bcT hY]
  have eX : txE X = 0 := by unfold txE; rw [bcT hX]
  have eY : txE Y = 0 := by unfold txE; rw [bcT hY]
  have hr := rd_of (back_ok hX)
  have len : ∀ {Z : Rf}, rightB Z = true → (txtS Z).length ≤ 1000 := fun {Z} hZ => by
    have := name_len hZ
    unfold txtS
    cases Z.d with
    | true => simp [bcond]
    | false =>
      have h1 := (col_len Z.c.toNat).2
      have h2 := (row_len (Z.r + 1).toNat).2
      have h3 : ∀ (b : Bool) (x : List UInt8) (n : Nat), x.length ≤ n → (bcond b x []).length ≤ n := fun b x n hx => by cases b <;> simp [bcond]; exact hx
      have h4 : (wriS Z.s).length ≤ 62 := by
        by_cases h0 : Z.s = []
        · rw [h0]; exact Nat.le_of_ble_eq_true rfl
        · have := (wri_len h0).2; omega
      have h5 := h3 (!(Z.s == [])) (wriS Z.s ++ [33]) 63 (by simp only [List.length_append, List.length_cons, List.length_nil]; omega)
      have h6 := h3 Z.b [36] 1 (by simp)
      have h7 := h3 Z.a [36] 1 (by simp)
      simp only [bcond, List.length_append] at *
      omega
  have hl := len hX
  have hinj : ((txtS X == txtS Y) == rfB X Y) = true := by
    rw [beq_iff_eq]
    by_cases e : X = Y
    · rw [e, rfB_self]; simp
    · have h1 : rfB X Y = false := Bool.eq_false_iff.2 fun h => e (rfB_iff.1 h)
      rw [h1, beq_eq_false_iff_ne]
      exact fun h => e ((txt_inj hX hY).1 h)
  unfold bkT
  simp only [Ans.run]
  rw [oX, bcT rfl, oY, bcT rfl, tX, tY, bcT (b := decide ((txtS X).length ≤ 1000000)) (decide_eq_true (by omega)), eX, eY, hr.1, hr.2, rfB_self, hinj]
  rw [bcF (b := ((0 : Int) != 0)) rfl, bcF (b := ((0 : Int) != 0)) rfl, bcF (b := ((0 : Int) != 0)) rfl, bcF (b := !true) rfl, bcF (b := !true) rfl]
  cases hd : X.d with
  | true =>
    have := right_bad hX hd
    subst this
    rfl
  | false =>
    rw [bcF rfl]
    have hB := bare_right hX hd
    have oB : okT (bare X) = true := decide_eq_true (by simp [bare])
    have tB : txV (bare X) = txtS (bare X) := by unfold txV; rw [bcT hB]
    have eB : txE (bare X) = 0 := by unfold txE; rw [bcT hB]
    have hbd := right_bd hX hd
    obtain ⟨s, r, c, a, b, d⟩ := X
    simp only at hd hbd
    subst hd
    obtain ⟨m, rfl⟩ : ∃ m : Nat, r = m := ⟨r.toNat, by omega⟩
    obtain ⟨n, rfl⟩ : ∃ n : Nat, c = n := ⟨c.toNat, by omega⟩
    have tb : txtS (bare ⟨s, m, n, a, b, false⟩) = tlS a b (colS n) (rowS (m + 1)) := by
      unfold bare
      rw [txt_eq, show nmS (!plainF [] ([] : List UInt8).length 0) [] = [] from rfl, List.nil_append, Int.toNat_natCast, show ((m : Int) + 1).toNat = m + 1 by omega]
    have hlb := len hB
    have hlow := low_tl (m := m) (n := n) (by omega) (by omega) a b
    have hrd := readA_any (s := s) (r := m) (c := n) (a := a) (b := b) (q := true) (g := false) hX (fun e => by cases e)
    simp only [bcond, Int.toNat_natCast, show ((m : Int) + 1).toNat = m + 1 by omega] at hrd
    have hrd2 := rd_of hrd
    rw [oB, bcT rfl, tB, eB, tb, hlow]
    rw [tb] at hlb
    have hL : (tlS a b (lowS n) (rowS (m + 1))).length = (tlS a b (colS n) (rowS (m + 1))).length := by rw [← hlow, List.length_map]
    have htake : List.take (tlS a b (colS n) (rowS (m + 1))).length (tlS a b (lowS n) (rowS (m + 1))) = tlS a b (lowS n) (rowS (m + 1)) := by rw [← hL, List.take_length]
    have hq : (39 :: (dblS s ++ [39])).length ≤ 62 := by have := dbl_len s; simp only [List.length_cons, List.length_append, List.length_nil] at lX ⊢; omega
    simp only [Ans.chk, Ans.run, tailT, finT, noB]
    rw [htake, bcT (b := decide (_ ∧ _)) (by rw [decide_eq_true_eq]; refine ⟨?_, ?_, by omega⟩ <;> trivial), bcT (b := decide (_ ≤ (tlS a b (lowS n) (rowS (m + 1))).length)) (decide_eq_true (by omega))]
    by_cases h0 : s = []
    · subst h0
      have e : nmS true [] = [] := rfl
      rw [e, List.nil_append] at hrd2
      rw [bcF (b := !(([] : List UInt8) == [])) rfl, bcT (b := decide ((tlS a b (lowS n) (rowS (m + 1))).length ≤ 1000000)) (decide_eq_true (by omega)), hrd2.1, hrd2.2, rfB_self]
      rfl
    · have hb : (!(s == [])) = true := by rw [Bool.not_eq_true', beq_eq_false_iff_ne]; exact h0
      have e : nmS true s = 39 :: (dblS s ++ [39]) ++ [33] := by unfold nmS; rw [hb]; rfl
      rw [e] at hrd2
      have hlen2 : (39 :: (dblS s ++ [39]) ++ [33] ++ tlS a b (lowS n) (rowS (m + 1))).length ≤ 1000000 := by
        rw [List.length_append, List.length_append]; simp only [List.length_cons, List.length_nil] at *; omega
      rw [bcT hb, bcT (b := decide (s.length ≤ 1000000)) (decide_eq_true (by simp only at lX; omega)), bcT (b := decide ((39 :: (dblS s ++ [39])).length + _ ≤ _)) (decide_eq_true (by simp only [List.length_cons, List.length_nil] at *; omega)),
        bcT (b := decide ((39 :: (dblS s ++ [39]) ++ [33] : List UInt8).length + (tlS a b (lowS n) (rowS (m + 1))).length ≤ 9223372036854775807)) (decide_eq_true (by rw [List.length_append] at hlen2; omega)), bcT (b := decide ((39 :: (dblS s ++ [39]) ++ [33] ++ tlS a b (lowS n) (rowS (m + 1)) : List UInt8).length ≤ 1000000)) (decide_eq_true hlen2), hrd2.1, hrd2.2, rfB_self]
      rfl
theorem back_law (s s2 : List UInt8) (r c r2 c2 : Int) (a b d a2 b2 d2 : Bool) (g1 : inI r = true) (g2 : inI c = true) (g3 : s.length ≤ 9223372036854775807) (g4 : inI r2 = true) (g5 : inI c2 = true) (g6 : s2.length ≤ 9223372036854775807) :
    Meets Tryd.prog 3 [.agg [.str s, .int .i64 r, .int .i64 c, .bool a, .bool b, .bool d], .agg [.str s2, .int .i64 r2, .int .i64 c2, .bool a2, .bool b2, .bool d2]] [] (.bool true) [] := by
  have h := back_comes refS okT txV txE rdV rdE (fun l => 39 :: (dblS l ++ [39])) s s2 r c r2 c2 a b d a2 b2 d2
  have e1 : (inI r && inI c && decide (s.length ≤ 9223372036854775807)) = true := by rw [g1, g2, decide_eq_true g3]; rfl
  have e2 : (inI r2 && inI c2 && decide (s2.length ≤ 9223372036854775807)) = true := by rw [g4, g5, decide_eq_true g6]; rfl
  show Meets _ 3 _ (([] : List PObj).map PObj.toA) (.bool true) (([] : List PObj).map PObj.toA)
  refine meets_ent tabB_ok host (h.trans ?_) lv3_ok
  simp only [Ans.run]
  rw [e1, bcT rfl, e2, bcT rfl]
  exact bkT_true (refS_right _) (refS_right _)
end Go.Proofs.YtanhlbdcjonaoaaDoor

/- RefForms is so. -/
set_option linter.unusedVariables false
set_option linter.unusedSimpArgs false
namespace Go.Proofs.YtanhlbdcjonaoaaDoor
open Go Sx

/-- What is read is right. -/
theorem cq_sheet (f : List UInt8 → Bool) : ∀ (n : Nat) (l acc : List UInt8), (cqF f n l acc).2.2 = true → f (cqF f n l acc).1 = true
  | 0, l, acc, h => by cases h
  | n + 1, l, acc, h => by
    unfold cqF at h ⊢
    cases c1 : decide (ixC 39 l ≥ 0) with
    | false => rw [c1, bcF rfl] at h; cases h
    | true =>
      rw [c1, bcT rfl] at h
      rw [bcT rfl]
      cases c2 : cpB 33 (bhd l) with
      | true => rw [c2, bcT rfl] at h; exact h
      | false =>
        rw [c2, bcF rfl] at h
        rw [bcF rfl]
        cases c3 : cpB 39 (bhd l) with
        | false => rw [c3, bcF rfl] at h; cases h
        | true => rw [c3, bcT rfl] at h; rw [bcT rfl]; exact cq_sheet f n _ _ h
theorem cs_right {l : List UInt8} (h : (csS l).2.2 = true) : (csS l).1 = [] ∨ sheetB (csS l).1 = true := by
  unfold csS csF at h ⊢
  cases c1 : cpB 39 l with
  | true => rw [c1, bcT rfl] at h; rw [bcT rfl]; exact .inr (cq_sheet _ _ _ _ h)
  | false =>
    rw [c1, bcF rfl] at h
    rw [bcF rfl]
    cases c2 : decide (ixC 33 l ≥ 0) with
    | true =>
      rw [c2, bcT rfl] at h
      simp only [Bool.and_eq_true] at h
      exact .inr h.2
    | false => exact .inl rfl
theorem parse_ge : ∀ (l : List UInt8) (a u : Nat), Lib.parseUint10 a l = .ok u → a ≤ u
  | [], a, u, h => by simp only [Lib.parseUint10] at h; injection h with h; omega
  | c :: r, a, u, h => by
    simp only [Lib.parseUint10] at h
    split at h
    · split at h
      · cases h
      · split at h
        · cases h
        · have := parse_ge r _ u h; omega
    · cases h
theorem ato_pos {l : List UInt8} (hd : ∀ x ∈ l, digB x.toNat = true) (h0 : (l.take 1 == [48]) = false) (h : atoB l = true) : 1 ≤ atoV l := by
  unfold atoB at h
  unfold atoV
  rcases hx : Lib.atoiAll l with v | _ | _
  rotate_left
  · rw [hx] at h; cases h
  · rw [hx] at h; cases h
  · simp only
    cases l with
    | nil => simp [Lib.atoiAll] at hx
    | cons c r =>
      have hc := hd c List.mem_cons_self
      unfold digB at hc
      have hc := of_decide_eq_true hc
      have h48 : c.toNat ≠ 48 := fun e => by
        have : c = 48 := UInt8.toNat_inj.1 (by rw [e]; rfl)
        subst this; simp at h0
      have e1 : ¬ (c.toNat = 43 ∨ c.toNat = 45) := by omega
      have e2 : ¬ c.toNat = 45 := by omega
      simp only [Lib.atoiAll, if_neg e1, if_neg e2, Lib.parseMag] at hx
      rw [if_neg (by simp)] at hx
      rcases hp : Lib.parseUint10 0 (c :: r) with u | _ | _
      rotate_left
      · rw [hp] at hx; cases hx
      · rw [hp] at hx; cases hx
      · rw [hp] at hx
        simp only [e2, false_and, if_false, not_false_eq_true, true_and] at hx
        have hu : 1 ≤ u := by
          simp only [Lib.parseUint10] at hp
          rw [if_pos (by omega), if_neg (by omega), if_neg (by omega)] at hp
          have := parse_ge _ _ _ hp; omega
        split at hx
        · cases hx
        · injection hx with hx; omega
theorem row_right {l : List UInt8} (hd : ∀ x ∈ l, digB x.toNat = true) (h : (rrG l).2 = true) : 0 ≤ (rrG l).1 ∧ (rrG l).1 < 200 := by
  unfold rrG at h ⊢
  cases h0 : l.take 1 == [48] with
  | true => rw [h0] at h; cases h
  | false =>
    rw [h0, bcF rfl] at h
    rw [bcF rfl]
    cases h1 : (atoB l && decide (atoV l ≤ 200)) with
    | false => rw [h1] at h; cases h
    | true =>
      rw [bcT rfl]
      rw [Bool.and_eq_true, decide_eq_true_eq] at h1
      have := ato_pos hd h0 h1.1
      show 0 ≤ IntKind.i64.wrap (atoV l - 1) ∧ IntKind.i64.wrap (atoV l - 1) < 200
      rw [i64_in (by omega) (by omega)]; omega
theorem col_right {l : List UInt8} (h : (rcG l).2 = 0) : 0 ≤ (rcG l).1 ∧ (rcG l).1 < 52 := by
  unfold rcG at h ⊢
  have hk := rcR_ok (l.map upB) 0 (Nat.zero_le _)
  generalize rcR 0 (l.map upB) = x at *
  obtain ⟨b, n⟩ := x
  cases b with
  | false => cases h
  | true =>
    have hk := hk rfl
    cases n with
    | zero => cases h
    | succ n => simp only [bcond, Nat.beq, Bool.not_false, Bool.and_true] at hk ⊢; omega
theorem rd_right {l : List UInt8} (h : rdE l = 0) : rightB (rdV l) = true := by
  unfold rdE at h
  unfold rdV
  cases c1 : l == [35, 82, 69, 70, 33] with
  | true => rfl
  | false =>
    rw [c1, bcF rfl] at h
    rw [bcF rfl]
    cases hc : rdC l with
    | false => rw [hc] at h; cases h
    | true =>
      rw [bcT rfl]
      unfold rdC at hc
      simp only [Bool.and_eq_true, beq_iff_eq] at hc
      obtain ⟨⟨⟨h1, h2⟩, h3⟩, _⟩ := hc
      have hcol := col_right h2
      have hrow := row_right (l := rowA l) (fun x hx => (ahd_all dig_low _ x hx).2) h3
      have hs := cs_right h1
      unfold rightB rdX
      simp only
      rw [bcF rfl, Bool.and_eq_true, decide_eq_true_eq]
      refine ⟨?_, hrow.1, hrow.2, hcol.1, hcol.2⟩
      rcases hs with hs | hs
      · rw [hs]; rfl
      · cases !((csS l).1 == []) with
        | true => exact hs
        | false => rfl
theorem rd_none {l : List UInt8} (h : rdE l ≠ 0) : rdE l = 20 ∧ rdV l = noRf := by
  unfold rdE at h ⊢
  unfold rdV
  cases c1 : l == [35, 82, 69, 70, 33] with
  | true => rw [c1] at h; exact absurd rfl h
  | false =>
    rw [c1, bcF rfl] at h
    cases hc : rdC l with
    | true => rw [hc] at h; exact absurd rfl h
    | false => exact ⟨rfl, rfl⟩

def a60 (l : List UInt8) : Int := if 60 < (l.length : Int) then 60 else (l.length : Int)
def x1F (l : List UInt8) : List UInt8 := List.take ((a60 l).toNat - 0) (List.drop 0 l)
def pF (n : Int) (l : List UInt8) : Int := pickS n (IntKind.i64.wrap ((l.length : Int) + 1))
def x2F (n k : Int) (l : List UInt8) : List UInt8 := List.take ((pF n l).toNat - 0) (List.drop 0 l) ++ [toByte k] ++ List.take (l.length - (pF n l).toNat) (List.drop (pF n l).toNat l)
def rf0 (Y : Rf) : Bool := Y.s == [] && (Y.r == 0 && (Y.c == 0 && (Y.a == false && (Y.b == false && (Y.d == false && true)))))
def oneT (ok : Rf → Bool) (W : Rf → List UInt8) (w : Rf → Int) (G : List UInt8 → Rf) (g : List UInt8 → Int) (x : List UInt8) (next : Ans) : Ans :=
  .br (decide (x.length ≤ 1000000)) (.br (g x != 0) (.br (g x != 20) noB (.br (!(rf0 (G x))) noB next))
    (.br (ok (G x)) (.br (decide ((W (G x)).length ≤ 1000000)) (.br (!rightB (G x)) noB (.br (w (G x) != 0) noB (.br (g (W (G x)) != 0) noB (.br (!(rfB (G (W (G x))) (G x))) noB next)))) .fail) .fail)) .fail
def fmT (ok : Rf → Bool) (W : Rf → List UInt8) (w : Rf → Int) (G : List UInt8 → Rf) (g : List UInt8 → Int) (X : Rf) (s : List UInt8) (n k : Int) : Ans :=
  .br (ok X) (.br (inI n && decide (0 < IntKind.i64.wrap (((W X).length : Int) + 1))) (.br (w X != 0) noB (.br (decide (0 ≤ a60 s ∧ (a60 s).toNat ≤ s.length)) (.br (decide (0 ≤ pF n (W X) ∧ (pF n (W X)).toNat ≤ (W X).length))
    (.br (decide (0 ≤ k ∧ k < 256) && true && true && true) (.br (decide ((List.take ((pF n (W X)).toNat - 0) (List.drop 0 (W X))).length + [toByte k].length ≤ 9223372036854775807)) (.br (decide (0 ≤ pF n (W X) ∧ (pF n (W X)).toNat ≤ (W X).length))
      (.br (decide ((List.take ((pF n (W X)).toNat - 0) (List.drop 0 (W X)) ++ [toByte k]).length + (List.take ((W X).length - (pF n (W X)).toNat) (List.drop (pF n (W X)).toNat (W X))).length ≤ 9223372036854775807))
        (oneT ok W w G g (x1F s) (oneT ok W w G g (x2F n k (W X)) (.ret (.bool true) []))) .fail) .fail) .fail) .fail) .fail) .fail)) .fail) .fail
theorem forms_comes (F : Rf → Rf) (ok : Rf → Bool) (W : Rf → List UInt8) (w : Rf → Int) (G : List UInt8 → Rf) (g : List UInt8 → Int) (Q : List UInt8 → List UInt8) (s s2 : List UInt8) (r c n k : Int) (a b d : Bool) :
    Comes (tabB F ok W w G g Q) nolv 4 [.str s2, .agg [.str s, .int .i64 r, .int .i64 c, .bool a, .bool b, .bool d], .int .i64 n, .int .u8 k] []
      (.br (inI r && inI c && decide (s.length ≤ 9223372036854775807)) (fmT ok W w G g (F ⟨s, r, c, a, b, d⟩) s2 n k) .fail) := by unfold Comes; kernel_rfl

theorem txt_len {Z : Rf} (hZ : rightB Z = true) : (txtS Z).length ≤ 1000 := by
  have := name_len hZ
  unfold txtS
  cases Z.d with
  | true => simp [bcond]
  | false =>
    have h1 := (col_len Z.c.toNat).2
    have h2 := (row_len (Z.r + 1).toNat).2
    have h3 : ∀ (b : Bool) (x : List UInt8) (n : Nat), x.length ≤ n → (bcond b x []).length ≤ n := fun b x n hx => by cases b <;> simp [bcond]; exact hx
    have h4 : (wriS Z.s).length ≤ 62 := by
      by_cases h0 : Z.s = []
      · rw [h0]; exact Nat.le_of_ble_eq_true rfl
      · have := (wri_len h0).2; omega
    have h5 := h3 (!(Z.s == [])) (wriS Z.s ++ [33]) 63 (by simp only [List.length_append, List.length_cons, List.length_nil]; omega)
    have h6 := h3 Z.b [36] 1 (by simp)
    have h7 := h3 Z.a [36] 1 (by simp)
    simp only [bcond, List.length_append] at *
    omega
theorem oneT_next {x : List UInt8} (hx : x.length ≤ 1000000) {next : Ans} : (oneT okT txV txE rdV rdE x next).run pure2 = next.run pure2 := by
  unfold oneT
  simp only [Ans.run]
  rw [bcT (b := decide (x.length ≤ 1000000)) (decide_eq_true hx)]
  by_cases h : rdE x = 0
  · have hr := rd_right h
    have hb := rd_of (back_ok hr)
    have hl := txt_len hr
    have ho : okT (rdV x) = true := decide_eq_true (by have := name_len hr; omega)
    have ht : txV (rdV x) = txtS (rdV x) := by unfold txV; rw [bcT hr]
    have he : txE (rdV x) = 0 := by unfold txE; rw [bcT hr]
    rw [h, ho, ht, he, hr, hb.1, hb.2, rfB_self, bcT (b := decide ((txtS (rdV x)).length ≤ 1000000)) (decide_eq_true (by omega))]
    rfl
  · have hn := rd_none h
    rw [hn.1, hn.2]
    rfl
theorem a60_ok (l : List UInt8) : 0 ≤ a60 l ∧ (a60 l).toNat ≤ l.length := by unfold a60; split <;> omega
theorem forms_law (s s2 : List UInt8) (r c n k : Int) (a b d : Bool) (g1 : inI r = true) (g2 : inI c = true) (g3 : s.length ≤ 9223372036854775807) (g4 : inI n = true) (g5 : 0 ≤ k ∧ k < 256) :
    Meets Tryd.prog 4 [.str s2, .agg [.str s, .int .i64 r, .int .i64 c, .bool a, .bool b, .bool d], .int .i64 n, .int .u8 k] [] (.bool true) [] := by
  have h := forms_comes refS okT txV txE rdV rdE (fun l => 39 :: (dblS l ++ [39])) s s2 r c n k a b d
  have e1 : (inI r && inI c && decide (s.length ≤ 9223372036854775807)) = true := by rw [g1, g2, decide_eq_true g3]; rfl
  show Meets _ 4 _ (([] : List PObj).map PObj.toA) (.bool true) (([] : List PObj).map PObj.toA)
  refine meets_ent tabB_ok host (h.trans ?_)
  simp only [Ans.run]
  rw [e1, bcT rfl]
  have hX := refS_right ⟨s, r, c, a, b, d⟩
  generalize refS ⟨s, r, c, a, b, d⟩ = X at hX ⊢
  have lX := txt_len hX
  have oX : okT X = true := decide_eq_true (by have := name_len hX; omega)
  have tX : txV X = txtS X := by unfold txV; rw [bcT hX]
  have eX : txE X = 0 := by unfold txE; rw [bcT hX]
  unfold fmT
  simp only [Ans.run]
  rw [oX, bcT rfl, tX, eX]
  have hw : IntKind.i64.wrap (((txtS X).length : Int) + 1) = ((txtS X).length : Int) + 1 := i64_in (by omega) (by omega)
  have hp := pickS_bd (a := n) (n := ((txtS X).length : Int) + 1) (by omega)
  have hpF : 0 ≤ pF n (txtS X) ∧ (pF n (txtS X)).toNat ≤ (txtS X).length := by unfold pF; rw [hw]; omega
  have h60 := a60_ok s2
  have l1 : (x1F s2).length ≤ 1000000 := by unfold x1F; rw [List.length_take]; unfold a60; split <;> omega
  have l2 : (x2F n k (txtS X)).length ≤ 1000000 := by
    unfold x2F
    simp only [List.length_append, List.length_take, List.length_drop, List.length_cons, List.length_nil]; omega
  rw [hw, g4, bcT (b := true && _) (by rw [decide_eq_true (by omega)]; rfl), bcF (b := ((0 : Int) != 0)) rfl, bcT (b := decide (0 ≤ a60 s2 ∧ _)) (decide_eq_true h60), bcT (b := decide (0 ≤ pF n (txtS X) ∧ _)) (decide_eq_true hpF), bcT (b := decide (0 ≤ k ∧ k < 256) && true && true && true) (by rw [decide_eq_true g5]; rfl),
    bcT (b := decide ((List.take ((pF n (txtS X)).toNat - 0) (List.drop 0 (txtS X))).length + [toByte k].length ≤ 9223372036854775807)) (decide_eq_true (by simp only [List.length_take, List.length_drop, List.length_cons, List.length_nil]; omega)),
    bcT (b := decide (0 ≤ pF n (txtS X) ∧ _)) (decide_eq_true hpF),
    bcT (b := decide ((List.take ((pF n (txtS X)).toNat - 0) (List.drop 0 (txtS X)) ++ [toByte k]).length + (List.take ((txtS X).length - (pF n (txtS X)).toNat) (List.drop (pF n (txtS X)).toNat (txtS X))).length ≤ 9223372036854775807)) (decide_eq_true (by simp only [List.length_append, List.length_take, List.length_drop, List.length_cons, List.length_nil]; omega)),
    oneT_next l1, oneT_next l2]
  rfl
end Go.Proofs.YtanhlbdcjonaoaaDoor
