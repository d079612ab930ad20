/- Layer 2: rows and columns, read: the program's and the document's own. -/
import Derived.Test.YtanhlbdcjonaoaaGreatDoorGr14
set_option linter.unusedVariables false
set_option linter.unusedSimpArgs false
namespace Go.Proofs.YtanhlbdcjonaoaaGreatDoor
open Go Sx

/-! ### Rows -/
theorem parse_pow : ∀ (l : List UInt8) (a u : Nat), Lib.parseUint10 a l = .ok u → a * 10 ^ l.length ≤ u
  | [], a, u, h => by simp only [Lib.parseUint10] at h; injection h with h; simp; omega
  | c :: r, a, u, h => by
    simp only [Lib.parseUint10] at h
    split at h
    · split at h
      · cases h
      · split at h
        · cases h
        · have := parse_pow r _ u h
          rw [List.length_cons, Nat.pow_succ]
          refine Nat.le_trans ?_ this
          rw [Nat.mul_comm (10 ^ r.length) 10, ← Nat.mul_assoc]
          exact Nat.mul_le_mul_right _ (by omega)
    · cases h
theorem ato_len {l : List UInt8} (hd : ∀ x ∈ l, digB x.toNat = true) (h0 : (l.take 1 == [48]) = false) (h : atoB l = true) (hv : atoV l ≤ 200) : l.length ≤ 3 ∧ l ≠ [] := by
  unfold atoB at h
  unfold atoV at hv
  rcases hx : Lib.atoiAll l with v | _ | _
  rotate_left
  · rw [hx] at h; cases h
  · rw [hx] at h; cases h
  · rw [hx] at hv
    simp only at hv
    cases l with
    | nil => simp [Lib.atoiAll] at hx
    | cons c r =>
      refine ⟨?_, by simp⟩
      have hc := hd c List.mem_cons_self
      unfold digB at hc
      have hc := of_decide_eq_true hc
      have h48 : c.toNat ≠ 48 := fun e => by
        have : c = 48 := UInt8.toNat_inj.1 (by rw [e]; rfl)
        subst this; simp at h0
      have e1 : ¬ (c.toNat = 43 ∨ c.toNat = 45) := by omega
      have e2 : ¬ c.toNat = 45 := by omega
      simp only [Lib.atoiAll, if_neg e1, if_neg e2, Lib.parseMag] at hx
      rw [if_neg (by simp)] at hx
      rcases hp : Lib.parseUint10 0 (c :: r) with u | _ | _
      rotate_left
      · rw [hp] at hx; cases hx
      · rw [hp] at hx; cases hx
      · rw [hp] at hx
        simp only [e2, false_and, if_false, not_false_eq_true, true_and] at hx
        have hu : 10 ^ r.length ≤ u := by
          simp only [Lib.parseUint10] at hp
          rw [if_pos (by omega), if_neg (by omega), if_neg (by omega)] at hp
          have := parse_pow _ _ _ hp
          exact Nat.le_trans (by rw [Nat.le_iff_lt_or_eq]; rcases Nat.eq_or_lt_of_le (Nat.le_mul_of_pos_left (10 ^ r.length) (show 0 < 0 * 10 + (c.toNat - 48) by omega)) with e | e; exact .inr e; exact .inl e) this
        have hr : r.length < 3 := by
          rcases Nat.lt_or_ge r.length 3 with h | h
          · exact h
          · have := Nat.pow_le_pow_right (n := 10) (by omega) h
            split at hx
            · cases hx
            · injection hx with hx; omega
        simp only [List.length_cons]; omega
def rowOK (l : List UInt8) : Bool := !(rrG l).2 || (l == rowS ((rrG l).1.toNat + 1) && Nat.ble ((rrG l).1.toNat + 1) 200 && (rrG l).1 == ((rrG l).1.toNat : Int))
def dgU (n : Nat) : UInt8 := UInt8.ofNat (48 + n)
theorem row_1 : (List.range 10).all (fun a => rowOK [dgU a]) = true := by kernel_rfl
theorem row_2 : (List.range 10).all (fun a => (List.range 10).all fun b => rowOK [dgU a, dgU b]) = true := by kernel_rfl
theorem row_3 : (List.range 10).all (fun a => (List.range 10).all fun b => (List.range 10).all fun c => rowOK [dgU a, dgU b, dgU c]) = true := by kernel_rfl
theorem dig_u {c : UInt8} (h : digB c.toNat = true) : ∃ a, a < 10 ∧ c = dgU a := by
  unfold digB at h
  have h := of_decide_eq_true h
  refine ⟨c.toNat - 48, by omega, UInt8.toNat_inj.1 ?_⟩
  unfold dgU
  rw [UInt8.toNat_ofNat']; omega
/-- Digits that are a row's are that row's digits. -/
theorem row_of {l : List UInt8} (hd : ∀ x ∈ l, digB x.toNat = true) (h : (rrG l).2 = true) : ∃ k, k < 200 ∧ l = rowS (k + 1) ∧ (rrG l).1 = (k : Int) := by
  have h0 : (l.take 1 == [48]) = false := by
    unfold rrG at h
    cases h0 : l.take 1 == [48] with
    | true => rw [h0] at h; cases h
    | false => rfl
  have h1 : atoB l = true ∧ atoV l ≤ 200 := by
    unfold rrG at h
    rw [h0, bcF rfl] at h
    cases h1 : (atoB l && decide (atoV l ≤ 200)) with
    | false => rw [h1] at h; cases h
    | true => rw [Bool.and_eq_true, decide_eq_true_eq] at h1; exact h1
  obtain ⟨hl, hn⟩ := ato_len hd h0 h1.1 h1.2
  have hok : rowOK l = true := by
    match l, hd, hn, hl with
    | [], _, hn, _ => exact absurd rfl hn
    | [a], hd, _, _ =>
      obtain ⟨i, hi, rfl⟩ := dig_u (hd a (by simp))
      exact List.all_eq_true.1 row_1 i (List.mem_range.2 hi)
    | [a, b], hd, _, _ =>
      obtain ⟨i, hi, rfl⟩ := dig_u (hd a (by simp))
      obtain ⟨j, hj, rfl⟩ := dig_u (hd b (by simp))
      exact List.all_eq_true.1 (List.all_eq_true.1 row_2 i (List.mem_range.2 hi)) j (List.mem_range.2 hj)
    | [a, b, c], hd, _, _ =>
      obtain ⟨i, hi, rfl⟩ := dig_u (hd a (by simp))
      obtain ⟨j, hj, rfl⟩ := dig_u (hd b (by simp))
      obtain ⟨m, hm, rfl⟩ := dig_u (hd c (by simp))
      exact List.all_eq_true.1 (List.all_eq_true.1 (List.all_eq_true.1 row_3 i (List.mem_range.2 hi)) j (List.mem_range.2 hj)) m (List.mem_range.2 hm)
    | a :: b :: c :: d :: r, _, _, hl => simp only [List.length_cons] at hl; omega
  unfold rowOK at hok
  rw [h, Bool.not_true, Bool.false_or, Bool.and_eq_true, Bool.and_eq_true, beq_iff_eq, beq_iff_eq, bleT] at hok
  exact ⟨(rrG l).1.toNat, hok.1.2, hok.1.1, hok.2⟩
/-- The first row that is written so. -/
theorem fdW_none {u : List UInt8} : ∀ (f n : Nat), fdW u f n = none → ∀ k, n ≤ k → k < n + f → u ≠ rowS (k + 1)
  | 0, n, _, k, h1, h2 => by omega
  | f + 1, n, h, k, h1, h2 => by
    simp only [fdW] at h
    cases hc : u == rowS (n + 1) with
    | true => rw [hc] at h; cases h
    | false =>
      rw [hc, bcF rfl] at h
      by_cases e : k = n
      · rw [e]; exact beq_eq_false_iff_ne.1 hc
      · exact fdW_none f (n + 1) h k (by omega) (by omega)
theorem fdW_some {u : List UInt8} : ∀ (f n k : Nat), fdW u f n = some k → u = rowS (k + 1) ∧ k < n + f
  | 0, n, k, h => by cases h
  | f + 1, n, k, h => by
    simp only [fdW] at h
    cases hc : u == rowS (n + 1) with
    | true => rw [hc, bcT rfl] at h; obtain rfl := Option.some.inj h; exact ⟨beq_iff_eq.1 hc, by omega⟩
    | false =>
      rw [hc, bcF rfl] at h
      obtain ⟨h1, h2⟩ := fdW_some f (n + 1) k h
      exact ⟨h1, by omega⟩
/-- Is a text a row's digits, by the program? -/
def rwP (X : List UInt8) : Bool := (rrG (X.take (ltF digB X))).2 && X.drop (ltF digB X) == []
theorem lt_all (f : Int → Bool) : ∀ X : List UInt8, ∀ x ∈ X.take (ltF f X), f x.toNat = true
  | [], x, h => by simp at h
  | c :: r, x, h => by
    simp only [ltF] at h
    cases hc : f (c.toNat : Int) with
    | false => rw [hc] at h; simp [bcond] at h
    | true =>
      rw [hc, bcT rfl, List.take_succ_cons] at h
      rcases List.mem_cons.1 h with e | e
      · rw [e]; exact hc
      · exact lt_all f r x e
theorem lt_full {f : Int → Bool} : ∀ X : List UInt8, (∀ x ∈ X, f x.toNat = true) → ltF f X = X.length
  | [], _ => rfl
  | c :: r, h => by
    simp only [ltF, List.length_cons]
    rw [h c List.mem_cons_self, bcT rfl, lt_full r fun x hx => h x (List.mem_cons_of_mem _ hx)]
theorem row_eq (X : List UInt8) : (rwP X = true ∧ fdW X 200 0 = some (rrG (X.take (ltF digB X))).1.toNat ∧ (rrG (X.take (ltF digB X))).1 = ((rrG (X.take (ltF digB X))).1.toNat : Int)) ∨ (rwP X = false ∧ fdW X 200 0 = none) := by
  cases hp : rwP X with
  | true =>
    left
    unfold rwP at hp
    rw [Bool.and_eq_true, beq_iff_eq] at hp
    have hx : X.take (ltF digB X) = X := by
      have := List.take_append_drop (ltF digB X) X
      rw [hp.2, List.append_nil] at this
      exact this
    have hall := lt_all digB X
    rw [hx] at hp hall ⊢
    obtain ⟨k, hk, h1, h2⟩ := row_of hall hp.1
    refine ⟨rfl, ?_, by rw [h2]; rfl⟩
    rw [h2]
    cases hf : fdW X 200 0 with
    | none => exact absurd h1 (fdW_none 200 0 hf k (by omega) (by omega))
    | some j =>
      obtain ⟨h3, h4⟩ := fdW_some 200 0 j hf
      have e1 := (row_facts hk).2.2
      have e2 := (row_facts (show j < 200 by omega)).2.2
      rw [← h1] at e1
      rw [← h3] at e2
      rw [e1] at e2
      have := (Prod.mk.inj e2).1
      rw [Int.toNat_natCast, show j = k by omega]
  | false =>
    right
    refine ⟨rfl, ?_⟩
    cases hf : fdW X 200 0 with
    | none => rfl
    | some j =>
      exfalso
      obtain ⟨h3, h4⟩ := fdW_some 200 0 j hf
      obtain ⟨f1, f2, f3⟩ := row_facts (show j < 200 by omega)
      rw [← h3] at f1 f3
      have hl := lt_full X fun x hx => (f1 x hx).2
      unfold rwP at hp
      rw [hl, List.take_length, List.drop_length, f3] at hp
      cases hp
/-! ### Columns -/
def smB (c : UInt8) : Bool := Nat.ble 97 c.toNat && Nat.ble c.toNat 122
/-- Signs as a column's number: whether each is a great letter and it stays at most 52, and the last one. -/
def rcR2 : Nat → List UInt8 → Bool × Nat
  | n, [] => (true, n)
  | n, c :: l => bcond (capB c) (bcond (Nat.ble (n * 26 + (c.toNat - 65) + 1) 52) (rcR2 (n * 26 + (c.toNat - 65) + 1) l) (false, n * 26 + (c.toNat - 65) + 1)) (false, n)
theorem loop18g (u : List UInt8) (hu : u.all (fun c => !smB c) = true) : Tri Tryz.prog (.loop ((loopBodies (bodyOf Tryz.f11)).headD .skip)) (st18 u 0 0).toA (res18 (rcR2 0 u)).1 (res18 (rcR2 0 u)).2.toA 0 := by
  have key := loop_rounds (ι := { q : Nat × Nat // q.1 ≤ u.length ∧ q.2 ≤ 52 }) (ent_sound (NF := 64) (m := 18446744073709551616) tabRc_ok host nolv_ok 30) (x := (loopBodies (bodyOf Tryz.f11)).headD .skip) (K := 0) (lv := {}) (NF := 64) (m := 18446744073709551616) (fun x hx id e h1 h2 => by cases h2) (fun n => hasN [4, 9] n) (fun n => hasN [2, 3, 4] n) (fun q => st18 u (q.1.2 : Int) q.1.1) (fun q => u.length - q.1.1) (fun q => res18 (rcR2 q.1.2 (u.drop q.1.1))) ?_ (fun q => by
      simp only [res18]; cases (rcR2 q.1.2 (u.drop q.1.1)).1 <;> simp [bcond]) ⟨(0, 0), Nat.zero_le _, Nat.zero_le _⟩
  · exact key
  rintro ⟨⟨p, n⟩, hp, hn⟩
  simp only at hp hn ⊢
  rw [round18]
  by_cases h : p < u.length
  · rw [bcT (b := decide (p < u.length)) (decide_eq_true h), List.drop_eq_getElem_cons h, rcR2]
    have hsm := List.all_eq_true.1 hu _ (List.getElem_mem h)
    cases hcap : capB u[p] with
    | true =>
      have hc := cap_iff.1 hcap
      have hasc := rune_asc h (show u[p].toNat < 128 by omega)
      have hW : rcW (n : Int) (u[p].toNat : Int) = ((n * 26 + (u[p].toNat - 65) + 1 : Nat) : Int) := by
        unfold rcW
        rw [i32_in (by omega) (by omega), i64_in (n := (n : Int) * 26) (by omega) (by omega), i64_in (n := (u[p].toNat : Int) - 65) (by omega) (by omega), i64_in (n := (n : Int) * 26 + ((u[p].toNat : Int) - 65)) (by omega) (by omega), i64_in (by omega) (by omega)]
        omega
      have hl : (!letB (u[p].toNat : Int)) = false := by
        unfold letB
        rw [decide_eq_true (show (65 ≤ (u[p].toNat : Int) ∧ (u[p].toNat : Int) ≤ 90) ∨ _ from .inl ⟨by omega, by omega⟩)]; rfl
      rw [hasc.1, hasc.2, hW, hl, bcF rfl, bcT rfl]
      generalize hm : n * 26 + (u[p].toNat - 65) + 1 = m
      by_cases h1 : m ≤ 52
      · rw [bcF (b := decide ((m : Int) > 52)) (decide_eq_false (by omega)), bcT (b := Nat.ble m 52) (bleT.2 h1)]
        exact .inl ⟨⟨(p + 1, m), h, h1⟩, by simp only; omega, rfl, rfl⟩
      · rw [bcT (b := decide ((m : Int) > 52)) (decide_eq_true (by omega)), bcF (b := Nat.ble m 52) (Bool.eq_false_iff.2 fun e => h1 (bleT.1 e))]
        exact .inr rfl
    | false =>
      have hl : (!letB (runeAt u p)) = true := by
        rw [Bool.not_eq_true']
        unfold letB
        refine decide_eq_false fun hlet => ?_
        have hlow := rune_low h (by omega)
        have hasc := rune_asc h hlow
        rw [hasc.1] at hlet
        unfold smB at hsm
        rw [Bool.not_eq_true', Bool.and_eq_false_iff] at hsm
        rcases hlet with hlet | hlet
        · have : capB u[p] = true := cap_iff.2 ⟨by omega, by omega⟩
          rw [hcap] at this; cases this
        · rcases hsm with hsm | hsm
          · have := bleT.2 (show 97 ≤ u[p].toNat by omega); rw [hsm] at this; cases this
          · have := bleT.2 (show u[p].toNat ≤ 122 by omega); rw [hsm] at this; cases this
      rw [hl, bcT rfl, bcF rfl]
      exact .inr rfl
  · right
    have : p = u.length := by omega
    subst this
    rw [bcF (b := decide _) (decide_eq_false (by omega)), List.drop_length]
    rfl
def e18g : Nat → PState → LAns := fun K t => match K, t with
  | 0, ⟨none :: none :: none :: none :: some (.int .i64 n) :: none :: none :: none :: none :: some (.ptr 0 0) :: rs, some (.raw (.iter u 0)) :: rm⟩ =>
    .chk (nonesV 19 rs) (.chk (nonesB 64 rm) (.chk (decide (n = 0)) (.chk (u.all fun c => !smB c) (.br (rcR2 0 u).1 (.out (.exit 0) (fin18x ((rcR2 0 u).2 : Int))) (.out .ret (fin18r ((rcR2 0 u).2 : Int)))))))
  | _, _ => .fail
def lv18g : FuncId → Lv := fun f => match f with
  | 11 => { keep := fun _ => some [4, 9], ent := fun i => match i with | 3 => some e18g | _ => none }
  | _ => {}
theorem lv18g_ok : LvOK Tryz.prog lv18g := by
  intro f fn body hf hb K x hx id e hid he t
  by_cases h : f = 11
  · subst h
    obtain rfl : fn = Tryz.f11 := (Option.some.inj (Tryz.func11.symm.trans hf)).symm
    have hbody : body = bodyOf Tryz.f11 := by unfold bodyOf; rw [hb]; rfl
    subst hbody
    have h1 : loopBodies (bodyOf Tryz.f11) = [(loopBodies (bodyOf Tryz.f11)).headD .skip] := by kernel_rfl
    rw [h1] at hx
    have hx' := List.mem_singleton.1 hx
    have h2 : id = 3 := by
      have h3 : headReg ((loopBodies (bodyOf Tryz.f11)).headD .skip) = some 3 := by kernel_rfl
      rw [hx', h3] at hid; exact (Option.some.inj hid).symm
    subst h2
    have he' : e18g = e := Option.some.inj he
    subst he'
    rw [hx']
    clear hx hx' hid he hb hf h1
    unfold e18g
    split
    · rename_i n rs u rm
      refine ⟨fun g1 => ⟨fun g2 => ⟨fun g3 => ⟨fun g4 => ?_, fun _ => trivial⟩, fun _ => trivial⟩, fun _ => trivial⟩, fun _ => trivial⟩
      have g3 := of_decide_eq_true g3
      subst g3
      rw [nonesV_eq _ _ g1, nonesB_eq _ _ g2]
      have := loop18g u g4
      refine ⟨fun hc => ?_, fun hc => ?_⟩
      · unfold res18 at this; rw [bcT hc] at this; exact this
      · unfold res18 at this; rw [bcF hc] at this; exact this
    · trivial
  · exfalso
    have : (lv18g f).ent id = none := by
      unfold lv18g
      split
      · exact absurd rfl h
      · rfl
    rw [this] at he; cases he
/-- The column of a text, less one, and the error. -/
def rcG2 (l : List UInt8) : Int × Int := bcond ((rcR2 0 (l.map upB)).1 && !(Nat.beq (rcR2 0 (l.map upB)).2 0)) (((rcR2 0 (l.map upB)).2 : Int) - 1, 0) (0, 20)
theorem up_sm (c : UInt8) : smB (upB c) = false := by
  unfold smB upB
  by_cases h1 : 97 ≤ c.toNat ∧ c.toNat ≤ 122
  · rw [bcT (decide_eq_true h1), UInt8.toNat_ofNat', bltF (a := 97) (by omega)]; rfl
  · rw [bcF (decide_eq_false h1)]
    by_cases h2 : 97 ≤ c.toNat
    · rw [bltF (b := 122) (by omega), Bool.and_false]
    · rw [bltF h2]; rfl
theorem rcR2_le : ∀ (l : List UInt8) (n : Nat), n ≤ 52 → (rcR2 n l).2 ≤ 100000000
  | [], n, h => by simp only [rcR2]; omega
  | c :: l, n, h => by
    have hc : c.toNat < 256 := UInt8.toNat_lt _
    simp only [rcR2]
    cases capB c with
    | false => simp only [bcond]; omega
    | true =>
      cases h1 : Nat.ble (n * 26 + (c.toNat - 65) + 1) 52 with
      | true => exact rcR2_le l _ (bleT.1 h1)
      | false => simp only [bcond]; omega
theorem rcR2_cap : ∀ (l : List UInt8) (n : Nat), l.all capB = true → rcR2 n l = rcR n l
  | [], n, _ => rfl
  | c :: l, n, h => by
    rw [List.all_cons, Bool.and_eq_true] at h
    simp only [rcR2, rcR]
    rw [h.1, bcT rfl, rcR2_cap l _ h.2]
theorem readColP_ok : EntOK Tryz.prog 11 (eRC okM rcG2) := fun args pre => by
  unfold eRC
  split
  · rename_i l
    have e : Comes tabRc lv18g 11 [.str l] [] (.chk (decide (l.length ≤ 1000000)) (.chk (decide ((0 : Int) = 0)) (.chk ((l.map upB).all fun c => !smB c) (.br (rcR2 0 (l.map upB)).1 (.br (((rcR2 0 (l.map upB)).2 : Int) == 0) (.ret (.tuple [.int .i64 0, .int .i64 20]) []) (.ret (.tuple [.int .i64 (IntKind.i64.wrap (((rcR2 0 (l.map upB)).2 : Int) - 1)), .int .i64 0]) []))
      (.ret (.tuple [.int .i64 0, .int .i64 20]) []))))) := by unfold Comes; kernel_rfl
    refine of_run (ans_comes tabRc_ok e lv18g_ok) fun r h => ?_
    obtain ⟨h1, h⟩ := chk_run h
    have hcap : ((l.map upB).all fun c => !smB c) = true := by
      rw [List.all_map]
      exact List.all_eq_true.2 fun c hc => by show (!smB (upB c)) = true; rw [up_sm]; rfl
    rw [← h]
    simp only [Ans.run, Ans.chk]
    rw [bcT (b := decide (l.length ≤ 1000000)) h1, bcT (b := decide True) (decide_eq_true trivial), bcT hcap]
    unfold rcG2
    have hle := rcR2_le (l.map upB) 0 (Nat.zero_le _)
    generalize rcR2 0 (l.map upB) = x at *
    obtain ⟨b, n⟩ := x
    simp only at hle ⊢
    cases b with
    | false => rfl
    | true =>
      cases n with
      | zero => rfl
      | succ n =>
        rw [i64_in (by omega) (by omega)]
        have hz : (((n + 1 : Nat) : Int) == 0) = false := beq_eq_false_iff_ne.2 (by omega)
        simp only [hz]
        rfl
  · trivial
/-! ### The same column -/
theorem col_caps : (List.range 52).all (fun n => (colS n).all capB && Nat.ble (colS n).length 2) = true := by kernel_rfl
theorem fdR_some {u : List UInt8} : ∀ (f n k : Nat), fdR u f n = some k → u = colS k ∧ k < n + f
  | 0, n, k, h => by cases h
  | f + 1, n, k, h => by
    simp only [fdR] at h
    cases hc : colS n == u with
    | true => rw [hc, bcT rfl] at h; obtain rfl := Option.some.inj h; exact ⟨(beq_iff_eq.1 hc).symm, by omega⟩
    | false =>
      rw [hc, bcF rfl] at h
      obtain ⟨h1, h2⟩ := fdR_some f (n + 1) k h
      exact ⟨h1, by omega⟩
def cpU (n : Nat) : UInt8 := UInt8.ofNat (65 + n)
def colOK (u : List UInt8) : Bool := bcond ((rcR 0 u).1 && !(Nat.beq (rcR 0 u).2 0)) (match fdR u 52 0 with | some k => Nat.beq (k + 1) (rcR 0 u).2 | none => false) (fdR u 52 0).isNone
theorem col_1 : (List.range 26).all (fun a => colOK [cpU a]) = true := by kernel_rfl
theorem col_2 : (List.range 26).all (fun a => (List.range 26).all fun b => colOK [cpU a, cpU b]) = true := by kernel_rfl
theorem cap_u {c : UInt8} (h : capB c = true) : ∃ a, a < 26 ∧ c = cpU a := by
  have h := cap_iff.1 h
  refine ⟨c.toNat - 65, by omega, UInt8.toNat_inj.1 ?_⟩
  unfold cpU
  rw [UInt8.toNat_ofNat']; omega
end Go.Proofs.YtanhlbdcjonaoaaGreatDoor

/- Layer 2: references, columns: what the document's own answers read is what the program reads. -/
set_option linter.unusedVariables false
set_option linter.unusedSimpArgs false
namespace Go.Proofs.YtanhlbdcjonaoaaGreatDoor
open Go Sx

theorem rcR2_true : ∀ (l : List UInt8) (n : Nat), (rcR2 n l).1 = true → l.all capB = true
  | [], n, _ => rfl
  | c :: l, n, h => by
    simp only [rcR2] at h
    cases hc : capB c with
    | false => rw [hc] at h; cases h
    | true =>
      rw [hc, bcT rfl] at h
      cases h1 : Nat.ble (n * 26 + (c.toNat - 65) + 1) 52 with
      | false => rw [h1] at h; cases h
      | true =>
        rw [h1, bcT rfl] at h
        rw [List.all_cons, hc, rcR2_true l _ h]; rfl
theorem rcR_long (a b c : UInt8) (r : List UInt8) : (rcR 0 (a :: b :: c :: r)).1 = false := by
  simp only [rcR]
  generalize hn : 0 * 26 + (a.toNat - 65) + 1 = n
  have h1 : 1 ≤ n := by omega
  cases Nat.ble n 52 with
  | false => rfl
  | true =>
    rw [bcT rfl]
    generalize hm : n * 26 + (b.toNat - 65) + 1 = m
    have h2 : 27 ≤ m := by omega
    cases Nat.ble m 52 with
    | false => rfl
    | true =>
      rw [bcT rfl, bltF (by omega)]; rfl
theorem fd_caps {u : List UInt8} (h : u.all capB = false) : fdR u 52 0 = none := by
  cases hf : fdR u 52 0 with
  | none => rfl
  | some k =>
    obtain ⟨h1, h2⟩ := fdR_some 52 0 k hf
    have := List.all_eq_true.1 col_caps k (List.mem_range.2 (by omega))
    rw [Bool.and_eq_true, ← h1, h] at this
    exact absurd this.1 (by simp)
theorem rcD_small {l : List UInt8} (h : l.length ≤ 2) : rcD l = match fdR (l.map upB) 52 0 with | some k => ((k : Int), 0) | none => (0, 20) := by
  unfold rcD
  rw [bcF (b := decide ((l.length : Int) > 2)) (decide_eq_false (by omega))]
  cases fdR (l.map upB) 52 0 <;> rfl
theorem rcD_nil : rcD [] = (0, 20) := by kernel_rfl
theorem rc_eq (l : List UInt8) : rcD l = rcG2 l := by
  have hlen : (l.map upB).length = l.length := List.length_map ..
  cases hc : (l.map upB).all capB with
  | false =>
    have h1 : (rcR2 0 (l.map upB)).1 = false := by
      cases h : (rcR2 0 (l.map upB)).1 with
      | false => rfl
      | true => rw [rcR2_true _ _ h] at hc; cases hc
    unfold rcG2
    rw [h1, Bool.false_and, bcF rfl]
    by_cases h2 : l.length ≤ 2
    · rw [rcD_small h2, fd_caps hc]
    · unfold rcD; exact bcT (decide_eq_true (by omega))
  | true =>
    have hall := List.all_eq_true.1 hc
    have hok : l.length ≤ 2 → l ≠ [] → colOK (l.map upB) = true := by
      intro h1 h2
      generalize l.map upB = u at *
      match u, hlen, hall with
      | [], hlen, _ => exfalso; apply h2; exact List.length_eq_zero_iff.1 hlen.symm
      | [a], _, hall =>
        obtain ⟨i, hi, rfl⟩ := cap_u (hall a (by simp))
        exact List.all_eq_true.1 col_1 i (List.mem_range.2 hi)
      | [a, b], _, hall =>
        obtain ⟨i, hi, rfl⟩ := cap_u (hall a (by simp))
        obtain ⟨j, hj, rfl⟩ := cap_u (hall b (by simp))
        exact List.all_eq_true.1 (List.all_eq_true.1 col_2 i (List.mem_range.2 hi)) j (List.mem_range.2 hj)
      | a :: b :: c :: r, hlen, _ => simp only [List.length_cons] at hlen; omega
    unfold rcG2
    rw [rcR2_cap _ _ hc]
    by_cases h2 : l.length ≤ 2
    · by_cases h3 : l = []
      · subst h3; rw [rcD_nil]; rfl
      · have hok := hok h2 h3
        rw [rcD_small h2]
        unfold colOK at hok
        cases h4 : ((rcR 0 (l.map upB)).1 && !(Nat.beq (rcR 0 (l.map upB)).2 0)) with
        | false =>
          rw [h4, bcF rfl] at hok
          rw [bcF rfl, Option.isNone_iff_eq_none.1 hok]
        | true =>
          rw [h4, bcT rfl] at hok
          rw [bcT rfl]
          cases h5 : fdR (l.map upB) 52 0 with
          | none => rw [h5] at hok; cases hok
          | some k =>
            rw [h5] at hok
            have := beqT.1 hok
            simp only
            rw [← this]
            congr 1
            omega
    · have h5 : (rcR 0 (l.map upB)).1 = false := by
        generalize l.map upB = u at *
        match u, hlen with
        | a :: b :: c :: r, _ => exact rcR_long a b c r
        | [], hlen => simp only [List.length_nil] at hlen; omega
        | [a], hlen => simp only [List.length_cons, List.length_nil] at hlen; omega
        | [a, b], hlen => simp only [List.length_cons, List.length_nil] at hlen; omega
      rw [h5, Bool.false_and, bcF rfl]
      unfold rcD; exact bcT (decide_eq_true (by omega))
theorem rc_letters {l : List UInt8} (h : ∀ c ∈ l, letB c.toNat = true) : rcG l = rcG2 l := by
  unfold rcG rcG2
  rw [rcR2_cap]
  rw [List.all_map]
  exact List.all_eq_true.2 fun c hc => up_cap (h c hc)
theorem readColD2_ok : EntOK Tryz.prog 12 (eRC okM rcG2) := fun args pre => by
  have h := rcO_ok args pre
  rw [show rcD = rcG2 from funext rc_eq] at h
  exact h
end Go.Proofs.YtanhlbdcjonaoaaGreatDoor

/- Layer 2: what the document's own answer reads is what the program reads: references. -/
set_option linter.unusedVariables false
set_option linter.unusedSimpArgs false
namespace Go.Proofs.YtanhlbdcjonaoaaGreatDoor
open Go Sx

theorem rc_err (l : List UInt8) : (rcG2 l).2 = 0 ∨ rcG2 l = (0, 20) := by
  unfold rcG2
  cases ((rcR2 0 (l.map upB)).1 && !(Nat.beq (rcR2 0 (l.map upB)).2 0)) with
  | true => exact .inl rfl
  | false => exact .inr rfl
def restL (C : List UInt8) : List UInt8 := C.drop (ltF letB C)
def headL (C : List UInt8) : List UInt8 := C.take (ltF letB C)
def rowX (C : List UInt8) : List UInt8 := unfix (restL C)
def rowI2 (X : List UInt8) : Int := (rrG (X.take (ltF digB X))).1
def valC (s : List UInt8) (b : Bool) (C : List UInt8) : AV :=
  bcond ((rcG2 (headL C)).2 == 0 && rwP (rowX C)) (.tuple [.agg [.str s, .int .i64 (rowI2 (rowX C)), .int .i64 (rcG2 (headL C)).1, .bool (cpB 36 (restL C)), .bool b, .bool false], .int .i64 0]) noV
theorem tlI_eq (l : List UInt8) (h : Nat) : tlI l (h : Int) = l.drop h := by
  unfold tlI
  rw [Int.toNat_natCast, List.take_of_length_le (by rw [List.length_drop]; omega)]
theorem rowU_run (l s : List UInt8) (c : Int) (b a : Bool) (h : Nat) (hh : h ≤ l.length) : (rowU l s c b a (h : Int)).run pure2 = pure2 (bcond (rwP (l.drop h)) (.tuple [.agg [.str s, .int .i64 (rowI2 (l.drop h)), .int .i64 c, .bool a, .bool b, .bool false], .int .i64 0]) noV) [] := by
  unfold rowU
  simp only [Ans.run, Ans.chk, noRefE]
  rw [bcT (b := decide (0 ≤ (h : Int) ∧ _)) (decide_eq_true (by rw [Int.toNat_natCast]; omega)), tlI_eq]
  rcases row_eq (l.drop h) with ⟨h1, h2, h3⟩ | ⟨h1, h2⟩
  · rw [h1, h2]
    show pure2 (.tuple [.agg [.str s, .int .i64 (((rrG _).1.toNat : Nat) : Int), _, _, _, _], _]) [] = _
    rw [← h3]; rfl
  · rw [h1, h2]; rfl
theorem colU_run (l s : List UInt8) (b : Bool) (i : Nat) (hi : i ≤ l.length) (hl : l.length ≤ 1000000) : (colU okM rcG2 l s b (i : Int)).run pure2 = pure2 (valC s b (l.drop i)) [] := by
  have hle := ltF_le letB (l.drop i)
  rw [List.length_drop] at hle
  have hhi : hiI l (i : Int) = ((i + ltF letB (l.drop i) : Nat) : Int) := by unfold hiI; rw [Int.toNat_natCast]
  have hcu : cuI l (i : Int) = headL (l.drop i) := by
    unfold cuI headL
    rw [hhi, Int.toNat_natCast, Int.toNat_natCast, show i + ltF letB (l.drop i) - i = ltF letB (l.drop i) by omega]
  have hrest : restL (l.drop i) = l.drop (i + ltF letB (l.drop i)) := by unfold restL; rw [List.drop_drop]
  unfold colU
  simp only [Ans.run, Ans.chk, noRefE]
  rw [hhi, hcu]
  generalize hH : i + ltF letB (l.drop i) = H at *
  have hHl : H ≤ l.length := by omega
  rw [bcT (b := decide (0 ≤ (i : Int) ∧ (i : Int).toNat ≤ l.length ∧ _)) (decide_eq_true (by rw [Int.toNat_natCast]; omega))]
  rw [bcT (b := decide (0 ≤ (i : Int) ∧ _)) (decide_eq_true (by rw [Int.toNat_natCast, Int.toNat_natCast]; omega))]
  rw [bcT (b := okM _) (decide_eq_true (by unfold headL; rw [List.length_take, List.length_drop]; omega))]
  unfold valC rowX
  rw [hrest]
  rcases rc_err (headL (l.drop i)) with h0 | h0
  · rw [h0, bcF (b := ((0 : Int) != 0)) rfl, show ((0 : Int) == 0) = true from rfl, Bool.true_and]
    by_cases h1 : H < l.length
    · rw [bcT (b := decide ((H : Int) < (l.length : Int))) (decide_eq_true (by omega)), bcT (b := decide (0 ≤ (H : Int) ∧ _)) (decide_eq_true (by rw [Int.toNat_natCast]; omega))]
      have hb : (byteAt l (H : Int).toNat == 36) = cpB 36 (l.drop H) := by
        rw [cp_drop, decide_eq_true h1, Bool.true_and, Int.toNat_natCast]
        exact byte_is 36 h1
      rw [hb]
      unfold unfix
      cases hc : cpB 36 (l.drop H) with
      | true =>
        have hw : swA (H : Int) = ((H + 1 : Nat) : Int) := by unfold swA; rw [i64_in (by omega) (by omega)]; rfl
        have := rowU_run l s (rcG2 (headL (l.drop i))).1 b true (H + 1) (by omega)
        rw [bcT rfl, bcT rfl, hw, this, List.drop_drop]
      | false =>
        rw [bcF rfl, bcF rfl]
        exact rowU_run l s _ b false H hHl
    · have hc : cpB 36 (l.drop H) = false := by rw [cp_drop, decide_eq_false h1]; rfl
      rw [bcF (b := decide ((H : Int) < (l.length : Int))) (decide_eq_false (by omega))]
      unfold unfix
      rw [hc, bcF rfl]
      exact rowU_run l s _ b false H hHl
  · rw [h0]; rfl
/-- What the program reads, by the same parts. -/
theorem rd_parts (l : List UInt8) : AV.tuple [(rdV l).v, .int .i64 (rdE l)] = bcond (l == [35, 82, 69, 70, 33]) (.tuple [.agg [.str [], .int .i64 0, .int .i64 0, .bool false, .bool false, .bool true], .int .i64 0]) (bcond (csS l).2.2 (valC (csS l).1 (cpB 36 (csS l).2.1) (unfix (csS l).2.1)) noV) := by
  have hK : colA l = headL (unfix (csS l).2.1) := ahd_lt let_low _
  have hR : trimF letB (colP csS l) = restL (unfix (csS l).2.1) := trim_lt let_low _
  have hX : rowP csS (trimF letB) l = rowX (unfix (csS l).2.1) := by unfold rowP rowX; rw [hR]
  have hD : rowA l = (rowX (unfix (csS l).2.1)).take (ltF digB (rowX (unfix (csS l).2.1))) := by unfold rowA; rw [hX]; exact ahd_lt dig_low _
  have hT : trimF digB (rowP csS (trimF letB) l) = (rowX (unfix (csS l).2.1)).drop (ltF digB (rowX (unfix (csS l).2.1))) := by rw [hX]; exact trim_lt dig_low _
  have hG : rcG (headL (unfix (csS l).2.1)) = rcG2 (headL (unfix (csS l).2.1)) := rc_letters (lt_all letB _)
  unfold rdV rdE
  cases l == [35, 82, 69, 70, 33] with
  | true => rfl
  | false =>
    rw [bcF rfl, bcF rfl, bcF rfl]
    unfold rdC
    rw [hK, hD, hT, hG]
    unfold valC rdX
    rw [hK, hD, hR, hG]
    unfold rwP rowI2
    cases (csS l).2.2 with
    | false => rfl
    | true =>
      rw [Bool.true_and, bcT rfl, Bool.and_assoc]
      generalize ((rcG2 (headL (unfix (csS l).2.1))).2 == 0 && _) = q
      cases q <;> rfl
theorem readD_ok : EntOK Tryz.prog 10 (entRd rdV rdE) := fun args pre => by
  unfold entRd
  split
  · rename_i l
    refine of_run (ans_comes tabRdX_ok (readD_comes shD letB okM rcD l) lvRd_ok) fun r h => ?_
    obtain ⟨h1, h⟩ := chk_run h
    have hl := of_decide_eq_true h1
    rw [← h]
    simp only [Ans.run]
    rw [rd_parts]
    unfold rdU
    rw [show rcD = rcG2 from funext rc_eq]
    simp only [Ans.run, Ans.chk, noRefE]
    cases l == [35, 82, 69, 70, 33] with
    | true => rfl
    | false =>
      rw [bcF rfl, bcF rfl, bcT (b := decide (l.length ≤ 1000000)) h1]
      rcases cs_sh l with ⟨c1, c2⟩ | ⟨c1, z, c2, c3, c4⟩
      · rw [c1, bcF (b := false) rfl]
        rcases c2 with c2 | ⟨c2, c3⟩
        · rw [bcT (b := decide ((shD l).2 < 0)) (decide_eq_true c2)]; rfl
        · obtain ⟨r, rfl⟩ : ∃ r, l = 39 :: r := by
            cases l with
            | nil => cases c2
            | cons c r => exact ⟨r, by rw [show c = 39 from (List.cons.inj c2).1]⟩
          rw [c3, bcF (b := decide ((0 : Int) < 0)) rfl, bcT (b := decide ((0 : Int) < ((39 :: r).length : Int))) (decide_eq_true (by simp only [List.length_cons]; omega)), bcT (b := decide ((0 : Int) ≤ 0 ∧ _)) (decide_eq_true (by simp)), bcF (b := byteAt (39 :: r) (Int.toNat 0) == 36) rfl]
          have := colU_run (39 :: r) [] false 0 (Nat.zero_le _) hl
          rw [show ((0 : Nat) : Int) = 0 from rfl] at this
          rw [this]; rfl
      · rw [c1, bcT (b := true) rfl, ← c4, c2]
        rw [bcF (b := decide ((z : Int) < 0)) (decide_eq_false (by omega))]
        by_cases h2 : z < l.length
        · have hb : (byteAt l (z : Int).toNat == 36) = cpB 36 (l.drop z) := by
            rw [cp_drop, decide_eq_true h2, Bool.true_and, Int.toNat_natCast]
            exact byte_is 36 h2
          rw [bcT (b := decide ((z : Int) < (l.length : Int))) (decide_eq_true (by omega)), bcT (b := decide (0 ≤ (z : Int) ∧ _)) (decide_eq_true (by rw [Int.toNat_natCast]; omega)), hb]
          unfold unfix
          cases hc : cpB 36 (l.drop z) with
          | true =>
            have hw : swA (z : Int) = ((z + 1 : Nat) : Int) := by unfold swA; rw [i64_in (by omega) (by omega)]; rfl
            rw [bcT rfl, bcT rfl, hw, colU_run l _ true (z + 1) (by omega) hl, List.drop_drop]
          | false =>
            rw [bcF rfl, bcF rfl]
            exact colU_run l _ false z c3 hl
        · have hc : cpB 36 (l.drop z) = false := by rw [cp_drop, decide_eq_false h2]; rfl
          rw [bcF (b := decide ((z : Int) < (l.length : Int))) (decide_eq_false (by omega))]
          unfold unfix
          rw [hc, bcF rfl]
          exact colU_run l _ false z c3 hl
  · trivial
end Go.Proofs.YtanhlbdcjonaoaaGreatDoor

/- Layer 2, the document's own answers: tables with functions that are not looked into. -/
set_option linter.unusedVariables false
set_option linter.unusedSimpArgs false
namespace Go.Proofs.YtanhlbdcjonaoaaGreatDoor
open Go Sx

def entRi (F : Rf → Bool) : Ent := fun args pre => match args, pre with
  | [.agg [.str s, .int .i64 r, .int .i64 c, .bool a, .bool b, .bool d]], [] => .chk (decide (s.length ≤ 9223372036854775807)) (.ret (.bool (F ⟨s, r, c, a, b, d⟩)) [])
  | _, _ => .fail
def entIa (F : Ar → Bool) : Ent := fun args pre => match args, pre with
  | [.agg [.int .i64 s, .int .i64 r, .int .i64 c, .int .i64 h, .int .i64 w]], [] => .chk (Ar.inB ⟨s, r, c, h, w⟩) (.ret (.bool (F ⟨s, r, c, h, w⟩)) [])
  | _, _ => .fail
def eBOw (P : List UInt8 → Bool) : Ent := fun args pre => match args, pre with
  | [.str l], [] => .chk (decide (l.length ≤ 9223372036854775807)) (.ret (.bool (P l)) [])
  | _, _ => .fail
def tabRi (N : List UInt8 → Bool) : Tab := (49, eBOw N) :: tab0
def tabAr (F : Rf → Bool) (I : Ar → Bool) : Tab := (17, entRi F) :: (69, entIa I) :: tab0
def eColX (okc : Int → Bool) (C : Int → List UInt8) (E : Int → Int) : Ent := fun args pre => match args, pre with
  | [.int .i64 n], [] => .chk (okc n) (.ret (.tuple [.str (C n), .int .i64 (E n)]) [])
  | _, _ => .fail
def eStX (ok : List UInt8 → Bool) (P : List UInt8 → Bool) : Ent := fun args pre => match args, pre with
  | [.str l], [] => .chk (ok l) (.ret (.bool (P l)) [])
  | _, _ => .fail
def eQuX (ok : List UInt8 → Bool) (P : List UInt8 → List UInt8) : Ent := fun args pre => match args, pre with
  | [.str l], [] => .chk (ok l) (.ret (.str (P l)) [])
  | _, _ => .fail
def tabTx (F : Rf → Bool) (okp : List UInt8 → Bool) (P : List UInt8 → Bool) (Q : List UInt8 → List UInt8) (okc : Int → Bool) (C : Int → List UInt8) (E : Int → Int) (okd : Int → Bool) (D : Int → List UInt8) : Tab :=
  (17, entRi F) :: (27, eStX okp P) :: (8, eQuX okp Q) :: (14, eColX okc C E) :: (28, eDigO okd D) :: tab0
end Go.Proofs.YtanhlbdcjonaoaaGreatDoor

/- Layer 2, the document's own answers: right references, areas, moves, places. -/
set_option linter.unusedVariables false
set_option linter.unusedSimpArgs false
namespace Go.Proofs.YtanhlbdcjonaoaaGreatDoor
open Go Sx

theorem nameW_ok : EntOK Tryz.prog 49 (eBOw nameB) := fun args pre => by
  unfold eBOw
  split
  · rename_i l; exact isSheet2_ok [.str l] []
  · trivial
theorem tabRi_ok : TabOK Tryz.prog (tabRi nameB) := .cons nameW_ok tab0_ok
def noB : Ans := .ret (.bool false) []
def rngT (r c : Int) : Ans := .br (decide (r ≥ 0)) (.br (decide (r ≤ 199)) (.br (decide (c ≥ 0)) (.ret (.bool (decide (c ≤ 51))) []) noB) noB) noB
theorem rngT_run (r c : Int) : (rngT r c).run pure2 = pure2 (.bool (decide (0 ≤ r ∧ r < 200 ∧ 0 ≤ c ∧ c < 52))) [] := by
  have key : ∀ b c : Bool, b = c → pure2 (.bool b) [] = pure2 (.bool c) [] := fun b c e => by rw [e]
  unfold rngT noB
  simp only [Ans.run]
  by_cases c1 : r ≥ 0
  · rw [bcT (decide_eq_true c1)]
    by_cases c2 : r ≤ 199
    · rw [bcT (decide_eq_true c2)]
      by_cases c3 : c ≥ 0
      · rw [bcT (decide_eq_true c3)]; exact key _ _ (by rw [decide_eq_decide]; omega)
      · rw [bcF (decide_eq_false c3)]; exact key _ _ (by simp; omega)
    · rw [bcF (decide_eq_false c2)]; exact key _ _ (by simp; omega)
  · rw [bcF (decide_eq_false c1)]; exact key _ _ (by simp; omega)
theorem rightD_ok : EntOK Tryz.prog 17 (entRi rightB) := fun args pre => by
  unfold entRi
  split
  · rename_i s r c a b d
    have e : Comes (tabRi nameB) nolv 17 [.agg [.str s, .int .i64 r, .int .i64 c, .bool a, .bool b, .bool d]] []
      (.br d (.br (s == []) (.br (r == 0) (.br (c == 0) (.br (!a) (.ret (.bool !b) []) noB) noB) noB) noB)
        (.chk (decide (s.length ≤ 9223372036854775807)) (.br (nameB s) (rngT r c) (.br (s == []) (rngT r c) noB)))) := by unfold Comes; kernel_rfl
    refine of_run (ans_comes tabRi_ok e) fun x h => ?_
    obtain ⟨h1, h⟩ := chk_run h
    rw [← h]
    simp only [Ans.run, Ans.chk, rngT_run]
    unfold rightB noB
    cases d with
    | true =>
      simp only [bcond, Ans.run]
      cases s == [] <;> cases r == 0 <;> cases c == 0 <;> cases a <;> cases b <;> rfl
    | false =>
      rw [bcF rfl, bcT h1, bcF rfl, sheet_name]
      cases hs : s with
      | nil =>
        rw [name_nil]
        simp only [bcond, List.beq_nil_eq, Bool.true_and, Bool.not_true]
        rfl
      | cons x t =>
        rw [show ((x :: t : List UInt8) == []) = false from rfl, Bool.not_false, bcT (b := true) rfl]
        cases nameB (x :: t) <;> rfl
  · trivial
theorem isAreaD_ok : EntOK Tryz.prog 69 (entIa Ar.ok) := fun args pre => by
  unfold entIa
  split
  · rename_i n r c h w
    have e : Comes tab0 nolv 69 [.agg [.int .i64 n, .int .i64 r, .int .i64 c, .int .i64 h, .int .i64 w]] []
      (.br (decide (n < 0)) noB (.br (decide (n > 7)) noB (.br (decide (r < 0)) noB (.br (decide (r > 199)) noB (.br (decide (c < 0)) noB (.br (decide (c > 51)) noB
        (.br (decide (h ≥ 1)) (.br (decide (h ≤ IntKind.i64.wrap (200 - r))) (.br (decide (w ≥ 1)) (.ret (.bool (decide (w ≤ IntKind.i64.wrap (52 - c)))) []) noB) noB) noB))))))) := by unfold Comes; kernel_rfl
    refine of_run (ans_comes tab0_ok e) fun x h => ?_
    obtain ⟨h1, h⟩ := chk_run h
    rw [← h]
    have key : ∀ b c : Bool, b = c → pure2 (.bool b) [] = pure2 (.bool c) [] := fun b c e => by rw [e]
    unfold noB
    simp only [Ans.run, Ar.ok]
    by_cases c1 : n < 0
    · rw [bcT (decide_eq_true c1)]; exact key _ _ (by simp; omega)
    rw [bcF (decide_eq_false c1)]
    by_cases c2 : n > 7
    · rw [bcT (decide_eq_true c2)]; exact key _ _ (by simp; omega)
    rw [bcF (decide_eq_false c2)]
    by_cases c3 : r < 0
    · rw [bcT (decide_eq_true c3)]; exact key _ _ (by simp; omega)
    rw [bcF (decide_eq_false c3)]
    by_cases c4 : r > 199
    · rw [bcT (decide_eq_true c4)]; exact key _ _ (by simp; omega)
    rw [bcF (decide_eq_false c4)]
    by_cases c5 : c < 0
    · rw [bcT (decide_eq_true c5)]; exact key _ _ (by simp; omega)
    rw [bcF (decide_eq_false c5)]
    by_cases c6 : c > 51
    · rw [bcT (decide_eq_true c6)]; exact key _ _ (by simp; omega)
    rw [bcF (decide_eq_false c6), i64_in (n := 200 - r) (by omega) (by omega), i64_in (n := 52 - c) (by omega) (by omega)]
    rename_i h'
    by_cases c7 : w ≥ 1
    · rw [decide_eq_true c7]
      simp only [bcond]
      split
      · rename_i g1
        have g1 := of_decide_eq_true g1
        split
        · rename_i g2
          have g2 := of_decide_eq_true g2
          exact key _ _ (by rw [decide_eq_decide]; omega)
        · rename_i g2
          have g2 := of_decide_eq_false g2
          exact key _ _ (by simp; omega)
      · rename_i g1
        have g1 := of_decide_eq_false g1
        exact key _ _ (by simp; omega)
    · rw [decide_eq_false c7]
      simp only [bcond]
      split
      · split
        · exact key _ _ (by simp; omega)
        · exact key _ _ (by simp; omega)
      · exact key _ _ (by simp; omega)
  · trivial
theorem tabArD_ok : TabOK Tryz.prog (tabAr rightB Ar.ok) := .cons rightD_ok (.cons isAreaD_ok tab0_ok)
end Go.Proofs.YtanhlbdcjonaoaaGreatDoor

/- Layer 2, the document's own answers: moves, places in areas, areas between references. -/
set_option linter.unusedVariables false
set_option linter.unusedSimpArgs false
namespace Go.Proofs.YtanhlbdcjonaoaaGreatDoor
open Go Sx

def eMovedD : Ent := fun args pre => match args, pre with
  | [.agg [.str s, .int .i64 r, .int .i64 c, .bool a, .bool b, .bool d], .int .i64 m, .int .i64 n], [] =>
    .chk (inI m && inI n && decide (s.length ≤ 9223372036854775807)) (.ret (.tuple [(mvO ⟨s, r, c, a, b, d⟩ m n).v, .int .i64 (erM ⟨s, r, c, a, b, d⟩ m n)]) [])
  | _, _ => .fail
def noR : Ans := .ret (.tuple [noRf.v, .int .i64 20]) []
def mvT (F : Rf → Bool) (x : Rf) : Ans := .chk (decide (x.s.length ≤ 9223372036854775807)) (.br (!F x) noR (.ret (.tuple [x.v, .int .i64 0]) []))
def ofT (m : Int) (x : Ans) : Ans := .br (decide (m < -200)) noR (.br (decide (m > 200)) noR x)
theorem movedD_comes (F : Rf → Bool) (I : Ar → Bool) (s : List UInt8) (r c m n : Int) (a b d : Bool) : Comes (tabAr F I) nolv 19 [.agg [.str s, .int .i64 r, .int .i64 c, .bool a, .bool b, .bool d], .int .i64 m, .int .i64 n] []
  (.chk (decide (s.length ≤ 9223372036854775807)) (.br (!F ⟨s, r, c, a, b, d⟩) noR (.br d (.ret (.tuple [(⟨s, r, c, a, b, d⟩ : Rf).v, .int .i64 0]) [])
    (.br (!a) (ofT m (.br (!b) (ofT n (mvT F ⟨s, IntKind.i64.wrap (r + m), IntKind.i64.wrap (c + n), a, b, d⟩)) (mvT F ⟨s, IntKind.i64.wrap (r + m), c, a, b, d⟩)))
      (.br (!b) (ofT n (mvT F ⟨s, r, IntKind.i64.wrap (c + n), a, b, d⟩)) (mvT F ⟨s, r, c, a, b, d⟩)))))) := by unfold Comes; kernel_rfl
/-- What is far is off the sheet. -/
theorem far_off {r m : Int} (h : 0 ≤ r ∧ r < 200) (hm : inI m = true) (hf : m < -200 ∨ m > 200) : ¬ (0 ≤ IntKind.i64.wrap (r + m) ∧ IntKind.i64.wrap (r + m) < 200) := by
  have hm := inI_iff.1 hm
  have e : IntKind.i64.wrap (r + m) = (if (r + m) % 18446744073709551616 ≥ 9223372036854775808 then (r + m) % 18446744073709551616 - 18446744073709551616 else (r + m) % 18446744073709551616) := by
    simp [IntKind.wrap, IntKind.bits, IntKind.signed]
  rw [e]; split <;> omega
theorem mvT_run (z : Rf) (hs : z.s.length ≤ 9223372036854775807) : (mvT rightB z).run pure2 = bcond (!rightB z) (pure2 (.tuple [noRf.v, .int .i64 20]) []) (pure2 (.tuple [z.v, .int .i64 0]) []) := by
  unfold mvT noR
  simp only [Ans.run, Ans.chk]
  rw [bcT (decide_eq_true hs)]
theorem ofT_run (m : Int) (x : Ans) : (ofT m x).run pure2 = bcond (decide (m < -200 ∨ m > 200)) (pure2 (.tuple [noRf.v, .int .i64 20]) []) (x.run pure2) := by
  unfold ofT noR
  simp only [Ans.run]
  by_cases c1 : m < -200
  · rw [bcT (decide_eq_true c1), bcT (decide_eq_true (.inl c1))]
  · rw [bcF (decide_eq_false c1)]
    by_cases c2 : m > 200
    · rw [bcT (decide_eq_true c2), bcT (decide_eq_true (.inr c2))]
    · rw [bcF (decide_eq_false c2), bcF (decide_eq_false (by omega))]
def outM (z : Rf) : Option (AV × List PObj) := bcond (!rightB z) (pure2 (.tuple [noRf.v, .int .i64 20]) []) (pure2 (.tuple [z.v, .int .i64 0]) [])
theorem outM_bad {z : Rf} (h : rightB z = false) : outM z = pure2 (.tuple [noRf.v, .int .i64 20]) [] := by unfold outM; rw [h]; rfl
theorem outM_eq (z : Rf) : outM z = pure2 (.tuple [Rf.v (bcond (!rightB z) noRf z), .int .i64 (bcond (!rightB z) 20 0)]) [] := by unfold outM; cases rightB z <;> rfl
theorem movedD_ok : EntOK Tryz.prog 19 eMovedD := fun args pre => by
  unfold eMovedD
  split
  · rename_i s r c a b d m n
    refine of_run (ans_comes tabArD_ok (movedD_comes rightB Ar.ok s r c m n a b d)) fun x h => ?_
    obtain ⟨h1, h⟩ := chk_run h
    simp only [Bool.and_eq_true, decide_eq_true_eq] at h1
    obtain ⟨⟨hm, hn⟩, hs⟩ := h1
    rw [← h]
    simp only [Ans.run, Ans.chk, ofT_run, noR]
    rw [mvT_run ⟨s, IntKind.i64.wrap (r + m), IntKind.i64.wrap (c + n), a, b, d⟩ hs, mvT_run ⟨s, IntKind.i64.wrap (r + m), c, a, b, d⟩ hs, mvT_run ⟨s, r, IntKind.i64.wrap (c + n), a, b, d⟩ hs, mvT_run ⟨s, r, c, a, b, d⟩ hs, bcT (decide_eq_true hs)]
    unfold mvO erM
    cases h2 : rightB ⟨s, r, c, a, b, d⟩ with
    | false => rfl
    | true =>
      cases d with
      | true => rfl
      | false =>
        have hb := right_bd h2 rfl
        simp only at hb
        show bcond (!a) _ _ = pure2 (.tuple [Rf.v (bcond (!rightB (mvR ⟨s, r, c, a, b, false⟩ m n)) noRf (mvR ⟨s, r, c, a, b, false⟩ m n)), .int .i64 (bcond (!rightB (mvR ⟨s, r, c, a, b, false⟩ m n)) 20 0)]) []
        rw [← outM_eq]
        have key : ∀ (r' c' : Int), ¬ (0 ≤ r' ∧ r' < 200 ∧ 0 ≤ c' ∧ c' < 52) → rightB ⟨s, r', c', a, b, false⟩ = false := fun r' c' hn => by
          rw [right_iff (x := ⟨s, r, c, a, b, false⟩) h2 rfl]; exact decide_eq_false hn
        cases a with
        | true =>
          rw [bcF (b := !true) rfl]
          cases b with
          | true =>
            rw [bcF (b := !true) rfl]
            show _ = outM ⟨s, r, c, true, true, false⟩
            unfold outM
            rw [h2]
          | false =>
            rw [bcT (b := !false) rfl]
            by_cases c1 : n < -200 ∨ n > 200
            · rw [bcT (decide_eq_true c1), outM_bad]
              exact key r (IntKind.i64.wrap (c + n)) fun hk => by have := far_off ⟨hb.2.2.1, by omega⟩ hn c1; omega
            · rw [bcF (decide_eq_false c1)]; rfl
        | false =>
          rw [bcT (b := !false) rfl]
          by_cases c1 : m < -200 ∨ m > 200
          · rw [bcT (decide_eq_true c1), outM_bad]
            have := far_off ⟨hb.1, hb.2.1⟩ hm c1
            exact key (IntKind.i64.wrap (r + m)) (bcond (!b) (IntKind.i64.wrap (c + n)) c) fun hk => this ⟨hk.1, hk.2.1⟩
          · rw [bcF (decide_eq_false c1)]
            cases b with
            | true => rfl
            | false =>
              rw [bcT (b := !false) rfl]
              by_cases c2 : n < -200 ∨ n > 200
              · rw [bcT (decide_eq_true c2), outM_bad]
                exact key (IntKind.i64.wrap (r + m)) (IntKind.i64.wrap (c + n)) fun hk => by have := far_off ⟨hb.2.2.1, by omega⟩ hn c2; omega
              · rw [bcF (decide_eq_false c2)]; rfl
  · trivial
theorem hasD_ok : EntOK Tryz.prog 52 eHas := fun args pre => by
  unfold eHas
  split
  · rename_i a0 a1 a2 a3 a4 b0 b1 b2
    have e : Comes (tabAr rightB Ar.ok) nolv 52 [.agg [.int .i64 a0, .int .i64 a1, .int .i64 a2, .int .i64 a3, .int .i64 a4], .agg [.int .i64 b0, .int .i64 b1, .int .i64 b2]] []
      (.chk (Ar.inB ⟨a0, a1, a2, a3, a4⟩) (.br (Ar.ok ⟨a0, a1, a2, a3, a4⟩) (.br (b0 == a0) (.br (decide (b1 ≥ a1)) (.br (decide (b1 < IntKind.i64.wrap (a1 + a3))) (.br (decide (b2 ≥ a2)) (.ret (.bool (decide (b2 < IntKind.i64.wrap (a2 + a4)))) []) noB) noB) noB) noB) noB)) := by unfold Comes; kernel_rfl
    refine of_run (ans_comes tabArD_ok e) fun x h => ?_
    obtain ⟨h1, h⟩ := chk_run h
    rw [← h]
    simp only [Ans.run, Ans.chk, noB]
    rw [bcT h1]
    have key : ∀ b c : Bool, b = c → pure2 (.bool b) [] = pure2 (.bool c) [] := fun b c e => by rw [e]
    unfold hasB
    cases hk : Ar.ok ⟨a0, a1, a2, a3, a4⟩ with
    | false => rfl
    | true =>
      have ha := Ar.ok_iff.1 hk
      simp only at ha
      rw [bcT rfl, i64_in (n := a1 + a3) (by omega) (by omega), i64_in (n := a2 + a4) (by omega) (by omega)]
      have hc : (b0 == a0) = (a0 == b0) := by rw [Bool.eq_iff_iff, beq_iff_eq, beq_iff_eq]; exact ⟨Eq.symm, Eq.symm⟩
      rw [hc]
      cases a0 == b0 with
      | false => rfl
      | true =>
        rw [bcT rfl, Bool.and_self, Bool.true_and]
        by_cases c1 : b1 ≥ a1
        · rw [bcT (decide_eq_true c1)]
          by_cases c2 : b1 < a1 + a3
          · rw [bcT (decide_eq_true c2)]
            by_cases c3 : b2 ≥ a2
            · rw [bcT (decide_eq_true c3)]; exact key _ _ (by simp only [decide_eq_decide]; omega)
            · rw [bcF (decide_eq_false c3)]; exact key _ _ (by simp; omega)
          · rw [bcF (decide_eq_false c2)]; exact key _ _ (by simp; omega)
        · rw [bcF (decide_eq_false c1)]; exact key _ _ (by simp; omega)
  · trivial
def eAreaD : Ent := fun args pre => match args, pre with
  | [.agg [.str s, .int .i64 r, .int .i64 c, .bool a, .bool b, .bool d], .agg [.str s2, .int .i64 r2, .int .i64 c2, .bool a2, .bool b2, .bool d2], .int .i64 n], [] =>
    .chk (decide (s.length ≤ 9223372036854775807) && decide (s2.length ≤ 9223372036854775807)) (.ret (.tuple [(arA ⟨s, r, c, a, b, d⟩ ⟨s2, r2, c2, a2, b2, d2⟩ n).v, .int .i64 (erA ⟨s, r, c, a, b, d⟩ ⟨s2, r2, c2, a2, b2, d2⟩ n)]) [])
  | _, _ => .fail
def dfI (a b : Int) : Int := IntKind.i64.wrap (IntKind.i64.wrap (a - b) + 1)
theorem dfI_eq {a b : Int} (h1 : 0 ≤ a) (h2 : a < 200) (h3 : 0 ≤ b) (h4 : b < 200) : dfI a b = a - b + 1 := by
  unfold dfI
  rw [i64_in (n := a - b) (by omega) (by omega), i64_in (by omega) (by omega)]
def aro (n r c h w : Int) : Ans := .ret (.tuple [.agg [.int .i64 n, .int .i64 r, .int .i64 c, .int .i64 h, .int .i64 w], .int .i64 0]) []
theorem areaD_comes (F : Rf → Bool) (I : Ar → Bool) (s s2 : List UInt8) (r c r2 c2 n : Int) (a b d a2 b2 d2 : Bool) : Comes (tabAr F I) nolv 21 [.agg [.str s, .int .i64 r, .int .i64 c, .bool a, .bool b, .bool d], .agg [.str s2, .int .i64 r2, .int .i64 c2, .bool a2, .bool b2, .bool d2], .int .i64 n] []
  (.br (decide (n < 0)) (noA 2) (.br (decide (n > 7)) (noA 2) (.chk (decide (s.length ≤ 9223372036854775807)) (.chk (decide (s2.length ≤ 9223372036854775807)) (.br (!F ⟨s, r, c, a, b, d⟩) (noA 20) (.br (!F ⟨s2, r2, c2, a2, b2, d2⟩) (noA 20) (.br d (noA 20) (.br d2 (noA 20)
    (.br (decide (r2 < r)) (.br (decide (c2 < c)) (aro n r2 c2 (dfI r r2) (dfI c c2)) (aro n r2 c (dfI r r2) (dfI c2 c))) (.br (decide (c2 < c)) (aro n r c2 (dfI r2 r) (dfI c c2)) (aro n r c (dfI r2 r) (dfI c2 c)))))))))))) := by unfold Comes; kernel_rfl
theorem areaD_ok : EntOK Tryz.prog 21 eAreaD := fun args pre => by
  unfold eAreaD
  split
  · rename_i s r c a b d s2 r2 c2 a2 b2 d2 n
    refine of_run (ans_comes tabArD_ok (areaD_comes rightB Ar.ok s s2 r c r2 c2 n a b d a2 b2 d2)) fun x h => ?_
    obtain ⟨h1, h⟩ := chk_run h
    rw [Bool.and_eq_true] at h1
    rw [← h]
    simp only [Ans.run, Ans.chk, noA, aro]
    rw [bcT h1.1, bcT h1.2]
    unfold arA erA
    have hn : decide (n > 7) = decide (n ≥ 8) := by rw [decide_eq_decide]; omega
    rw [hn]
    cases h2 : decide (n < 0) with
    | true => rfl
    | false =>
      cases h3 : decide (n ≥ 8) with
      | true => rfl
      | false =>
        cases h4 : rightB ⟨s, r, c, a, b, d⟩ with
        | false => rfl
        | true =>
          cases h5 : rightB ⟨s2, r2, c2, a2, b2, d2⟩ with
          | false => rfl
          | true =>
            cases d with
            | true => rfl
            | false =>
              cases d2 with
              | true => rfl
              | false =>
                have k1 := right_bd h4 rfl
                have k2 := right_bd h5 rfl
                simp only at k1 k2
                rw [dfI_eq (a := r) (b := r2) (by omega) (by omega) (by omega) (by omega), dfI_eq (a := r2) (b := r) (by omega) (by omega) (by omega) (by omega), dfI_eq (a := c) (b := c2) (by omega) (by omega) (by omega) (by omega), dfI_eq (a := c2) (b := c) (by omega) (by omega) (by omega) (by omega)]
                have fin : ∀ {r' c' h' w' : Int}, r' = min r r2 → c' = min c c2 → h' = max r r2 + 1 - min r r2 → w' = max c c2 + 1 - min c c2 → pure2 (.tuple [.agg [.int .i64 n, .int .i64 r', .int .i64 c', .int .i64 h', .int .i64 w'], .int .i64 0]) [] = pure2 (.tuple [(arM ⟨s, r, c, a, b, false⟩ ⟨s2, r2, c2, a2, b2, false⟩ n).v, .int .i64 0]) [] := fun e1 e2 e3 e4 => by rw [e1, e2, e3, e4]; rfl
                show bcond (decide (r2 < r)) _ _ = pure2 (.tuple [(arM ⟨s, r, c, a, b, false⟩ ⟨s2, r2, c2, a2, b2, false⟩ n).v, .int .i64 0]) []
                by_cases c1 : r2 < r
                · rw [bcT (decide_eq_true c1)]
                  by_cases c3 : c2 < c
                  · rw [bcT (decide_eq_true c3)]; exact fin (by omega) (by omega) (by omega) (by omega)
                  · rw [bcF (decide_eq_false c3)]; exact fin (by omega) (by omega) (by omega) (by omega)
                · rw [bcF (decide_eq_false c1)]
                  by_cases c3 : c2 < c
                  · rw [bcT (decide_eq_true c3)]; exact fin (by omega) (by omega) (by omega) (by omega)
                  · rw [bcF (decide_eq_false c3)]; exact fin (by omega) (by omega) (by omega) (by omega)
  · trivial
end Go.Proofs.YtanhlbdcjonaoaaGreatDoor

/- Layer 2, the document's own answers: what two areas share. -/
set_option linter.unusedVariables false
set_option linter.unusedSimpArgs false
namespace Go.Proofs.YtanhlbdcjonaoaaGreatDoor
open Go Sx

def obA (x : Ar) : Option PObj := some (.raw (.cells [.int .i64 x.s, .int .i64 x.r, .int .i64 x.c, .int .i64 x.h, .int .i64 x.w] 25))
def zAr : Ar := ⟨0, 0, 0, 0, 0⟩
def stMt (x y z o : Ar) : PState :=
  ⟨none :: none :: some (.ptr 0 0) :: some (.ptr 1 0) :: some (.ptr 2 0) :: none :: none :: none :: some (.ptr 3 0) :: List.replicate 83 none, obA x :: obA y :: obA z :: obA o :: List.replicate 64 none⟩
def w64 (a : Int) : Int := IntKind.i64.wrap a
def mnW (a b c d : Int) : Int := if w64 (c + d) < w64 (a + b) then w64 (c + d) else w64 (a + b)
theorem roundM1 (x y z o : Ar) : code (ent (R := Ex × PState) Tryz.prog tab0 nolv 64 18446744073709551616 30) Tryz.prog {} 0 64 18446744073709551616 ((loopBodies (bodyOf Tryz.f51)).headD .skip) (stMt x y z o) (endK 0 64 (fun n => hasN [2, 3, 4, 8] n) (fun n => hasN [2, 3, 4, 8] n)) =
    bcond (decide (w64 (o.r + o.h) < mnW x.r x.h y.r y.h)) (some (.normal, stMt x y z ⟨o.s, o.r, o.c, swA o.h, o.w⟩)) (some (.exit 0, stMt x y z o)) := by kernel_rfl
theorem roundM2 (x y z o : Ar) : code (ent (R := Ex × PState) Tryz.prog tab0 nolv 64 18446744073709551616 30) Tryz.prog {} 0 64 18446744073709551616 (((loopBodies (bodyOf Tryz.f51)).drop 1).headD .skip) (stMt x y z o) (endK 0 64 (fun n => hasN [2, 3, 4, 8] n) (fun n => hasN [2, 3, 4, 8] n)) =
    bcond (decide (w64 (o.c + o.w) < mnW x.c x.w y.c y.w)) (some (.normal, stMt x y z ⟨o.s, o.r, o.c, o.h, swA o.w⟩)) (some (.exit 2, stMt x y z o)) := by kernel_rfl
/-- How many steps there are up to a bound. -/
def stepN (a lim : Int) : Nat := (lim - a).toNat
theorem mnW_eq {a b c d : Int} (h1 : 0 ≤ a ∧ a ≤ 1000) (h2 : 0 ≤ b ∧ b ≤ 1000) (h3 : 0 ≤ c ∧ c ≤ 1000) (h4 : 0 ≤ d ∧ d ≤ 1000) : mnW a b c d = min (a + b) (c + d) := by
  unfold mnW w64
  rw [i64_in (n := c + d) (by omega) (by omega), i64_in (n := a + b) (by omega) (by omega)]; omega
theorem loopM1 (x y z o : Ar) (hx : x.ok = true) (hy : y.ok = true) (ho : 0 ≤ o.r ∧ o.r ≤ 1000) (h0 : o.h = 0) : Tri Tryz.prog (.loop ((loopBodies (bodyOf Tryz.f51)).headD .skip)) (stMt x y z o).toA (.exit 0) (stMt x y z ⟨o.s, o.r, o.c, ((stepN o.r (min (x.r + x.h) (y.r + y.h)) : Nat) : Int), o.w⟩).toA 0 := by
  have ax := Ar.ok_iff.1 hx
  have ay := Ar.ok_iff.1 hy
  have key := loop_rounds (ι := { k : Nat // k ≤ stepN o.r (min (x.r + x.h) (y.r + y.h)) }) (ent_sound (NF := 64) (m := 18446744073709551616) tab0_ok host nolv_ok 30) (x := (loopBodies (bodyOf Tryz.f51)).headD .skip) (K := 0) (lv := {}) (NF := 64) (m := 18446744073709551616) (fun x hx id e h1 h2 => by cases h2) (fun n => hasN [2, 3, 4, 8] n) (fun n => hasN [2, 3, 4, 8] n) (fun k => stMt x y z ⟨o.s, o.r, o.c, (k.1 : Int), o.w⟩) (fun k => stepN o.r (min (x.r + x.h) (y.r + y.h)) - k.1) (fun k => (.exit 0, stMt x y z ⟨o.s, o.r, o.c, ((stepN o.r (min (x.r + x.h) (y.r + y.h)) : Nat) : Int), o.w⟩)) ?_ (fun k => by simp) ⟨0, Nat.zero_le _⟩
  · have e : stMt x y z ⟨o.s, o.r, o.c, ((0 : Nat) : Int), o.w⟩ = stMt x y z o := by
      cases o; simp only at h0; subst h0; rfl
    simp only at key
    rw [e] at key
    exact key
  rintro ⟨k, hk⟩
  simp only
  rw [roundM1, mnW_eq (by omega) (by omega) (by omega) (by omega)]
  unfold stepN at *
  have hw : w64 (o.r + (k : Int)) = o.r + k := i64_in (by omega) (by omega)
  simp only [hw]
  by_cases h : o.r + (k : Int) < min (x.r + x.h) (y.r + y.h)
  · rw [bcT (decide_eq_true h)]
    have hs : swA (k : Int) = ((k + 1 : Nat) : Int) := by unfold swA; rw [i64_in (by omega) (by omega)]; rfl
    rw [hs]
    exact .inl ⟨⟨k + 1, by omega⟩, by simp only; omega, trivial, rfl⟩
  · rw [bcF (decide_eq_false h)]
    right
    rw [show k = (min (x.r + x.h) (y.r + y.h) - o.r).toNat by omega]
theorem loopM2 (x y z o : Ar) (hx : x.ok = true) (hy : y.ok = true) (ho : 0 ≤ o.c ∧ o.c ≤ 1000) (h0 : o.w = 0) : Tri Tryz.prog (.loop (((loopBodies (bodyOf Tryz.f51)).drop 1).headD .skip)) (stMt x y z o).toA (.exit 2) (stMt x y z ⟨o.s, o.r, o.c, o.h, ((stepN o.c (min (x.c + x.w) (y.c + y.w)) : Nat) : Int)⟩).toA 0 := by
  have ax := Ar.ok_iff.1 hx
  have ay := Ar.ok_iff.1 hy
  have key := loop_rounds (ι := { k : Nat // k ≤ stepN o.c (min (x.c + x.w) (y.c + y.w)) }) (ent_sound (NF := 64) (m := 18446744073709551616) tab0_ok host nolv_ok 30) (x := ((loopBodies (bodyOf Tryz.f51)).drop 1).headD .skip) (K := 0) (lv := {}) (NF := 64) (m := 18446744073709551616) (fun x hx id e h1 h2 => by cases h2) (fun n => hasN [2, 3, 4, 8] n) (fun n => hasN [2, 3, 4, 8] n) (fun k => stMt x y z ⟨o.s, o.r, o.c, o.h, (k.1 : Int)⟩) (fun k => stepN o.c (min (x.c + x.w) (y.c + y.w)) - k.1) (fun k => (.exit 2, stMt x y z ⟨o.s, o.r, o.c, o.h, ((stepN o.c (min (x.c + x.w) (y.c + y.w)) : Nat) : Int)⟩)) ?_ (fun k => by simp) ⟨0, Nat.zero_le _⟩
  · have e : stMt x y z ⟨o.s, o.r, o.c, o.h, ((0 : Nat) : Int)⟩ = stMt x y z o := by
      cases o; simp only at h0; subst h0; rfl
    simp only at key
    rw [e] at key
    exact key
  rintro ⟨k, hk⟩
  simp only
  rw [roundM2, mnW_eq (by omega) (by omega) (by omega) (by omega)]
  unfold stepN at *
  have hw : w64 (o.c + (k : Int)) = o.c + k := i64_in (by omega) (by omega)
  simp only [hw]
  by_cases h : o.c + (k : Int) < min (x.c + x.w) (y.c + y.w)
  · rw [bcT (decide_eq_true h)]
    have hs : swA (k : Int) = ((k + 1 : Nat) : Int) := by unfold swA; rw [i64_in (by omega) (by omega)]; rfl
    rw [hs]
    exact .inl ⟨⟨k + 1, by omega⟩, by simp only; omega, trivial, rfl⟩
  · rw [bcF (decide_eq_false h)]
    right
    rw [show k = (min (x.c + x.w) (y.c + y.w) - o.c).toNat by omega]
def eM1 : Nat → PState → LAns := fun K t => match K, t with
  | 0, ⟨none :: none :: some (.ptr 0 0) :: some (.ptr 1 0) :: some (.ptr 2 0) :: none :: none :: none :: some (.ptr 3 0) :: rs,
      some (.raw (.cells [.int .i64 a0, .int .i64 a1, .int .i64 a2, .int .i64 a3, .int .i64 a4] 25)) :: some (.raw (.cells [.int .i64 b0, .int .i64 b1, .int .i64 b2, .int .i64 b3, .int .i64 b4] 25)) :: some (.raw (.cells [.int .i64 z0, .int .i64 z1, .int .i64 z2, .int .i64 z3, .int .i64 z4] 25)) :: some (.raw (.cells [.int .i64 o0, .int .i64 o1, .int .i64 o2, .int .i64 o3, .int .i64 o4] 25)) :: rm⟩ =>
    .chk (nonesV 83 rs) (.chk (nonesB 64 rm) (.chk (Ar.ok ⟨a0, a1, a2, a3, a4⟩ && Ar.ok ⟨b0, b1, b2, b3, b4⟩) (.chk (decide (0 ≤ o1 ∧ o1 ≤ 1000 ∧ o3 = 0))
      (.out (.exit 0) (stMt ⟨a0, a1, a2, a3, a4⟩ ⟨b0, b1, b2, b3, b4⟩ ⟨z0, z1, z2, z3, z4⟩ ⟨o0, o1, o2, ((stepN o1 (min (a1 + a3) (b1 + b3)) : Nat) : Int), o4⟩)))))
  | _, _ => .fail
def eM2 : Nat → PState → LAns := fun K t => match K, t with
  | 0, ⟨none :: none :: some (.ptr 0 0) :: some (.ptr 1 0) :: some (.ptr 2 0) :: none :: none :: none :: some (.ptr 3 0) :: rs,
      some (.raw (.cells [.int .i64 a0, .int .i64 a1, .int .i64 a2, .int .i64 a3, .int .i64 a4] 25)) :: some (.raw (.cells [.int .i64 b0, .int .i64 b1, .int .i64 b2, .int .i64 b3, .int .i64 b4] 25)) :: some (.raw (.cells [.int .i64 z0, .int .i64 z1, .int .i64 z2, .int .i64 z3, .int .i64 z4] 25)) :: some (.raw (.cells [.int .i64 o0, .int .i64 o1, .int .i64 o2, .int .i64 o3, .int .i64 o4] 25)) :: rm⟩ =>
    .chk (nonesV 83 rs) (.chk (nonesB 64 rm) (.chk (Ar.ok ⟨a0, a1, a2, a3, a4⟩ && Ar.ok ⟨b0, b1, b2, b3, b4⟩) (.chk (decide (0 ≤ o2 ∧ o2 ≤ 1000 ∧ o4 = 0))
      (.out (.exit 2) (stMt ⟨a0, a1, a2, a3, a4⟩ ⟨b0, b1, b2, b3, b4⟩ ⟨z0, z1, z2, z3, z4⟩ ⟨o0, o1, o2, o3, ((stepN o2 (min (a2 + a4) (b2 + b4)) : Nat) : Int)⟩)))))
  | _, _ => .fail
def lvM2 : FuncId → Lv := fun f => match f with
  | 51 => { keep := fun _ => some [2, 3, 4, 8], ent := fun i => match i with | 6 => some eM1 | 8 => some eM2 | _ => none }
  | _ => {}
theorem lvM2_ok : LvOK Tryz.prog lvM2 := by
  intro f fn body hf hb K x hx id e hid he t
  by_cases h : f = 51
  · subst h
    obtain rfl : fn = Tryz.f51 := (Option.some.inj (Tryz.func51.symm.trans hf)).symm
    have hbody : body = bodyOf Tryz.f51 := by unfold bodyOf; rw [hb]; rfl
    subst hbody
    have h1 : loopBodies (bodyOf Tryz.f51) = [(loopBodies (bodyOf Tryz.f51)).headD .skip, ((loopBodies (bodyOf Tryz.f51)).drop 1).headD .skip] := by kernel_rfl
    rw [h1] at hx
    rcases List.mem_cons.1 hx with hx' | hx'
    · have h2 : id = 6 := by
        have h3 : headReg ((loopBodies (bodyOf Tryz.f51)).headD .skip) = some 6 := by kernel_rfl
        rw [hx', h3] at hid; exact (Option.some.inj hid).symm
      subst h2
      have he' : eM1 = e := Option.some.inj he
      subst he'
      rw [hx']
      clear hx hx' hid he hb hf h1
      unfold eM1
      split
      · rename_i rs a0 a1 a2 a3 a4 b0 b1 b2 b3 b4 z0 z1 z2 z3 z4 o0 o1 o2 o3 o4 rm
        refine ⟨fun g1 => ⟨fun g2 => ⟨fun g3 => ⟨fun g4 => ?_, fun _ => trivial⟩, fun _ => trivial⟩, fun _ => trivial⟩, fun _ => trivial⟩
        obtain ⟨k1, k2, k3⟩ := of_decide_eq_true g4
        rw [Bool.and_eq_true] at g3
        rw [nonesV_eq _ _ g1, nonesB_eq _ _ g2]
        exact loopM1 ⟨a0, a1, a2, a3, a4⟩ ⟨b0, b1, b2, b3, b4⟩ ⟨z0, z1, z2, z3, z4⟩ ⟨o0, o1, o2, o3, o4⟩ g3.1 g3.2 ⟨k1, k2⟩ k3
      · trivial
    · have hx' := List.mem_singleton.1 hx'
      have h2 : id = 8 := by
        have h3 : headReg (((loopBodies (bodyOf Tryz.f51)).drop 1).headD .skip) = some 8 := by kernel_rfl
        rw [hx', h3] at hid; exact (Option.some.inj hid).symm
      subst h2
      have he' : eM2 = e := Option.some.inj he
      subst he'
      rw [hx']
      clear hx hx' hid he hb hf h1
      unfold eM2
      split
      · rename_i rs a0 a1 a2 a3 a4 b0 b1 b2 b3 b4 z0 z1 z2 z3 z4 o0 o1 o2 o3 o4 rm
        refine ⟨fun g1 => ⟨fun g2 => ⟨fun g3 => ⟨fun g4 => ?_, fun _ => trivial⟩, fun _ => trivial⟩, fun _ => trivial⟩, fun _ => trivial⟩
        obtain ⟨k1, k2, k3⟩ := of_decide_eq_true g4
        rw [Bool.and_eq_true] at g3
        rw [nonesV_eq _ _ g1, nonesB_eq _ _ g2]
        exact loopM2 ⟨a0, a1, a2, a3, a4⟩ ⟨b0, b1, b2, b3, b4⟩ ⟨z0, z1, z2, z3, z4⟩ ⟨o0, o1, o2, o3, o4⟩ g3.1 g3.2 ⟨k1, k2⟩ k3
      · trivial
  · exfalso
    have : (lvM2 f).ent id = none := by
      unfold lvM2
      split
      · exact absurd rfl h
      · rfl
    rw [this] at he; cases he
end Go.Proofs.YtanhlbdcjonaoaaGreatDoor

/- Layer 2, the document's own answers: what two areas share: the entry; what is told of two areas and a place. -/
set_option linter.unusedVariables false
set_option linter.unusedSimpArgs false
namespace Go.Proofs.YtanhlbdcjonaoaaGreatDoor
open Go Sx

def mxI (a b : Int) : Int := if b > a then b else a
def cntI (r a h b k : Int) : Int := ((stepN r (min (a + h) (b + k)) : Nat) : Int)
theorem meetD_comes (a0 a1 a2 a3 a4 b0 b1 b2 b3 b4 : Int) : Comes (tabAr rightB Ar.ok) lvM2 51 [.agg [.int .i64 a0, .int .i64 a1, .int .i64 a2, .int .i64 a3, .int .i64 a4], .agg [.int .i64 b0, .int .i64 b1, .int .i64 b2, .int .i64 b3, .int .i64 b4]] []
  (.chk (Ar.inB ⟨a0, a1, a2, a3, a4⟩) (.chk (Ar.inB ⟨b0, b1, b2, b3, b4⟩) (.br (!Ar.ok ⟨a0, a1, a2, a3, a4⟩) (.ret none5 []) (.br (!Ar.ok ⟨b0, b1, b2, b3, b4⟩) (.ret none5 []) (.br (a0 != b0) (.ret none5 [])
    (.chk (Ar.ok ⟨a0, a1, a2, a3, a4⟩ && Ar.ok ⟨b0, b1, b2, b3, b4⟩) (.chk (decide (0 ≤ mxI a1 b1 ∧ mxI a1 b1 ≤ 1000 ∧ (0 : Int) = 0)) (.chk (Ar.ok ⟨a0, a1, a2, a3, a4⟩ && Ar.ok ⟨b0, b1, b2, b3, b4⟩) (.chk (decide (0 ≤ mxI a2 b2 ∧ mxI a2 b2 ≤ 1000 ∧ (0 : Int) = 0))
      (.br (cntI (mxI a1 b1) a1 a3 b1 b3 == 0) (.ret none5 []) (.br (cntI (mxI a2 b2) a2 a4 b2 b4 == 0) (.ret none5 []) (.ret (.tuple [.agg [.int .i64 a0, .int .i64 (mxI a1 b1), .int .i64 (mxI a2 b2), .int .i64 (cntI (mxI a1 b1) a1 a3 b1 b3), .int .i64 (cntI (mxI a2 b2) a2 a4 b2 b4)], .bool true]) [])))))))))))) := by unfold Comes; kernel_rfl
theorem meetD_ok : EntOK Tryz.prog 51 eMeet := fun args pre => by
  unfold eMeet
  split
  · rename_i a0 a1 a2 a3 a4 b0 b1 b2 b3 b4
    refine of_run (ans_comes tabArD_ok (meetD_comes a0 a1 a2 a3 a4 b0 b1 b2 b3 b4) lvM2_ok) fun x h => ?_
    obtain ⟨h1, h⟩ := chk_run h
    rw [Bool.and_eq_true] at h1
    rw [← h]
    simp only [Ans.run, Ans.chk]
    rw [bcT h1.1, bcT h1.2]
    have hn : ∀ {p q : Ar}, meetB p q = false → pure2 none5 [] = pure2 (.tuple [(meetA p q).v, .bool (meetB p q)]) [] := fun e => by
      unfold meetA; rw [e]; rfl
    cases hx : Ar.ok ⟨a0, a1, a2, a3, a4⟩ with
    | false => exact hn (by unfold meetB; rw [hx]; rfl)
    | true =>
      cases hy : Ar.ok ⟨b0, b1, b2, b3, b4⟩ with
      | false => exact hn (by unfold meetB; rw [hx, hy]; rfl)
      | true =>
        rw [bcF (b := !true) rfl, bcF (b := !true) rfl]
        by_cases hs : a0 = b0
        · subst hs
          have ax := Ar.ok_iff.1 hx
          have ay := Ar.ok_iff.1 hy
          simp only at ax ay
          have m1 : mxI a1 b1 = max a1 b1 := by unfold mxI; omega
          have m2 : mxI a2 b2 = max a2 b2 := by unfold mxI; omega
          rw [bcF (b := (a0 != a0)) (by simp), bcT (b := true && true) rfl, bcT (b := true && true) rfl, m1, m2]
          rw [bcT (b := decide (0 ≤ max a1 b1 ∧ max a1 b1 ≤ 1000 ∧ True)) (decide_eq_true ⟨by omega, by omega, trivial⟩), bcT (b := decide (0 ≤ max a2 b2 ∧ max a2 b2 ≤ 1000 ∧ True)) (decide_eq_true ⟨by omega, by omega, trivial⟩)]
          have hB : meetB ⟨a0, a1, a2, a3, a4⟩ ⟨a0, b1, b2, b3, b4⟩ = decide (max a1 b1 < min (a1 + a3) (b1 + b3) ∧ max a2 b2 < min (a2 + a4) (b2 + b4)) := by
            unfold meetB
            rw [hx, hy, Bool.true_and, Bool.true_and, beq_self_eq_true, Bool.true_and, Bool.eq_iff_iff, Ar.ok_iff, decide_eq_true_eq]
            simp only [meetM]
            omega
          have c1 : cntI (max a1 b1) a1 a3 b1 b3 = max 0 (min (a1 + a3) (b1 + b3) - max a1 b1) := by unfold cntI stepN; omega
          have c2 : cntI (max a2 b2) a2 a4 b2 b4 = max 0 (min (a2 + a4) (b2 + b4) - max a2 b2) := by unfold cntI stepN; omega
          rw [c1, c2]
          by_cases k1 : max a1 b1 < min (a1 + a3) (b1 + b3)
          · rw [bcF (b := (max 0 (min (a1 + a3) (b1 + b3) - max a1 b1) == 0)) (beq_eq_false_iff_ne.2 (by omega))]
            by_cases k2 : max a2 b2 < min (a2 + a4) (b2 + b4)
            · rw [bcF (b := (max 0 (min (a2 + a4) (b2 + b4) - max a2 b2) == 0)) (beq_eq_false_iff_ne.2 (by omega))]
              have hT : meetB ⟨a0, a1, a2, a3, a4⟩ ⟨a0, b1, b2, b3, b4⟩ = true := by rw [hB]; exact decide_eq_true ⟨k1, k2⟩
              rw [show max 0 (min (a1 + a3) (b1 + b3) - max a1 b1) = min (a1 + a3) (b1 + b3) - max a1 b1 by omega, show max 0 (min (a2 + a4) (b2 + b4) - max a2 b2) = min (a2 + a4) (b2 + b4) - max a2 b2 by omega]
              unfold meetA
              rw [hT, if_pos rfl]; rfl
            · rw [bcT (b := (max 0 (min (a2 + a4) (b2 + b4) - max a2 b2) == 0)) (beq_iff_eq.2 (by omega))]
              exact hn (by rw [hB]; exact decide_eq_false fun h => k2 h.2)
          · rw [bcT (b := (max 0 (min (a1 + a3) (b1 + b3) - max a1 b1) == 0)) (beq_iff_eq.2 (by omega))]
            exact hn (by rw [hB]; exact decide_eq_false fun h => k1 h.1)
        · rw [bcT (b := (a0 != b0)) (bne_iff_ne.2 hs)]
          exact hn (by unfold meetB; rw [hx, hy, beq_eq_false_iff_ne.2 hs]; rfl)
  · trivial
def tabAs : Tab := (51, eMeet) :: (52, eHas) :: tab2
theorem tabAs_ok : TabOK Tryz.prog tabAs := .cons meetD_ok (.cons hasD_ok tab2_ok)
def eAreas : Ent := fun args pre => match args, pre with
  | [.agg [.int .i64 a0, .int .i64 a1, .int .i64 a2, .int .i64 a3, .int .i64 a4], .agg [.int .i64 b0, .int .i64 b1, .int .i64 b2, .int .i64 b3, .int .i64 b4], .agg [.int .i64 p0, .int .i64 p1, .int .i64 p2]], [] =>
    .chk (Ar.inB ⟨a0, a1, a2, a3, a4⟩ && Ar.inB ⟨b0, b1, b2, b3, b4⟩) (.ret (.bool true) [])
  | _, _ => .fail
end Go.Proofs.YtanhlbdcjonaoaaGreatDoor
