/- Layer 2: what is a text by the program is one by the document's own answer. -/
import Derived.Test.YtdomenmfkbfakaaGreatDoorGr10
import Derived.Test.YtdomenmfkbfakaaGreatDoorGr09
set_option linter.unusedVariables false
set_option linter.unusedSimpArgs false
namespace Go.Proofs.YtdomenmfkbfakaaGreatDoor
open Go Sx
theorem tab_none : ((List.range 256).all fun b => !(sizeN b == 0) || !(Lib.firstT b % 8 == 2 || Lib.firstT b % 8 == 3 || Lib.firstT b % 8 == 4)) = true := by kernel_rfl
theorem check_back (L : List UInt8) (hne : L ≠ []) (h0 : 128 ≤ (L.getD 0 0).toNat) {k : Nat}
    (hk : Lib.checkN L.length (L.getD 1 0).toNat (L.getD 2 0).toNat (L.getD 3 0).toNat (Lib.firstT (L.getD 0 0).toNat % 8) (Lib.accLo (Lib.firstT (L.getD 0 0).toNat / 16)) (Lib.accHi (Lib.firstT (L.getD 0 0).toNat / 16)) = some k) : signN L = k := by
  have hz := sizeN_cases (L.getD 0 0).toNat
  have ht := List.all_eq_true.1 tab_same (L.getD 0 0).toNat (List.mem_range.2 (UInt8.toNat_lt _))
  have hn := List.all_eq_true.1 tab_none (L.getD 0 0).toNat (List.mem_range.2 (UInt8.toNat_lt _))
  unfold signN
  rw [if_neg hne, if_neg (by omega)]
  generalize (L.getD 0 0).toNat = b at *
  generalize (L.getD 1 0).toNat = b1 at *
  generalize (L.getD 2 0).toNat = b2 at *
  generalize (L.getD 3 0).toNat = b3 at *
  generalize L.length = n at *
  by_cases hz0 : sizeN b = 0
  · exfalso
    simp only [hz0, beq_self_eq_true, Bool.not_true, Bool.false_or, Bool.not_eq_true', Bool.or_eq_false_iff, beq_eq_false_iff_ne] at hn
    unfold Lib.checkN at hk
    rw [if_neg hn.1.1, if_neg hn.1.2, if_neg hn.2] at hk
    cases hk
  · simp only [Bool.or_eq_true, beq_iff_eq, Bool.and_eq_true] at ht
    rcases ht with ht | ⟨⟨e1, e2⟩, e3⟩
    · exact absurd ht hz0
    rw [e1, e2, e3] at hk
    generalize sizeN b = z at *
    generalize loN b = lo at *
    generalize hiN b = hi at *
    unfold Lib.checkN at hk
    rcases hz with rfl | rfl | rfl | rfl
    · exact absurd rfl hz0
    all_goals
      simp only [Nat.reduceEqDiff, if_false, if_true] at hk ⊢
      repeat' split at hk
      all_goals first | (cases hk; done) | skip
      all_goals (cases hk)
      all_goals (repeat' split)
      all_goals first | rfl | (exfalso; omega)
theorem text_back (l : List UInt8) : ∀ (n p : Nat), l.length ≤ p + n → ctlB l n p = true → Lib.validD (l.drop p) = true → txtB l n p = true
  | 0, p, hn, _, _ => rfl
  | n + 1, p, hn, h, hv => by
    simp only [txtB, ctlB] at h ⊢
    by_cases hp : p < l.length
    · rw [bcT (b := decide (p < l.length)) (decide_eq_true hp)] at h ⊢
      have hL0 : ((l.drop p).getD 0 0).toNat = (l.getD p 0).toNat := by simp [List.getD_eq_getElem?_getD]
      have hdl : Lib.decodeL (l.drop p) = Utf8.decode ⟨l.toArray⟩ p := Lib.decodeL_drop ⟨l.toArray⟩ p
      have hLne : l.drop p ≠ [] := by simp; omega
      have h32 : ¬ (((Utf8.decode ⟨l.toArray⟩ p).1 : Int) < 32) := fun e => by rw [bcT (b := decide (((Utf8.decode ⟨l.toArray⟩ p).1 : Int) < 32)) (decide_eq_true e)] at h; cases h
      rw [bcF (b := decide (((Utf8.decode ⟨l.toArray⟩ p).1 : Int) < 32)) (decide_eq_false h32)] at h
      have h127 : ((Utf8.decode ⟨l.toArray⟩ p).1 : Int) ≠ 127 := fun e => by rw [bcT (b := (((Utf8.decode ⟨l.toArray⟩ p).1 : Int) == 127)) (beq_iff_eq.2 e)] at h; cases h
      rw [bcF (b := (((Utf8.decode ⟨l.toArray⟩ p).1 : Int) == 127)) (beq_eq_false_iff_ne.2 h127)] at h
      have hbad : ¬ ((Utf8.decode ⟨l.toArray⟩ p).1 = 65533 ∧ (Utf8.decode ⟨l.toArray⟩ p).2 = 1) := fun e => by
        rw [Lib.validD_step _ hLne, hdl, if_pos e] at hv; cases hv
      have hw : signN (l.drop p) = (Utf8.decode ⟨l.toArray⟩ p).2 ∧ signN (l.drop p) ≠ 0 ∧ ¬ (l.getD p 0).toNat < 32 ∧ (l.getD p 0).toNat ≠ 127 := by
        have hsz : p < (⟨l.toArray⟩ : ByteArray).size := by simpa [ByteArray.size] using hp
        have hby : ((⟨l.toArray⟩ : ByteArray)[p]'hsz).toNat = (l.getD p 0).toNat := by
          show (l.toArray[p]'(by simpa using hp)).toNat = _
          simp [List.getD_eq_getElem?_getD, List.getElem?_eq_getElem hp]
        by_cases hlt : (l.getD p 0).toNat < 128
        · have hd := decode_ascii ⟨l.toArray⟩ p hsz (by rw [hby]; exact hlt)
          rw [hby] at hd
          rw [hd] at h32 h127 ⊢
          have hs : signN (l.drop p) = 1 := by
            unfold signN
            rw [if_neg hLne, if_pos (by rw [hL0]; exact hlt)]
          simp only at h32 h127
          exact ⟨hs, by omega, by omega, by omega⟩
        · have h0 : 128 ≤ ((l.drop p).getD 0 0).toNat := by rw [hL0]; omega
          rcases Lib.check_decode (l.drop p).length ((l.drop p).getD 0 0).toNat ((l.drop p).getD 1 0).toNat ((l.drop p).getD 2 0).toNat ((l.drop p).getD 3 0).toNat (List.length_pos_iff.2 hLne) h0 (UInt8.toNat_lt _) (UInt8.toNat_lt _) (UInt8.toNat_lt _) (UInt8.toNat_lt _) with ⟨_, h2⟩ | ⟨k, hk2, h1, h2⟩
          · exfalso
            rw [← Lib.decodeL_N, hdl] at h2
            exact hbad ⟨by rw [h2], by rw [h2]⟩
          · have hs := check_back (l.drop p) hLne h0 h1
            rw [← Lib.decodeL_N, hdl] at h2
            exact ⟨by rw [hs, h2], by omega, by omega, by omega⟩
      obtain ⟨w1, w2, w3, w4⟩ := hw
      rw [bcF (b := (signN (l.drop p) == 0)) (beq_eq_false_iff_ne.2 w2), bcF (b := decide ((l.getD p 0).toNat < 32)) (decide_eq_false w3), bcF (b := ((l.getD p 0).toNat == 127)) (beq_eq_false_iff_ne.2 w4)]
      refine text_back l n (p + signN (l.drop p)) (by omega) (by rw [w1]; exact h) ?_
      rw [Lib.validD_step _ hLne, hdl, if_neg hbad, ← w1, List.drop_drop] at hv
      exact hv
    · rw [bcF (b := decide (p < l.length)) (decide_eq_false hp)]
/-- The two answers are one. -/
theorem txt_eq (l : List UInt8) : txtB l l.length 0 = textB l := by
  unfold textB
  cases h : txtB l l.length 0 with
  | true =>
    have := text_of l l.length 0 (by omega) h
    rw [this.1]; exact this.2.symm
  | false =>
    cases hc : ctlB l l.length 0 with
    | false => rfl
    | true =>
      cases hv : Lib.validD l with
      | false => rfl
      | true => rw [text_back l l.length 0 (by omega) hc hv] at h; cases h
end Go.Proofs.YtdomenmfkbfakaaGreatDoor

/- Law 3: what is put in behind an apostrophe is that text; a number's text is that number (ValQuote). -/
set_option linter.unusedVariables false
set_option linter.unusedSimpArgs false
namespace Go.Proofs.YtdomenmfkbfakaaGreatDoor
open Go Sx
def eTTF (f : List UInt8 → Bool) : Ent := fun args pre => match args, pre with
  | [.str s], [] => .chk (decide (s.length ≤ 9223372036854775807)) (.ret (.bool (f s)) [])
  | _, _ => .fail
theorem eTTF_ok : EntOK Tryz.prog 34 (eTTF textB) := fun args pre => by
  unfold eTTF
  split
  · rename_i s
    have key := isText2_ok [.str s] []
    unfold eIsText2 at key
    simp only [txt_eq] at key
    exact key
  · trivial
section
variable (fv : FV) (tx t2 : List UInt8 → Bool) (rv : List UInt8 → List CV × Int) (dt : Int → Int → List UInt8) (tf : List UInt8 → List UInt8)
end
end Go.Proofs.YtdomenmfkbfakaaGreatDoor

/- Layer 3, the document: small letters in the place of great ones; what is a text. -/
set_option linter.unusedVariables false
set_option linter.unusedSimpArgs false
set_option linter.unusedSectionVars false
namespace Go.Proofs.YtdomenmfkbfakaaGreatDoor
open Go Sx
def sFo (u : List UInt8) (n : Nat) (i : Int) : PState := ⟨nn 3 ++ some (.vec 0 n) :: some (.int .i64 i) :: nn 30, some (.vecB u 5) :: nn 64⟩
def sFoX (u : List UInt8) (n : Nat) : PState := ⟨nn 3 ++ some (.vec 0 n) :: nn 31, some (.vecB u 5) :: nn 64⟩
noncomputable abbrev loopFo : Code := (loopBodies (bodyOf Tryz.f53)).headD .skip
def upI (u : List UInt8) (i : Int) : Int := IntKind.u8.wrap (byI u i + 32)
theorem rFo (u : List UInt8) (n : Nat) (i : Int) : code (ent Tryz.prog [] nolv 64 1 20) Tryz.prog {} 0 64 1 loopFo (sFo u n i) (endK 0 64 (fun n => hasN [3, 4] n) (fun n => hasN [3] n))
  = bcond (decide (i < (n : Int))) (chks (bcond (decide (byI u i ≥ 65)) (chks (bcond (decide (byI u i ≤ 90)) (chks (chks (some (.normal, sFo (u.set (i.toNat * 1) (toByte (upI u i))) n (up1 i))) [ixN i n, inB u i && decide (0 ≤ upI u i ∧ upI u i < 256)]) [ixN i n, inB u i]) (some (.normal, sFo u n (up1 i)))) [ixN i n, inB u i]) (some (.normal, sFo u n (up1 i)))) [ixN i n, inB u i]) (some (.exit 0, sFoX u n)) := by kernel_rfl
theorem set_same {u : List UInt8} {p : Nat} {c : UInt8} (hp : p < u.length) (h : u.getD p 0 = c) : u.set p c = u := by
  subst h
  rw [List.getD_eq_getElem?_getD, List.getElem?_eq_getElem hp]; simp
theorem loopF3 {l : List UInt8} (hl : l.length ≤ 9223372036854775807) : Tri Tryz.prog (.loop loopFo) (sFo l l.length 0).toA (.exit 0) (sFoX (l.map sbB) l.length).toA 0 := by
  have key := loop_rounds (ent_sound (T := []) .nil host nolv_ok (NF := 64) (m := 1) 20) (NF := 64) (m := 1) (x := loopFo) (K := 0) loops_none (fun n => hasN [3, 4] n) (fun n => hasN [3] n) (ι := { p : Nat // p ≤ l.length }) (fun p => sFo (smS l p.1) l.length (p.1 : Int)) (fun p => l.length - p.1) (fun p => (.exit 0, sFoX (l.map sbB) l.length)) ?_ (fun j => by simp) ⟨0, Nat.zero_le _⟩
  · have e : smS l 0 = l := by unfold smS; simp
    simp only [e] at key
    exact key
  rintro ⟨p, hp⟩
  simp only
  have rd := rFo (smS l p) l.length (p : Int)
  by_cases h : p < l.length
  · have eb : byI (smS l p) (p : Int) = (l[p].toNat : Int) := by unfold byI; rw [Int.toNat_natCast, Nat.mul_one, byteAt_nat, smS_get h]
    have h256 := UInt8.toNat_lt l[p]
    have hi : inB (smS l p) (p : Int) = true := by unfold inB; rw [smS_len hp]; exact decide_eq_true (by omega)
    have i2 := all2 (ixN_nat h) hi
    have same : sbB l[p] = l[p] → smS l p = smS l (p + 1) := fun e => by
      have := smS_next h
      rw [e, set_same (by rw [smS_len hp]; exact h) (smS_get h)] at this
      exact this
    rw [bcT (decide_eq_true (by omega)), chks_true i2, eb] at rd
    refine .inl ⟨⟨p + 1, h⟩, by simp only; omega, trivial, ?_⟩
    by_cases c1 : ((l[p].toNat : Nat) : Int) ≥ 65
    · rw [bcT (decide_eq_true c1), chks_true i2] at rd
      by_cases c2 : ((l[p].toNat : Nat) : Int) ≤ 90
      · have eu : upI (smS l p) (p : Int) = sbI (l[p].toNat : Int) := by
          unfold upI sbI
          rw [eb, decide_eq_true (show (65 : Int) ≤ ((l[p].toNat : Nat) : Int) ∧ ((l[p].toNat : Nat) : Int) ≤ 90 from ⟨c1, c2⟩), u8_in (by omega) (by omega)]; rfl
        have hb := sbI_bd (c := ((l[p].toNat : Nat) : Int)) ⟨by omega, by omega⟩
        rw [bcT (decide_eq_true c2), chks_true i2, chks_true (all2 (ixN_nat h) (by rw [hi, eu, decide_eq_true hb]; rfl)), eu, up1_63 (by omega), Int.toNat_natCast, Nat.mul_one] at rd
        rw [rd, show toByte (sbI (l[p].toNat : Int)) = sbB l[p] from rfl, smS_next h]
      · rw [bcF (decide_eq_false c2), up1_63 (by omega)] at rd
        rw [rd, ← same (by
          unfold sbB sbI
          rw [decide_eq_false (fun h => c2 h.2)]
          show toByte ((l[p].toNat : Nat) : Int) = _
          unfold toByte; rw [Int.toNat_natCast]; simp)]
    · rw [bcF (decide_eq_false c1), up1_63 (by omega)] at rd
      rw [rd, ← same (by
        unfold sbB sbI
        rw [decide_eq_false (fun h => c1 h.1)]
        show toByte ((l[p].toNat : Nat) : Int) = _
        unfold toByte; rw [Int.toNat_natCast]; simp)]
  · obtain rfl : p = l.length := by omega
    rw [bcF (decide_eq_false (by omega))] at rd
    have e : smS l l.length = l.map sbB := by unfold smS; simp
    exact .inr (by rw [rd, e])
def outFo (n : Nat) (c : Bool) (u : List UInt8) : LAns := .chk c (.out (.exit 0) (sFoX u n))
noncomputable def lvFo (l : List UInt8) (c : Bool) (u : List UInt8) : FuncId → Lv := lvOf 53 (fun _ => some [3, 4]) (oneL 3 (eAt 0 (sFo l l.length 0) (outFo l.length c u)))
theorem fo_comes (l u : List UInt8) (c : Bool) : Comes [] (lvFo l c u) 53 [.str l] [] (.chk (eqSt (sFo l l.length 0) (sFo l l.length 0)) (.chk c (.chk (decide (l.length ≤ u.length)) (.ret (.str (u.take l.length)) [])))) := by unfold Comes; kernel_rfl
theorem eFo_ok : EntOK Tryz.prog 53 (eSmF smallL) := fun args pre => by
  unfold eSmF
  split
  · rename_i l
    refine ⟨fun g => ?_, fun _ => trivial⟩
    have g := of_decide_eq_true g
    refine meets_ent (pre := []) (post := []) .nil host ((fo_comes l (smallL l) true).trans ?_) (lvOne_ok (x := loopFo) Tryz.func53 (by kernel_rfl) fun K t => eAt_ok (a := outFo l.length true (smallL l)) ⟨fun _ => loopF3 (by omega), fun _ => trivial⟩ K t)
    have hl : (smallL l).length = l.length := by unfold smallL; simp
    rw [chkT (eqSt_refl _), chkT rfl, chkT (decide_eq_true (by omega)), ← hl, List.take_length]; rfl
  · trivial
theorem tx3_comes (t2 : List UInt8 → Bool) (s : List UInt8) : Comes [(34, eTTF t2)] nolv 56 [.str s] [] (.br (decide ((s.length : Int) ≤ 200)) (.chk (decide (s.length ≤ 9223372036854775807)) (.ret (.bool (t2 s)) [])) (.ret (.bool false) [])) := by unfold Comes; kernel_rfl
theorem eTx3_ok : EntOK Tryz.prog 56 (eIsT isTx) := fun args pre => by
  unfold eIsT
  split
  · rename_i s
    refine ⟨fun g => ?_, fun _ => trivial⟩
    refine meets_ent (pre := []) (post := []) (.cons eTTF_ok .nil) host ((tx3_comes textB s).trans ?_) nolv_ok
    have g := of_decide_eq_true g
    unfold isTx
    by_cases h : (s.length : Int) ≤ 200
    · rw [brT (decide_eq_true h), chkT (decide_eq_true (by omega)), decide_eq_true (show s.length ≤ 200 by omega)]; rfl
    · rw [brF (decide_eq_false h), decide_eq_false (show ¬ s.length ≤ 200 by omega)]; rfl
  · trivial
end Go.Proofs.YtdomenmfkbfakaaGreatDoor

/- Layer 1: the document's rounding and the program's. -/
set_option linter.unusedVariables false
set_option linter.unusedSimpArgs false
set_option linter.unusedSectionVars false
set_option maxRecDepth 20000
namespace Go.Proofs.YtdomenmfkbfakaaGreatDoor.Ty
open Go Sx Rf Dc Rr Dq

theorem rnd_scale {n d c : Nat} (hc : 0 < c) : rndE (n * c) (d * c) = rndE n d := by
  unfold rndE
  rw [Nat.mul_mod_mul_right, Nat.mul_div_mul_right _ _ hc, ← Nat.add_mul]
  have h1 : d * c < (n % d + n % d) * c ↔ d < n % d + n % d := Nat.mul_lt_mul_right hc
  have h2 : (n % d + n % d) * c < d * c ↔ n % d + n % d < d := Nat.mul_lt_mul_right hc
  simp only [h1, h2]
/-- To round, the ratio counts alone. -/
theorem rnd_ratio {n d n' d' : Nat} (hd : 0 < d) (hd' : 0 < d') (h : n * d' = n' * d) : rndE n d = rndE n' d' := by
  rw [← rnd_scale (n := n) (d := d) hd', h, Nat.mul_comm d d', rnd_scale hd]

theorem even_rnd {n b T g : Nat} (hb : 0 < b) (hT : 1 ≤ T) (hT2 : T ≤ 88) (hg1 : g ∣ n) (hg2 : g ∣ b * (5 * 10 ^ (T - 1))) (hbg : b ≤ g) (hV : n / b < 10 ^ 88) :
    evenN (digs 88 ((n / b : Nat) : Int)) (88 - T) = ((rndE n (b * 10 ^ T) : Nat) : Int) := by
  have hp : (10 : Int) ^ T = ((10 ^ T : Nat) : Int) := by push_cast; rfl
  have t10 : 10 ^ T = 2 * (5 * 10 ^ (T - 1)) := by
    obtain ⟨k, rfl⟩ : ∃ k, T = k + 1 := ⟨T - 1, by omega⟩
    rw [Nat.add_sub_cancel, Nat.pow_succ]; omega
  have htake : val ((digs 88 ((n / b : Nat) : Int)).take (88 - T)) = ((n / (b * 10 ^ T) : Nat) : Int) := by
    rw [digs_take _ (by omega), val_digs_mod, show 88 - (88 - T) = T by omega, hp, ← Int.natCast_ediv, Nat.div_div_eq_div_mul]
    have hlt : n / b / 10 ^ T < 10 ^ (88 - T) := by
      refine Nat.div_lt_of_lt_mul ?_
      rw [← Nat.pow_add, show T + (88 - T) = 88 by omega]; exact hV
    rw [Nat.div_div_eq_div_mul] at hlt
    rw [show (10 : Int) ^ (88 - T) = ((10 ^ (88 - T) : Nat) : Int) by push_cast; rfl, ← Int.natCast_emod, Nat.mod_eq_of_lt hlt]
  have hdrop : (digs 88 ((n / b : Nat) : Int)).drop (88 - T) = digs T ((n / b : Nat) : Int) := by
    rw [digs_drop _ (by omega), show 88 - (88 - T) = T by omega]
  have hrest : val (digs T ((n / b : Nat) : Int)) = ((n % (b * 10 ^ T) / b : Nat) : Int) := by
    rw [val_digs_mod, hp, ← Int.natCast_emod, Nat.mod_mul_right_div_self]
  unfold evenN upB
  rw [htake, hdrop, hrest, digs_length]
  rw [show (5 : Int) * 10 ^ (T - 1) = ((5 * 10 ^ (T - 1) : Nat) : Int) by push_cast; rfl]
  unfold rndE
  generalize hh : 5 * 10 ^ (T - 1) = half at *
  have hgR : g ∣ n % (b * 10 ^ T) := (Nat.dvd_mod_iff (by rw [t10, show b * (2 * half) = b * half * 2 by rw [Nat.mul_comm 2, Nat.mul_assoc]]; exact Nat.dvd_mul_right_of_dvd hg2 2)).2 hg1
  rw [t10] at *
  generalize n % (b * (2 * half)) = rem at *
  generalize n / (b * (2 * half)) = q at *
  have hgap : b * half < rem → b * half + b ≤ rem := fun h => by
    have h1 : g ∣ rem - b * half := Nat.dvd_sub hgR hg2
    have h2 := Nat.le_of_dvd (by omega) h1
    omega
  have e2 : b * (2 * half) = b * half + b * half := by rw [Nat.two_mul, Nat.mul_add]
  have d1 := Nat.div_add_mod rem b
  have d2 := Nat.mod_lt rem hb
  generalize rem / b = t at *
  generalize rem % b = z at *
  have key : (decide (((half : Nat) : Int) < (t : Int) ∨ (t : Int) = ((half : Nat) : Int) ∧ ((q : Nat) : Int) % 2 = 1) = true) ↔ (b * (2 * half) < rem + rem ∨ (¬ rem + rem < b * (2 * half) ∧ q / 10 ^ 0 % 10 % 2 = 1)) := by
    rw [decide_eq_true_eq, e2, Nat.pow_zero, Nat.div_one]
    rcases Nat.lt_trichotomy t half with c | c | c
    · have := Nat.mul_le_mul_left b (Nat.succ_le_of_lt c)
      rw [Nat.mul_succ] at this
      constructor
      · intro h; omega
      · intro h; omega
    · subst c
      constructor
      · intro h; right; omega
      · intro h
        right
        refine ⟨rfl, ?_⟩
        rcases h with h | h
        · have := hgap (by omega); omega
        · omega
    · have := Nat.mul_le_mul_left b (Nat.succ_le_of_lt c)
      rw [Nat.mul_succ] at this
      constructor
      · intro h; left; omega
      · intro h; left; omega
  by_cases hk : (b * (2 * half) < rem + rem ∨ (¬ rem + rem < b * (2 * half) ∧ q / 10 ^ 0 % 10 % 2 = 1))
  · rw [if_pos hk, if_pos (key.2 hk)]; push_cast; rfl
  · rw [if_neg hk, if_neg (fun h => hk (key.1 h))]

theorem trimD_neg : ∀ (n : Nat) (m e : Int), trimD n (-m) e = (-(trimD n m e).1, (trimD n m e).2)
  | 0, m, e => rfl
  | n + 1, m, e => by
    simp only [trimD]
    rw [Int.neg_tmod, Int.neg_tdiv]
    by_cases h : m.tmod 10 = 0
    · rw [if_pos (by omega), if_pos h, trimD_neg n]
    · rw [if_neg (by omega), if_neg h]
theorem trimmedS_sgn (b : Bool) (m e : Int) : trimmedS (if b = true then -m else m) e = (sgn b (trimmedS m e).1, (trimmedS m e).2) := by
  cases b with
  | false => simp [sgn]
  | true =>
    simp only [if_true, sgn, trimmedS]
    by_cases h : m = 0
    · subst h; simp
    · rw [if_neg (by omega), if_neg h, trimD_neg]

theorem go_bridge {ds : List Int} {N M : Nat} (h : ∀ j, j < 19 → evenN ds (57 - j) = ((rndE (nE N ((j : Int) - 9)) (dE M ((j : Int) - 9)) : Nat) : Int)) : ∀ (f j : Nat), f + j ≤ 19 → nearGo ds f j = (nearG N M f j).map fun p => ((p.1 : Int), p.2)
  | 0, j, _ => rfl
  | f + 1, j, hj => by
    simp only [nearGo, nearG]
    rw [h j (by omega)]
    by_cases c : rndE (nE N ((j : Int) - 9)) (dE M ((j : Int) - 9)) ≤ 999999999999999
    · rw [if_pos c, if_pos (by omega)]; rfl
    · rw [if_neg c, if_neg (by omega)]; exact go_bridge h f (j + 1) (by omega)
theorem near_bridge {ds : List Int} {N M : Nat} (mx : Bool) (h : ∀ j, j < 19 → evenN ds (57 - j) = ((rndE (nE N ((j : Int) - 9)) (dE M ((j : Int) - 9)) : Nat) : Int)) : nearM mx ds = nearD mx N M ∧ nearE ds = nearX N M := by
  have hg := go_bridge h 19 0 (by omega)
  unfold nearM nearE nearD nearX
  rw [hg]
  cases nearG N M 19 0 with
  | none => exact ⟨rfl, rfl⟩
  | some p => exact ⟨trimmedS_sgn mx _ _, rfl⟩

theorem near_exact (mx : Bool) {v N M : Nat} (hM : 0 < M) (h : v * M = N * 10 ^ 40) (hv : v < 10 ^ 88) : nearM mx (digs 88 ((v : Nat) : Int)) = nearD mx N M ∧ nearE (digs 88 ((v : Nat) : Int)) = nearX N M :=
  near_bridge mx fun j hj => by
    have := even_rnd (n := v) (b := 1) (T := 31 + j) (g := 1) (by decide) (by omega) (by omega) (Nat.one_dvd _) (Nat.one_dvd _) (by decide) (by rw [Nat.div_one]; exact hv)
    rw [Nat.div_one] at this
    rw [show 57 - j = 88 - (31 + j) by omega, this]
    congr 1
    refine rnd_ratio (by rw [Nat.one_mul]; exact Nat.pow_pos (by decide)) (Nat.mul_pos hM (Nat.pow_pos (by decide))) ?_
    unfold nE dE
    rw [← Nat.mul_assoc, h, Nat.one_mul, Nat.mul_assoc, Nat.mul_assoc, ← Nat.pow_add, ← Nat.pow_add]
    congr 2
    omega
end Go.Proofs.YtdomenmfkbfakaaGreatDoor.Ty

/- Layer 1: which texts are decimals. -/
set_option linter.unusedVariables false
set_option linter.unusedSimpArgs false
set_option linter.unusedSectionVars false
set_option maxRecDepth 20000
namespace Go.Proofs.YtdomenmfkbfakaaGreatDoor.Ty
open Go Sx Rf Dc Rr Dq

/-- How many figures stand ahead. -/
def figN : List UInt8 → Nat
  | [] => 0
  | b :: l => if okDig b then figN l + 1 else 0
theorem figN_le : ∀ l : List UInt8, figN l ≤ l.length
  | [] => Nat.le_refl _
  | b :: l => by
    have := figN_le l
    rw [figN, List.length_cons]; split <;> omega
theorem figN_app : ∀ (w r : List UInt8), (∀ b ∈ w, okDig b) → figN (w ++ r) = w.length + figN r
  | [], r, _ => by simp
  | b :: w, r, h => by
    rw [List.cons_append, figN, if_pos (h b (by simp)), figN_app w r (fun c hc => h c (by simp [hc])), List.length_cons]; omega
theorem figN_take : ∀ (l : List UInt8), ∀ b ∈ l.take (figN l), okDig b
  | [], b, h => by simp [figN] at h
  | c :: l, b, h => by
    rw [figN] at h
    split at h
    · rename_i hc
      rw [List.take_succ_cons, List.mem_cons] at h
      rcases h with h | h
      · rw [h]; exact hc
      · exact figN_take l b h
    · simp at h
theorem figN_all {w : List UInt8} (h : ∀ b ∈ w, okDig b) : figN w = w.length := by
  have := figN_app w [] h; simpa [figN] using this
theorem dig_ne {b : UInt8} (h : okDig b) : (b == 46) = false := by
  rw [beq_eq_false_iff_ne]
  intro e; subst e
  exact absurd h (by decide)
theorem idx_digs : ∀ (w : List UInt8), (∀ b ∈ w, okDig b) → idx46 w = -1
  | [], _ => rfl
  | b :: w, h => by
    have ih := idx_digs w (fun c hc => h c (by simp [hc]))
    unfold idx46 at *
    rw [Lib.indexByte, dig_ne (h b (by simp)), ih]; rfl
theorem idx_point : ∀ (w p : List UInt8), (∀ b ∈ w, okDig b) → idx46 (w ++ 46 :: p) = w.length
  | [], p, _ => rfl
  | b :: w, p, h => by
    have ih := idx_point w p (fun c hc => h c (by simp [hc]))
    unfold idx46 at *
    rw [List.cons_append, Lib.indexByte, dig_ne (h b (by simp)), ih, List.length_cons]
    simp only [Bool.false_eq_true, if_false]
    rw [if_neg (by simp only [beq_iff_eq]; omega)]; push_cast; rfl
theorem idx_at : ∀ (b : List UInt8), 0 ≤ idx46 b → b = b.take (idx46 b).toNat ++ 46 :: b.drop ((idx46 b).toNat + 1)
  | [], h => by simp [idx46, Lib.indexByte] at h
  | c :: b, h => by
    have ih := idx_at b
    have hg := idx46_ge b
    unfold idx46 at *
    rw [Lib.indexByte] at h ⊢
    by_cases hc : (c == 46) = true
    · rw [if_pos hc]; simp [beq_iff_eq.1 hc]
    · rw [if_neg hc] at h ⊢
      by_cases hi : (Lib.indexByte b 46 == -1) = true
      · rw [if_pos hi] at h; omega
      · rw [if_neg hi] at h ⊢
        have hi : ¬ Lib.indexByte b 46 = -1 := by simpa using hi
        have := ih (by omega)
        rw [show (Lib.indexByte b 46 + 1).toNat = (Lib.indexByte b 46).toNat + 1 by omega, List.take_succ_cons, List.cons_append, List.drop_succ_cons, ← this]

/-- Is a text's body one that the document reads? -/
def ptB (r : List UInt8) : Bool := r.head? == some 46
def frcN (b : List UInt8) : Nat := Sx.bcond (ptB (b.drop (figN b))) (figN (b.drop (figN b + 1))) 0
def endN (b : List UInt8) : Nat := figN b + Sx.bcond (ptB (b.drop (figN b))) (1 + frcN b) 0
def refOK (b : List UInt8) : Bool := !(ptB (b.drop (figN b)) && decide (frcN b = 0)) && decide (1 ≤ figN b ∧ figN b ≤ 40 ∧ frcN b ≤ 40 ∧ endN b = b.length)
theorem ref_point {w p : List UInt8} (hw : ∀ b ∈ w, okDig b) (hp : ∀ b ∈ p, okDig b) : figN (w ++ 46 :: p) = w.length ∧ ptB ((w ++ 46 :: p).drop w.length) = true ∧ frcN (w ++ 46 :: p) = p.length ∧ endN (w ++ 46 :: p) = (w ++ 46 :: p).length := by
  have h1 : figN (w ++ 46 :: p) = w.length := by
    rw [figN_app _ _ hw, figN, if_neg (by decide)]; rfl
  have h2 : ptB ((w ++ 46 :: p).drop w.length) = true := by rw [List.drop_left]; rfl
  have h3 : frcN (w ++ 46 :: p) = p.length := by
    unfold frcN
    rw [h1, h2]
    show figN _ = _
    rw [show w.length + 1 = (w ++ [46]).length by simp, show w ++ 46 :: p = (w ++ [46]) ++ p by simp, List.drop_left, figN_all hp]
  refine ⟨h1, h2, ?_, ?_⟩
  · exact h3
  · unfold endN; rw [h1, h2, h3]; simp [Sx.bcond]; omega
theorem ref_plain {w : List UInt8} (hw : ∀ b ∈ w, okDig b) : figN w = w.length ∧ ptB (w.drop w.length) = false ∧ frcN w = 0 ∧ endN w = w.length := by
  have h1 := figN_all hw
  have h2 : ptB (w.drop w.length) = false := by rw [List.drop_length]; rfl
  refine ⟨h1, h2, ?_, ?_⟩
  · unfold frcN; rw [h1, h2]; rfl
  · unfold endN; rw [h1, h2]; rfl
theorem isDigs_iff {s : List UInt8} : isDigs s = true ↔ s ≠ [] ∧ s.length ≤ 40 ∧ ∀ b ∈ s, okDig b := by simp only [isDigs, decide_eq_true_eq]
theorem whole_point {w p : List UInt8} (hw : ∀ b ∈ w, okDig b) : wholeS (w ++ 46 :: p) = w ∧ partS (w ++ 46 :: p) = p := by
  have h := idx_point w p hw
  unfold wholeS partS
  rw [h, if_pos (by omega), if_pos (by omega), show ((w.length : Int)).toNat = w.length by omega]
  exact ⟨List.take_left, by rw [show w.length + 1 = (w ++ [46]).length by simp, show w ++ 46 :: p = (w ++ [46]) ++ p by simp, List.drop_left]⟩
theorem whole_plain {w : List UInt8} (hw : ∀ b ∈ w, okDig b) : wholeS w = w ∧ partS w = [] ∧ idx46 w = -1 := by
  have h := idx_digs w hw
  unfold wholeS partS
  rw [h, if_neg (by omega), if_neg (by omega)]
  exact ⟨rfl, rfl, rfl⟩
/-- A text that may be read: figures alone, or with a point between. -/
theorem text_forms {b : List UInt8} (h : refOK b = true) : (isDigs b = true) ∨ ∃ w p, b = w ++ 46 :: p ∧ isDigs w = true ∧ isDigs p = true := by
  unfold refOK at h
  simp only [Bool.and_eq_true, Bool.not_eq_true', Bool.and_eq_false_iff, decide_eq_true_eq, decide_eq_false_iff_not] at h
  obtain ⟨h1, h2, h3, h4, h5⟩ := h
  have ht := figN_take b
  have hs : b = b.take (figN b) ++ b.drop (figN b) := (List.take_append_drop _ _).symm
  have hl := figN_le b
  have hd : (b.drop (figN b)).length = b.length - figN b := List.length_drop
  cases hr : b.drop (figN b) with
  | nil =>
    left
    rw [hr, List.append_nil] at hs
    rw [hr] at hd
    simp at hd
    have e : figN b = b.length := by omega
    rw [← hs] at ht
    refine isDigs_iff.2 ⟨?_, by omega, ht⟩
    intro e0; rw [e0] at h2; simp [figN] at h2
  | cons c r =>
    have hp : ptB (b.drop (figN b)) = (c == 46) := by
      rw [hr]; unfold ptB; simp
    cases hc : c == 46 with
    | false =>
      exfalso
      unfold endN at h5
      rw [hp, hc] at h5
      simp only [Sx.bcond] at h5
      rw [hr, List.length_cons] at hd
      omega
    | true =>
      right
      have hc' : c = 46 := beq_iff_eq.1 hc
      subst hc'
      have hdr : b.drop (figN b + 1) = r := by
        rw [← List.drop_drop, hr]; rfl
      have hf : frcN b = figN r := by unfold frcN; rw [hp, hc, hdr]; rfl
      unfold endN at h5
      rw [hp, hc] at h5
      simp only [Sx.bcond] at h5
      rw [hr, List.length_cons] at hd
      have hm : 1 ≤ frcN b := by
        rcases h1 with h1 | h1
        · rw [hp, hc] at h1; cases h1
        · omega
      have hd' : r.length + 1 = b.length - figN b := hd
      have h5' : figN b + (1 + frcN b) = b.length := h5
      have hrl : figN r = r.length := by omega
      have hrt := figN_take r
      rw [hrl, List.take_length] at hrt
      refine ⟨b.take (figN b), r, by rw [← hr]; exact hs, isDigs_iff.2 ⟨?_, by rw [List.length_take]; omega, ht⟩, isDigs_iff.2 ⟨?_, by omega, hrt⟩⟩
      · intro e0
        have := congrArg List.length e0
        rw [List.length_take, List.length_nil] at this
        omega
      · intro e0; rw [e0] at hrl hf; simp [figN] at hf; omega
theorem refOK_eq (b : List UInt8) : refOK b = (isDigs (wholeS b) && (!decide (0 ≤ idx46 b) || isDigs (partS b))) := by
  rw [Bool.eq_iff_iff]
  constructor
  · intro h
    rcases text_forms h with h | ⟨w, p, rfl, h1, h2⟩
    · obtain ⟨e1, e2, e3⟩ := whole_plain (isDigs_iff.1 h).2.2
      rw [e1, e3, h]; rfl
    · obtain ⟨e1, e2⟩ := whole_point (p := p) (isDigs_iff.1 h1).2.2
      rw [e1, e2, h1, h2]; simp
  · intro h
    rw [Bool.and_eq_true] at h
    obtain ⟨h1, h2⟩ := h
    unfold refOK
    by_cases hi : 0 ≤ idx46 b
    · rw [decide_eq_true hi] at h2
      simp only [Bool.not_true, Bool.false_or] at h2
      have hb := idx_at b hi
      have hw : wholeS b = b.take (idx46 b).toNat := by unfold wholeS; rw [if_pos hi]
      have hp : partS b = b.drop ((idx46 b).toNat + 1) := by unfold partS; rw [if_pos hi]
      rw [← hw, ← hp] at hb
      obtain ⟨w1, w2, w3⟩ := isDigs_iff.1 h1
      obtain ⟨p1, p2, p3⟩ := isDigs_iff.1 h2
      generalize wholeS b = w at *
      generalize partS b = p at *
      subst hb
      obtain ⟨r1, r2, r3, r4⟩ := ref_point w3 p3
      have w0 : 1 ≤ w.length := by cases w <;> simp at w1 ⊢
      have p0 : 1 ≤ p.length := by cases p <;> simp at p1 ⊢
      rw [r1, r2, r3, r4, decide_eq_false (by omega), decide_eq_true ⟨w0, w2, p2, rfl⟩]; rfl
    · have hw : wholeS b = b := by unfold wholeS; rw [if_neg hi]
      rw [hw] at h1
      obtain ⟨w1, w2, w3⟩ := isDigs_iff.1 h1
      obtain ⟨r1, r2, r3, r4⟩ := ref_plain w3
      have w0 : 1 ≤ b.length := by cases b <;> simp at w1 ⊢
      rw [r1, r2, r3, r4]; simp [w2]; omega
/-- The figures without the point. -/
def flS (b : List UInt8) : List UInt8 := b.filter fun c => !(c == 46)
theorem fl_digs {w : List UInt8} (h : ∀ b ∈ w, okDig b) : flS w = w := by
  unfold flS
  rw [List.filter_eq_self]
  intro c hc; rw [dig_ne (h c hc)]; rfl
theorem fl_point {w p : List UInt8} (hw : ∀ b ∈ w, okDig b) (hp : ∀ b ∈ p, okDig b) : flS (w ++ 46 :: p) = w ++ p := by
  have h1 := fl_digs hw
  have h2 := fl_digs hp
  unfold flS at *
  rw [List.filter_append, List.filter_cons, h1, h2]; rfl
/-- The number that the figures are. -/
def rdN (b : List UInt8) : Nat := (val (bytesD (flS b))).toNat
theorem bytesD_app (a b : List UInt8) : bytesD (a ++ b) = bytesD a ++ bytesD b := by simp [bytesD]
theorem rd_spec {b : List UInt8} (h : refOK b = true) : ((rdN b : Nat) : Int) = val (bytesD (flS b)) ∧ wrV (wholeS b) (partS b) * 10 ^ frcN b = ((rdN b : Nat) : Int) * 10 ^ 40 ∧ rdN b < 10 ^ 80 ∧ frcN b ≤ 40 ∧ (flS b).length ≤ 80 ∧ Dig (bytesD (flS b)) ∧ (flS b).length = figN b + frcN b := by
  rcases text_forms h with h | ⟨w, p, rfl, h1, h2⟩
  · obtain ⟨w1, w2, w3⟩ := isDigs_iff.1 h
    obtain ⟨e1, e2, e3⟩ := whole_plain w3
    obtain ⟨r1, r2, r3, r4⟩ := ref_plain w3
    have hd := bytesD_dig w3
    have hv := val_bounds _ hd
    rw [bytesD_length] at hv
    have hn : ((rdN b : Nat) : Int) = val (bytesD b) := by unfold rdN; rw [fl_digs w3]; omega
    have hb : val (bytesD b) < 10 ^ 80 := Int.lt_of_lt_of_le hv.2 (pow_mono (by omega))
    rw [fl_digs w3]
    refine ⟨hn, ?_, ?_, by omega, by omega, hd, by omega⟩
    · rw [e1, e2, r3, hn]; unfold wrV; simp [bytesD, val]
    · rw [← hn] at hb; exact_mod_cast hb
  · obtain ⟨w1, w2, w3⟩ := isDigs_iff.1 h1
    obtain ⟨p1, p2, p3⟩ := isDigs_iff.1 h2
    obtain ⟨e1, e2⟩ := whole_point (p := p) w3
    obtain ⟨r1, r2, r3, r4⟩ := ref_point w3 p3
    have hd : Dig (bytesD (w ++ p)) := by rw [bytesD_app]; exact (bytesD_dig w3).append (bytesD_dig p3)
    have hv := val_bounds _ hd
    rw [bytesD_length, List.length_append] at hv
    have hn : ((rdN (w ++ 46 :: p) : Nat) : Int) = val (bytesD (w ++ p)) := by unfold rdN; rw [fl_point w3 p3]; omega
    have hb : val (bytesD (w ++ p)) < 10 ^ 80 := Int.lt_of_lt_of_le hv.2 (pow_mono (by omega))
    rw [fl_point w3 p3]
    refine ⟨hn, ?_, ?_, by omega, by rw [List.length_append]; omega, hd, by rw [List.length_append]; omega⟩
    · rw [e1, e2, r3, hn, bytesD_app, val_append, bytesD_length]
      unfold wrV
      rw [Int.add_mul, Int.add_mul, Int.mul_assoc, Int.mul_assoc, Int.mul_assoc, ← Int.pow_add, ← Int.pow_add, ← Int.pow_add, show 40 - p.length + p.length = 40 by omega, Nat.add_comm 40]
    · rw [← hn] at hb; exact_mod_cast hb
end Go.Proofs.YtdomenmfkbfakaaGreatDoor.Ty

/- The document's Read of decimals: how many figures stand from a byte on. -/
set_option linter.unusedVariables false
set_option linter.unusedSimpArgs false
set_option linter.unusedSectionVars false
set_option maxRecDepth 20000
namespace Go.Proofs.YtdomenmfkbfakaaGreatDoor.Ty
open Go Sx Rf Dc Rr Dq

def stmtN (n : Nat) (c : Code) : Code := match restC n c with | .seq a _ => a | c => c
def loopIn (c : Code) : Code := (loopBodies c).headD .skip
abbrev OX := Option (Ex × PState)
theorem figN_at : ∀ (l : List UInt8) (k : Nat), k < figN l → okDig (l.getD k 0)
  | [], k, h => by simp [figN] at h
  | b :: l, k, h => by
    rw [figN] at h
    split at h
    · rename_i hb
      cases k with
      | zero => exact hb
      | succ k => exact figN_at l k (by omega)
    · omega
theorem figN_stop : ∀ (l : List UInt8), figN l < l.length → ¬ okDig (l.getD (figN l) 0)
  | [], h => by simp at h
  | b :: l, h => by
    rw [figN] at h ⊢
    split
    · rename_i hb
      rw [if_pos hb, List.length_cons] at h
      exact figN_stop l (by omega)
    · rename_i hb; exact hb
def wr (a : Int) : Int := IntKind.i64.wrap a
def inS (s : List UInt8) (p : Int) : Bool := decide (0 ≤ p ∧ p.toNat < s.length)
def stF (s : List UInt8) (f k : Int) : PState := ⟨some (.str s) :: some (.int .i64 f) :: none :: none :: none :: some (.int .i64 k) :: List.replicate 25 none, List.replicate 64 none⟩
def stFx (k : Int) : PState := ⟨none :: none :: none :: none :: none :: some (.int .i64 k) :: List.replicate 25 none, List.replicate 64 none⟩
abbrev kF : Nat → Bool := fun n => hasN [0, 1, 5] n
abbrev kFx : Nat → Bool := fun n => hasN [5] n
theorem roundF (s : List UInt8) (f k : Int) : code (noH (R := Ex × PState)) Tryz.prog {} 0 64 18446744073709551616 (loopIn (stmtN 2 (bodyOf Tryz.f100))) (stF s f k) (endK 0 64 kF kFx) =
    bcond (decide (wr (f + k) < s.length)) (bcond (inS s (wr (f + k))) (bcond (decide (byteAt s (wr (f + k)).toNat ≥ 48)) (bcond (inS s (wr (f + k))) (bcond (decide (byteAt s (wr (f + k)).toNat ≤ 57)) (some (.normal, stF s f (wr (k + 1)))) (some (.exit 0, stFx k))) none) (some (.exit 0, stFx k))) none) (some (.exit 0, stFx k)) := by kernel_rfl
theorem loopF {s : List UInt8} {f : Nat} (hf : f ≤ s.length) (hs : s.length ≤ 1000) : Tri Tryz.prog (.loop (loopIn (stmtN 2 (bodyOf Tryz.f100)))) (stF s (f : Int) 0).toA (.exit 0) (stFx (figN (s.drop f) : Int)).toA 0 := by
  have hl := figN_le (s.drop f)
  rw [List.length_drop] at hl
  refine loop_rounds (ι := { k : Nat // k ≤ figN (s.drop f) }) (NF := 64) (m := 18446744073709551616) (lv := {}) noH_ok (fun x hx id e h1 h2 => by cases h2) kF kFx (fun k => stF s (f : Int) (k.1 : Int)) (fun k => s.length - k.1) (fun _ => (.exit 0, stFx (figN (s.drop f) : Int))) ?_ (fun _ => by simp) ⟨0, by omega⟩
  rintro ⟨k, hk⟩
  simp only
  rw [roundF]
  have hw : wr ((f : Int) + (k : Int)) = ((f + k : Nat) : Int) := by unfold wr; rw [i64_in (by omega) (by omega)]; push_cast; rfl
  rw [hw]
  have hb : byteAt s ((f + k : Nat) : Int).toNat = (((s.drop f).getD k 0).toNat : Int) := by
    unfold byteAt
    rw [Int.toNat_natCast]
    simp only [List.getD, List.getElem?_drop]
  by_cases c : k < figN (s.drop f)
  · have hd := figN_at _ _ c
    unfold okDig at hd
    have hi : inS s ((f + k : Nat) : Int) = true := decide_eq_true (by omega)
    rw [bcT (b := decide (_ < _)) (decide_eq_true (by omega)), bcT hi, bcT (b := decide (_ ≥ _)) (decide_eq_true (by rw [hb]; omega)), bcT hi, bcT (b := decide (_ ≤ _)) (decide_eq_true (by rw [hb]; omega))]
    refine .inl ⟨⟨k + 1, by omega⟩, by simp only; omega, trivial, ?_⟩
    rw [show wr ((k : Int) + 1) = ((k + 1 : Nat) : Int) from by unfold wr; rw [i64_in (by omega) (by omega)]; push_cast; rfl]
  · have e : k = figN (s.drop f) := by omega
    subst e
    by_cases c2 : f + figN (s.drop f) < s.length
    · have hd := figN_stop (s.drop f) (by rw [List.length_drop]; omega)
      unfold okDig at hd
      have hi : inS s ((f + figN (s.drop f) : Nat) : Int) = true := decide_eq_true (by omega)
      rw [bcT (b := decide (_ < _)) (decide_eq_true (by omega)), bcT hi]
      by_cases c3 : byteAt s ((f + figN (s.drop f) : Nat) : Int).toNat ≥ 48
      · rw [bcT (b := decide (_ ≥ _)) (decide_eq_true c3), bcT hi, bcF (b := decide (_ ≤ _)) (decide_eq_false (by rw [hb] at c3 ⊢; omega))]
        exact .inr rfl
      · rw [bcF (b := decide (_ ≥ _)) (decide_eq_false c3)]
        exact .inr rfl
    · rw [bcF (b := decide (_ < _)) (decide_eq_false (by omega))]
      exact .inr rfl
theorem partF1 (s : List UInt8) (f : Int) : runsC (noH (R := Ex × PState)) Tryz.prog {} 0 64 18446744073709551616 (endK 0 64 kF kF) 2 (bodyOf Tryz.f100) (startP 31 [.str s, .int .i64 f] [] 64) = some (.normal, stF s f 0) := by kernel_rfl
theorem partF2 (k : Int) : code (noH (R := AV × List PObj)) Tryz.prog {} 0 64 18446744073709551616 (restC 3 (bodyOf Tryz.f100)) (stFx k) (finP Tryz.prog Tryz.f100 0 [] pure2) = pure2 (.int .i64 k) [] := by kernel_rfl
theorem shapeF : restC 2 (bodyOf Tryz.f100) = .seq (.block 0 (.loop (loopIn (stmtN 2 (bodyOf Tryz.f100))))) (restC 3 (bodyOf Tryz.f100)) := by kernel_rfl
def eFig : Ent := fun args pre => match args, pre with
  | [.str s, .int .i64 f], [] => .chk (decide (0 ≤ f ∧ f.toNat ≤ s.length ∧ s.length ≤ 1000)) (.ret (.int .i64 (figN (s.drop f.toNat))) [])
  | _, _ => .fail
theorem fig_ok : EntOK Tryz.prog 100 eFig := fun args pre => by
  unfold eFig; split
  · rename_i s f
    refine ⟨fun hb => ?_, fun _ => trivial⟩
    obtain ⟨h1, h2, h3⟩ := of_decide_eq_true hb
    obtain ⟨f, rfl⟩ : ∃ n : Nat, f = (n : Int) := ⟨f.toNat, by omega⟩
    rw [Int.toNat_natCast] at h2 ⊢
    have hbody : Tryz.f100.body = some (bodyOf Tryz.f100) := by kernel_rfl
    have nl : ∀ c : Code, LoopsOK Tryz.prog {} ([] : List PObj).length c := fun c x hx id e h1 h2 => by cases h2
    obtain ⟨res, post, k1, k2⟩ := goes_meets (R := AV × List PObj) (NF := 64) (args := [.str s, .int .i64 (f : Int)]) (pre := []) (k := pure2) (r := (.int .i64 (figN (s.drop f) : Int), [])) host Tryz.func100 hbody
      (goes_runs (pre := []) noH_ok (nl _) (partF1 s f) shapeF (goes_tri (pre := []) (tri_block (loopF h2 h3)) (goes_code (pre := []) noH_ok (nl _) (partF2 _))))
    cases k2
    exact k1
  · trivial
end Go.Proofs.YtdomenmfkbfakaaGreatDoor.Ty

/- The document's Read of decimals: the figures, the last one first. -/
set_option linter.unusedVariables false
set_option linter.unusedSimpArgs false
set_option linter.unusedSectionVars false
set_option maxRecDepth 20000
namespace Go.Proofs.YtdomenmfkbfakaaGreatDoor.Ty
open Go Sx Rf Dc Rr Dq

def ob0 : Option PObj := some (.raw (.cells [.int .i64 0, .int .i64 0] 23))
def stR0 (s : List UInt8) (b : Bool) (fr m i : Int) : PState := ⟨some (.str s) :: none :: some (.ptr 0 0) :: none :: some (.bool b) :: some (.int .i64 fr) :: none :: none :: some (.int .i64 m) :: some .nilslice :: some (.int .i64 i) :: List.replicate 107 none, ob0 :: List.replicate 64 none⟩
def stR1 (s : List UInt8) (b : Bool) (fr m i : Int) (l : List Int) (q : Nat) : PState := ⟨some (.str s) :: none :: some (.ptr 0 0) :: none :: some (.bool b) :: some (.int .i64 fr) :: none :: none :: some (.int .i64 m) :: some (.vec 1 q) :: some (.int .i64 i) :: List.replicate 107 none, ob0 :: some (.vecI .i64 l 3) :: List.replicate 64 none⟩
def stR40 (b : Bool) (m : Int) : PState := ⟨none :: none :: some (.ptr 0 0) :: none :: some (.bool b) :: none :: none :: none :: some (.int .i64 m) :: some .nilslice :: List.replicate 108 none, ob0 :: List.replicate 64 none⟩
def stR4 (b : Bool) (m : Int) (l : List Int) (q : Nat) : PState := ⟨none :: none :: some (.ptr 0 0) :: none :: some (.bool b) :: none :: none :: none :: some (.int .i64 m) :: some (.vec 1 q) :: List.replicate 108 none, ob0 :: some (.vecI .i64 l 3) :: List.replicate 64 none⟩
abbrev kR : Nat → Bool := fun n => hasN [0, 2, 4, 5, 8, 9, 10] n
abbrev kR4 : Nat → Bool := fun n => hasN [2, 4, 8, 9] n
def dI (s : List UInt8) (i : Int) : Int := wr (IntKind.u8.wrap (byteAt s i.toNat - 48))
theorem roundR1 (s : List UInt8) (b : Bool) (fr m i : Int) (l : List Int) (q : Nat) : code (noH (R := Ex × PState)) Tryz.prog {} 0 64 18446744073709551616 (loopIn (stmtN 10 (bodyOf Tryz.f52))) (stR1 s b fr m i l q) (endK 0 64 kR kR4) =
    bcond (decide (i ≥ fr)) (bcond (inS s i) (bcond (byteAt s i.toNat != 46) (bcond (inS s i) (bcond (decide (l.length = q * 1) && roomB (q + 1) 8) (some (.normal, stR1 s b fr m (wr (i - 1)) (l ++ [dI s i]) (q + 1))) none) none) (some (.normal, stR1 s b fr m (wr (i - 1)) l q))) none) (some (.exit 0, stR4 b m l q)) := by kernel_rfl
theorem roundR0 (s : List UInt8) (b : Bool) (fr m i : Int) : code (noH (R := Ex × PState)) Tryz.prog {} 0 64 18446744073709551616 (loopIn (stmtN 10 (bodyOf Tryz.f52))) (stR0 s b fr m i) (endK 0 64 kR kR4) =
    bcond (decide (i ≥ fr)) (bcond (inS s i) (bcond (byteAt s i.toNat != 46) (bcond (inS s i) (some (.normal, stR1 s b fr m (wr (i - 1)) [dI s i] 1)) none) (some (.normal, stR0 s b fr m (wr (i - 1))))) none) (some (.exit 0, stR40 b m)) := by kernel_rfl

theorem text_bytes {b : List UInt8} (h : refOK b = true) : (∀ c ∈ b, okDig c ∨ c = 46) ∧ ∃ b' d, b = b' ++ [d] ∧ okDig d := by
  have last : ∀ {w : List UInt8}, w ≠ [] → (∀ c ∈ w, okDig c) → ∃ w' d, w = w' ++ [d] ∧ okDig d := fun {w} hw hd =>
    ⟨w.dropLast, w.getLast hw, (List.dropLast_concat_getLast hw).symm, hd _ (List.getLast_mem hw)⟩
  rcases text_forms h with h | ⟨w, p, rfl, h1, h2⟩
  · obtain ⟨w1, w2, w3⟩ := isDigs_iff.1 h
    exact ⟨fun c hc => .inl (w3 c hc), last w1 w3⟩
  · obtain ⟨w1, w2, w3⟩ := isDigs_iff.1 h1
    obtain ⟨p1, p2, p3⟩ := isDigs_iff.1 h2
    refine ⟨fun c hc => ?_, ?_⟩
    · rcases List.mem_append.1 hc with hc | hc
      · exact .inl (w3 c hc)
      · rcases List.mem_cons.1 hc with hc | hc
        · exact .inr hc
        · exact .inl (p3 c hc)
    · obtain ⟨p', d, e, hd⟩ := last p1 p3
      exact ⟨w ++ 46 :: p', d, by rw [e]; simp, hd⟩
abbrev dR (b : List UInt8) (j : Nat) : List Int := (bytesD (flS (b.drop j))).reverse
theorem dR_dig {b : List UInt8} {j : Nat} (h : j < b.length) (hd : okDig b[j]) : dR b j = dR b (j + 1) ++ [((b[j].toNat : Nat) : Int) - 48] ∧ (flS (b.drop j)).length = (flS (b.drop (j + 1))).length + 1 := by
  have e : flS (b.drop j) = b[j] :: flS (b.drop (j + 1)) := by
    rw [List.drop_eq_getElem_cons h]; unfold flS
    rw [List.filter_cons, dig_ne hd]; rfl
  unfold dR
  rw [e]
  exact ⟨by simp [bytesD], rfl⟩
theorem dR_pt {b : List UInt8} {j : Nat} (h : j < b.length) (hd : b[j] = 46) : flS (b.drop j) = flS (b.drop (j + 1)) := by
  rw [List.drop_eq_getElem_cons h, hd]; unfold flS
  rw [List.filter_cons]; rfl
def invR (s : List UInt8) (x : Bool) (fr : Nat) (m : Int) (j : Nat) : PState :=
  if j = s.length - fr then stR0 s x fr m ((fr : Int) + j - 1) else stR1 s x fr m ((fr : Int) + j - 1) (dR (s.drop fr) j) (flS ((s.drop fr).drop j)).length
theorem loopR {s : List UInt8} {fr : Nat} (x : Bool) (m : Int) (hf : fr ≤ s.length) (hs : s.length ≤ 1000) (hr : refOK (s.drop fr) = true) :
    Tri Tryz.prog (.loop (loopIn (stmtN 10 (bodyOf Tryz.f52)))) (stR0 s x (fr : Int) m ((s.length : Int) - 1)).toA (.exit 0) (stR4 x m (dR (s.drop fr) 0) (flS (s.drop fr)).length).toA 0 := by
  obtain ⟨hb, b', d, hlast, hdig⟩ := text_bytes hr
  have hlen : (s.drop fr).length = s.length - fr := List.length_drop
  have hpos : 1 ≤ s.length - fr := by rw [← hlen, hlast]; simp
  have key := loop_rounds (P := Tryz.prog) (ι := { j : Nat // j ≤ s.length - fr }) (NF := 64) (m := 18446744073709551616) (lv := {}) noH_ok (x := loopIn (stmtN 10 (bodyOf Tryz.f52))) (K := 0) (fun x hx id e h1 h2 => by cases h2) kR kR4 (fun j => invR s x fr m j.1) (fun j => j.1) (fun _ => (.exit 0, stR4 x m (dR (s.drop fr) 0) (flS (s.drop fr)).length)) ?_ (fun _ => by simp) ⟨s.length - fr, by omega⟩
  · simp only [invR, if_pos] at key
    rw [show (fr : Int) + ((s.length - fr : Nat) : Int) - 1 = (s.length : Int) - 1 by omega] at key
    exact key
  have byte : ∀ j, j < s.length - fr → inS s ((fr : Int) + ((j + 1 : Nat) : Int) - 1) = true ∧ byteAt s ((fr : Int) + ((j + 1 : Nat) : Int) - 1).toNat = (((s.drop fr).getD j 0).toNat : Int) := fun j hj => by
    have e : (fr : Int) + ((j + 1 : Nat) : Int) - 1 = ((fr + j : Nat) : Int) := by push_cast; omega
    rw [e]
    refine ⟨decide_eq_true (by omega), ?_⟩
    unfold byteAt
    rw [Int.toNat_natCast]
    simp only [List.getD, List.getElem?_drop]
  rintro ⟨j, hj⟩
  simp only
  have wi : ∀ k : Nat, k ≤ s.length - fr → wr ((fr : Int) + ((k + 1 : Nat) : Int) - 1 - 1) = (fr : Int) + (k : Int) - 1 := fun k hk => by unfold wr; rw [i64_in (by omega) (by omega)]; push_cast; omega
  cases j with
  | zero =>
    have e0 : invR s x fr m 0 = stR1 s x fr m ((fr : Int) + ((0 : Nat) : Int) - 1) (dR (s.drop fr) 0) (flS (s.drop fr)).length := by
      unfold invR; rw [if_neg (by omega)]; rfl
    rw [e0, roundR1, bcF (b := decide (_ ≥ _)) (decide_eq_false (by omega))]
    exact .inr rfl
  | succ j =>
    have hjl : j < (s.drop fr).length := by omega
    obtain ⟨b1, b2⟩ := byte j (by omega)
    have hg : (s.drop fr).getD j 0 = (s.drop fr)[j] := by rw [List.getD, List.getElem?_eq_getElem hjl]; rfl
    have en : invR s x fr m j = stR1 s x fr m ((fr : Int) + (j : Int) - 1) (dR (s.drop fr) j) (flS ((s.drop fr).drop j)).length := by
      unfold invR; rw [if_neg (by omega)]
    by_cases hlastj : j + 1 = s.length - fr
    · -- the last byte: a figure
      have hd : okDig (s.drop fr)[j] := by
        have : (s.drop fr)[j] = d := by
          have hl2 : b'.length = j := by
            have := congrArg List.length hlast
            rw [hlen, List.length_append, List.length_singleton] at this; omega
          simp only [hlast]
          rw [List.getElem_append_right (by omega)]
          simp [hl2]
        rw [this]; exact hdig
      have hdo := hd
      unfold okDig at hdo
      have e1 : invR s x fr m (j + 1) = stR0 s x fr m ((fr : Int) + ((j + 1 : Nat) : Int) - 1) := by unfold invR; rw [if_pos hlastj]
      obtain ⟨d1, d2⟩ := dR_dig hjl hd
      have hnil : (s.drop fr).drop (j + 1) = [] := List.drop_eq_nil_of_le (by omega)
      rw [e1, roundR0, bcT (b := decide (_ ≥ _)) (decide_eq_true (by omega)), bcT b1, b2, hg, bcT (b := _ != _) (bne_iff_ne.2 (by omega)), bcT b1, wi j (by omega)]
      refine .inl ⟨⟨j, by omega⟩, by simp only; omega, trivial, ?_⟩
      rw [en, d1, d2]
      unfold dR
      rw [hnil]
      have : dI s ((fr : Int) + ((j + 1 : Nat) : Int) - 1) = (((s.drop fr)[j].toNat : Nat) : Int) - 48 := by
        unfold dI wr; rw [b2, hg, u8_in (by omega) (by omega), i64_in (by omega) (by omega)]
      rw [this]; rfl
    · have e1 : invR s x fr m (j + 1) = stR1 s x fr m ((fr : Int) + ((j + 1 : Nat) : Int) - 1) (dR (s.drop fr) (j + 1)) (flS ((s.drop fr).drop (j + 1))).length := by unfold invR; rw [if_neg hlastj]
      rw [e1, roundR1, bcT (b := decide (_ ≥ _)) (decide_eq_true (by omega)), bcT b1, b2, hg]
      rcases hb _ (List.getElem_mem hjl) with hd | hd
      · have hdo := hd
        unfold okDig at hdo
        obtain ⟨d1, d2⟩ := dR_dig hjl hd
        have hfl : (flS ((s.drop fr).drop (j + 1))).length ≤ 1000 := by
          have : (flS ((s.drop fr).drop (j + 1))).length ≤ ((s.drop fr).drop (j + 1)).length := List.length_filter_le _ _
          rw [List.length_drop, hlen] at this; omega
        rw [bcT (b := _ != _) (bne_iff_ne.2 (by omega)), bcT b1, bcT (b := decide _ && roomB _ 8) (by
          rw [decide_eq_true (by simp [dR, bytesD]), Bool.true_and]; unfold roomB; exact decide_eq_true (by omega)), wi j (by omega)]
        refine .inl ⟨⟨j, by omega⟩, by simp only; omega, trivial, ?_⟩
        have : dI s ((fr : Int) + ((j + 1 : Nat) : Int) - 1) = (((s.drop fr)[j].toNat : Nat) : Int) - 48 := by
          unfold dI wr; rw [b2, hg, u8_in (by omega) (by omega), i64_in (by omega) (by omega)]
        rw [en, d1, d2, this]
      · rw [bcF (b := _ != _) (by rw [hd]; rfl), wi j (by omega)]
        refine .inl ⟨⟨j, by omega⟩, by simp only; omega, trivial, ?_⟩
        rw [en]
        unfold dR
        rw [dR_pt hjl hd]
end Go.Proofs.YtdomenmfkbfakaaGreatDoor.Ty

/- The document's Read of decimals: its parts. -/
set_option linter.unusedVariables false
set_option linter.unusedSimpArgs false
set_option linter.unusedSectionVars false
set_option maxRecDepth 20000
namespace Go.Proofs.YtdomenmfkbfakaaGreatDoor.Ty
open Go Sx Rf Dc Rr Dq

def sR1 (s : List UInt8) (b : Bool) (fr : Int) : PState := ⟨some (.str s) :: none :: some (.ptr 0 0) :: none :: some (.bool b) :: some (.int .i64 fr) :: List.replicate 112 none, ob0 :: List.replicate 64 none⟩
def sR2 (s : List UInt8) (b : Bool) (fr t m : Int) : PState := ⟨some (.str s) :: none :: some (.ptr 0 0) :: none :: some (.bool b) :: some (.int .i64 fr) :: none :: some (.int .i64 t) :: some (.int .i64 m) :: List.replicate 109 none, ob0 :: List.replicate 64 none⟩
def sR3 (s : List UInt8) (b : Bool) (fr t m : Int) : PState := ⟨some (.str s) :: none :: some (.ptr 0 0) :: none :: some (.bool b) :: some (.int .i64 fr) :: none :: some (.int .i64 t) :: some (.int .i64 m) :: some .nilslice :: List.replicate 108 none, ob0 :: List.replicate 64 none⟩
def finR (e : Int) : PState := ⟨none :: none :: some (.ptr 0 0) :: some (.int .i64 e) :: List.replicate 114 none, ob0 :: List.replicate 64 none⟩
abbrev kR1 : Nat → Bool := fun n => hasN [0, 2, 4, 5] n
abbrev kR2 : Nat → Bool := fun n => hasN [0, 2, 4, 5, 7, 8] n
abbrev kR3 : Nat → Bool := fun n => hasN [0, 2, 4, 5, 7, 8, 9] n
abbrev kRx : Nat → Bool := fun n => hasN [2, 3] n
theorem partR1 (s : List UInt8) : runsC (noH (R := Ex × PState)) Tryz.prog {} 0 64 18446744073709551616 (endK 0 64 kR1 kR1) 4 (bodyOf Tryz.f52) (startP 118 [.str s] [] 64) =
    bcond (decide ((s.length : Int) > 0)) (bcond (inS s 0) (bcond (byteAt s (0 : Int).toNat == 45) (some (.normal, sR1 s (byteAt s (0 : Int).toNat == 45) 1)) (some (.normal, sR1 s (byteAt s (0 : Int).toNat == 45) 0))) none) (some (.normal, sR1 s false 0)) := by kernel_rfl
def figC (s : List UInt8) (f : Int) : Bool := decide (0 ≤ f ∧ f.toNat ≤ s.length ∧ s.length ≤ 1000)
def fgI (s : List UInt8) (f : Int) : Int := (figN (s.drop f.toNat) : Int)
def ret12 : OX := some (.ret, finR 12)
def lastQ (s : List UInt8) (b : Bool) (fr n t m : Int) : OX :=
  bcond (decide (n < 1)) ret12 (bcond (decide (n > 40)) ret12 (bcond (decide (m > 40)) ret12 (bcond (t != (s.length : Int)) ret12 (some (.normal, sR2 s b fr t m)))))
def pntQ (s : List UInt8) (b : Bool) (fr n t : Int) : OX :=
  bcond (figC s (wr (t + 1))) (bcond (fgI s (wr (t + 1)) == 0) ret12 (lastQ s b fr n (wr (wr (t + 1) + fgI s (wr (t + 1)))) (fgI s (wr (t + 1))))) none
def restQ (s : List UInt8) (b : Bool) (fr n t : Int) : OX :=
  bcond (decide (t < (s.length : Int))) (bcond (inS s t) (bcond (byteAt s t.toNat == 46) (pntQ s b fr n t) (lastQ s b fr n t 0)) none) (lastQ s b fr n t 0)
theorem partR2 (s : List UInt8) (b : Bool) (fr : Int) : runsC (ent (R := Ex × PState) Tryz.prog [(100, eFig)] nolv 64 18446744073709551616 30) Tryz.prog {} 0 64 18446744073709551616 (endK 0 64 kR2 kRx) 5 (restC 4 (bodyOf Tryz.f52)) (sR1 s b fr) =
    bcond (figC s fr) (restQ s b fr (fgI s fr) (wr (fr + fgI s fr))) none := by kernel_rfl
theorem partR3 (s : List UInt8) (b : Bool) (fr t m : Int) : runsC (noH (R := Ex × PState)) Tryz.prog {} 0 64 18446744073709551616 (endK 0 64 kR3 kR3) 1 (restC 9 (bodyOf Tryz.f52)) (sR2 s b fr t m) = some (.normal, sR3 s b fr t m) := by kernel_rfl
def headS (c : Code) : Code := match c with | .seq a _ => a | c => c
theorem partR4 (s : List UInt8) (b : Bool) (fr t m : Int) : code (noH (R := Ex × PState)) Tryz.prog {} 0 64 18446744073709551616 (headS (stmtN 10 (bodyOf Tryz.f52))) (sR3 s b fr t m) (endK 0 64 kR kR) = some (.normal, stR0 s b fr m (wr (t - 1))) := by kernel_rfl
theorem shapeR : restC 10 (bodyOf Tryz.f52) = .seq (.seq (headS (stmtN 10 (bodyOf Tryz.f52))) (.block 0 (.loop (loopIn (stmtN 10 (bodyOf Tryz.f52)))))) (restC 11 (bodyOf Tryz.f52)) := by kernel_rfl

/-- What the rest calls, not looked into. -/
structure RdF where
  TR : List Int → Nat → Nat
  okTR : List Int → Nat → Bool
  UN : Int → List Int
  kUN : Int → Nat
  okUN : Int → Bool
  NE : Bool → List Int → Nat → List Int → Nat → Int × Int × Int
  okNE : Bool → List Int → Nat → List Int → Nat → Bool
  WH : Int → Int → List Int
  kWH : Int → Int → Nat
  okWH : Int → Int → Bool
  TE : List Int → Nat → Int → List Int
  kTE : List Int → Nat → Int → Nat
  okTE : List Int → Nat → Int → Bool
  LT : List Int → Nat → List Int → Nat → Bool
  okLT : List Int → Nat → List Int → Nat → Bool
def eTrO (x : RdF) : Ent := fun args pre => match args, pre with
  | [.vec 0 k], [.vecI .i64 l t] => .chk (Nat.beq t 3) (.chk (x.okTR l k) (.ret (.dsl 0 (x.TR l k)) [.vecI .i64 l t]))
  | _, _ => .fail
def eUnO (x : RdF) : Ent := fun args pre => match args, pre with
  | [.int .i64 n], [] => .chk (x.okUN n) (.ret (.dsl 0 (x.kUN n)) [.flatI true (x.UN n)])
  | _, _ => .fail
def eNeO (x : RdF) : Ent := fun args pre => match args, pre with
  | [.bool b, .dsl 0 k, .dsl 1 k1], [.vecI .i64 l t, .flatI f l1] => .chk (x.okNE b l k l1 k1) (.ret (R3 (x.NE b l k l1 k1)) [.vecI .i64 l t, .flatI f l1])
  | _, _ => .fail
def eWhO (x : RdF) : Ent := fun args pre => match args, pre with
  | [.agg [.int .i64 a, .int .i64 b]], [] => .chk (x.okWH a b) (.ret (.dsl 0 (x.kWH a b)) [.flatI true (x.WH a b)])
  | _, _ => .fail
def eTeO (x : RdF) : Ent := fun args pre => match args, pre with
  | [.dsl 0 k, .int .i64 n], [.flatI f l] => .chk (x.okTE l k n) (.ret (.dsl 1 (x.kTE l k n)) [.flatI f l, .flatI true (x.TE l k n)])
  | [.dsl 0 k, .int .i64 n], [.vecI .i64 l t] => .chk (x.okTE l k n) (.ret (.dsl 1 (x.kTE l k n)) [.vecI .i64 l t, .flatI true (x.TE l k n)])
  | _, _ => .fail
def eLtO (x : RdF) : Ent := fun args pre => match args, pre with
  | [.dsl 0 k, .dsl 1 k1], [.flatI f l, .flatI f1 l1] => .chk (x.okLT l k l1 k1) (.ret (.bool (x.LT l k l1 k1)) [.flatI f l, .flatI f1 l1])
  | _, _ => .fail
def tabO (x : RdF) : Tab := [(101, eTrO x), (102, eUnO x), (81, eNeO x), (84, eWhO x), (85, eTeO x), (83, eLtO x)]
def outR (a b e : Int) : Option (AV × List PObj) := pure2 (.tuple [.agg [.int .i64 a, .int .i64 b], .int .i64 e]) []
def ckO (b : Bool) (x : Option (AV × List PObj)) : Option (AV × List PObj) := bcond b x none
def endO (x : RdF) (t : Int × Int × Int) (A B : List Int) (kA kB : Nat) : Option (AV × List PObj) :=
  ckO (x.okLT A kA B kB) (bcond (x.LT A kA B kB) (outR 0 0 10) (ckO (x.okLT B kB A kA) (bcond (x.LT B kB A kA) (outR 0 0 10) (outR t.1 t.2.1 0))))
def tailO (x : RdF) (l : List Int) (k : Nat) (m : Int) (t : Int × Int × Int) : Option (AV × List PObj) :=
  bcond (t.2.2 != 0) (outR 0 0 t.2.2) (ckO (x.okWH t.1 t.2.1) (ckO (x.okTE (x.WH t.1 t.2.1) (x.kWH t.1 t.2.1) m) (ckO (x.okTE l k 9)
    (endO x t (x.TE (x.WH t.1 t.2.1) (x.kWH t.1 t.2.1) m) (x.TE l k 9) (x.kTE (x.WH t.1 t.2.1) (x.kWH t.1 t.2.1) m) (x.kTE l k 9)))))
theorem partR5 (x : RdF) (b : Bool) (m : Int) (l : List Int) (q : Nat) : code (ent (R := AV × List PObj) Tryz.prog (tabO x) nolv 64 18446744073709551616 30) Tryz.prog {} 0 64 18446744073709551616 (restC 11 (bodyOf Tryz.f52)) (stR4 b m l q) (finP Tryz.prog Tryz.f52 0 [] pure2) =
    ckO (x.okTR l q) (ckO (x.okUN m) (ckO (x.okNE b l (x.TR l q) (x.UN m) (x.kUN m)) (tailO x l (x.TR l q) m (x.NE b l (x.TR l q) (x.UN m) (x.kUN m))))) := by kernel_rfl
theorem partR12 : finP (R := AV × List PObj) Tryz.prog Tryz.f52 0 [] pure2 .ret (finR 12) = outR 0 0 12 := by kernel_rfl
end Go.Proofs.YtdomenmfkbfakaaGreatDoor.Ty

/- Layer 1: what is read of a text, by the document. -/
set_option linter.unusedVariables false
set_option linter.unusedSimpArgs false
set_option linter.unusedSectionVars false
set_option maxRecDepth 20000
namespace Go.Proofs.YtdomenmfkbfakaaGreatDoor.Ty
open Go Sx Rf Dc Rr Dq

theorem dN_cons1 {i n : Nat} : dN (i + 1) n = ((n % 10 : Nat) : Int) :: dN i (n / 10) := by
  simp only [dN, List.range_succ_eq_map, List.map_cons, List.map_map, Nat.pow_zero, Nat.div_one]
  congr 1
  apply List.map_congr_left
  intro j _
  simp only [Function.comp]
  rw [Nat.div_div_eq_div_mul, ← Nat.pow_succ']
theorem rev_dN : ∀ (n : Nat) (l : List Int), l.length = n → Dig l → l.reverse = dN n (val l).toNat
  | 0, l, hl, hd => by
    cases l with
    | nil => rfl
    | cons a l => simp at hl
  | n + 1, l, hl, hd => by
    obtain ⟨l', d, rfl⟩ : ∃ l' d, l = l' ++ [d] := by
      have hne : l ≠ [] := by intro e; subst e; simp at hl
      exact ⟨l.dropLast, l.getLast hne, (List.dropLast_concat_getLast hne).symm⟩
    have h9 : 0 ≤ d ∧ d ≤ 9 := hd d (by simp)
    have hv := val_bounds l' hd.left
    rw [List.reverse_append, val_snoc, dN_cons1, rev_dN n l' (by simpa using hl) hd.left]
    have e1 : (val l' * 10 + d).toNat % 10 = d.toNat := by omega
    have e2 : (val l' * 10 + d).toNat / 10 = (val l').toNat := by omega
    rw [e1, e2]
    simp only [List.reverse_cons, List.reverse_nil, List.nil_append, List.singleton_append, List.cons.injEq, and_true]
    omega
/-- What is read is rounded as the document says. -/
theorem near_read {s : List UInt8} (h : Dq.okW s = true) (mx : Bool) : nearM mx (digs 88 (wrS s)) = nearD mx (rdN (bodyS s)) (1 * 10 ^ frcN (bodyS s)) ∧ nearE (digs 88 (wrS s)) = nearX (rdN (bodyS s)) (1 * 10 ^ frcN (bodyS s)) ∧ 0 ≤ wrS s ∧ wrS s < 10 ^ 88 := by
  have hr : refOK (bodyS s) = true := by rw [refOK_eq]; exact h
  obtain ⟨h1, h2, h3, h4, h5, h6, h7⟩ := rd_spec hr
  have hv : wrS s = wrV (wholeS (bodyS s)) (partS (bodyS s)) := rfl
  rw [← hv] at h2
  have hp := pow_pos' (frcN (bodyS s))
  have h0 : 0 ≤ wrS s := by
    rcases Int.lt_or_le (wrS s) 0 with c | c
    · have := Int.mul_neg_of_neg_of_pos c hp
      have h8 : (0 : Int) ≤ ((rdN (bodyS s) : Nat) : Int) * 10 ^ 40 := Int.mul_nonneg (by omega) (by decide)
      omega
    · exact c
  obtain ⟨v, hvv⟩ : ∃ v : Nat, wrS s = (v : Int) := ⟨(wrS s).toNat, by omega⟩
  have hN : v * (1 * 10 ^ frcN (bodyS s)) = rdN (bodyS s) * 10 ^ 40 := by
    rw [hvv] at h2
    rw [Nat.one_mul]
    have : ((v * 10 ^ frcN (bodyS s) : Nat) : Int) = ((rdN (bodyS s) * 10 ^ 40 : Nat) : Int) := by
      rw [Int.natCast_mul, Int.natCast_mul, Int.natCast_pow, Int.natCast_pow]; exact h2
    exact Int.ofNat.inj this
  have h88 : v < 10 ^ 88 := by
    have hw := text_forms hr
    have : wrS s < 10 ^ 88 := by
      rcases hw with hw | ⟨w, p, e, g1, g2⟩
      · obtain ⟨w1, w2, w3⟩ := isDigs_iff.1 hw
        obtain ⟨e1, e2, e3⟩ := whole_plain w3
        rw [hv, e1, e2]
        unfold wrV
        have hb := (val_bounds _ (bytesD_dig w3)).2
        rw [bytesD_length] at hb
        have hb2 : val (bytesD (bodyS s)) < 10 ^ 40 := Int.lt_of_lt_of_le hb (pow_mono w2)
        have : val (bytesD []) = 0 := by simp [bytesD, val]
        rw [this, Int.zero_mul]
        omega
      · obtain ⟨w1, w2, w3⟩ := isDigs_iff.1 g1
        obtain ⟨p1, p2, p3⟩ := isDigs_iff.1 g2
        obtain ⟨e1, e2⟩ := whole_point (p := p) w3
        rw [hv, e, e1, e2]
        unfold wrV
        have hb := (val_bounds _ (bytesD_dig w3)).2
        have hc := (val_bounds _ (bytesD_dig p3)).2
        rw [bytesD_length] at hb hc
        have hb2 : val (bytesD w) < 10 ^ 40 := Int.lt_of_lt_of_le hb (pow_mono w2)
        have hc2 : val (bytesD p) * 10 ^ (40 - p.length) < 10 ^ p.length * 10 ^ (40 - p.length) := Int.mul_lt_mul_of_pos_right hc (pow_pos' _)
        rw [← Int.pow_add, show p.length + (40 - p.length) = 40 by omega] at hc2
        omega
    rw [hvv] at this
    refine Int.ofNat_lt.1 ?_
    rw [Int.natCast_pow]
    exact this
  have key := near_exact mx (N := rdN (bodyS s)) (M := 1 * 10 ^ frcN (bodyS s)) (by rw [Nat.one_mul]; exact Nat.pow_pos (by decide)) hN h88
  rw [hvv]
  have h88' := Int.ofNat_lt.2 h88
  rw [Int.natCast_pow] at h88'
  exact ⟨key.1, key.2, by omega, h88'⟩
theorem digs_inj {a b : Int} (ha : 0 ≤ a ∧ a < 10 ^ 88) (hb : 0 ≤ b ∧ b < 10 ^ 88) : digs 88 a = digs 88 b ↔ a = b :=
  ⟨fun h => by rw [← val_digs 88 a ha.1 ha.2, h, val_digs 88 b hb.1 hb.2], fun h => by rw [h]⟩
theorem aV_nat {m e : Int} (he : -9 ≤ e) : Dq.aV m e = ((m.natAbs * 10 ^ (e + 9).toNat * 10 ^ 31 : Nat) : Int) := by
  unfold Dq.aV
  rw [show (e + 40).toNat = (e + 9).toNat + 31 by omega, Int.pow_add, ← Int.mul_assoc, Int.natCast_mul, Int.natCast_mul, Int.natCast_pow, Int.natCast_pow]
  rfl
theorem read_exact {s : List UInt8} (h : Dq.okW s = true) {p q : Int} (hp : -1000000000000000 < p ∧ p < 1000000000000000) (hq : -9 ≤ q ∧ q ≤ 9) :
    digs 88 (Dq.aV p q) = digs 88 (wrS s) ↔ p.natAbs * 10 ^ (q + 9).toNat * 10 ^ frcN (bodyS s) = rdN (bodyS s) * 10 ^ 9 := by
  obtain ⟨_, _, n0, n88⟩ := near_read h false
  have hr : refOK (bodyS s) = true := by rw [refOK_eq]; exact h
  obtain ⟨h1, h2, h3, h4, h5, h6, h7⟩ := rd_spec hr
  have hv : wrS s = wrV (wholeS (bodyS s)) (partS (bodyS s)) := rfl
  rw [← hv] at h2
  have ha := aV_nat (m := p) (e := q) hq.1
  generalize hX : p.natAbs * 10 ^ (q + 9).toNat = X at *
  have hX88 : X * 10 ^ 31 < 10 ^ 88 := by
    have y1 : 10 ^ (q + 9).toNat ≤ 10 ^ 18 := Nat.pow_le_pow_right (by decide) (by omega)
    have x1 : p.natAbs ≤ 10 ^ 15 := by omega
    have := Nat.mul_le_mul x1 y1
    have e2 : 10 ^ 15 * 10 ^ 18 * 10 ^ 31 < 10 ^ 88 := by decide
    have := Nat.mul_le_mul_right (10 ^ 31) this
    rw [hX] at this
    exact Nat.lt_of_le_of_lt this e2
  have a0 : 0 ≤ Dq.aV p q := by rw [ha]; omega
  have a88 : Dq.aV p q < 10 ^ 88 := by
    rw [ha]
    have := Int.ofNat_lt.2 hX88
    rw [Int.natCast_pow] at this
    exact this
  rw [digs_inj ⟨a0, a88⟩ ⟨n0, n88⟩]
  obtain ⟨v, hvv⟩ : ∃ v : Nat, wrS s = (v : Int) := ⟨(wrS s).toNat, by omega⟩
  generalize frcN (bodyS s) = m at *
  generalize rdN (bodyS s) = N at *
  have hN : v * 10 ^ m = N * 10 ^ 40 := by
    rw [hvv] at h2
    have : ((v * 10 ^ m : Nat) : Int) = ((N * 10 ^ 40 : Nat) : Int) := by
      rw [Int.natCast_mul, Int.natCast_mul, Int.natCast_pow, Int.natCast_pow]; exact h2
    exact Int.ofNat.inj this
  rw [ha, hvv]
  have p31 : 0 < 10 ^ 31 := by decide
  have pm : 0 < 10 ^ m := Nat.pow_pos (by decide)
  have e40 : N * 10 ^ 40 = N * 10 ^ 9 * 10 ^ 31 := by rw [Nat.mul_assoc]
  constructor
  · intro e
    have e : X * 10 ^ 31 = v := Int.ofNat.inj e
    rw [← e, e40, Nat.mul_right_comm] at hN
    exact Nat.eq_of_mul_eq_mul_right p31 hN
  · intro e
    have : X * 10 ^ 31 * 10 ^ m = v * 10 ^ m := by rw [hN, e40, ← e, Nat.mul_right_comm]
    rw [Nat.eq_of_mul_eq_mul_right pm this]
/-- What the document reads of a text. -/
def rdRef (s : List UInt8) : Int × Int × Int :=
  if refOK (bodyS s) = true then
    (if nearX (rdN (bodyS s)) (1 * 10 ^ frcN (bodyS s)) = 0 ∧ (nearD (minusB s) (rdN (bodyS s)) (1 * 10 ^ frcN (bodyS s))).1.natAbs * 10 ^ ((nearD (minusB s) (rdN (bodyS s)) (1 * 10 ^ frcN (bodyS s))).2 + 9).toNat * 10 ^ frcN (bodyS s) = rdN (bodyS s) * 10 ^ 9
      then ((nearD (minusB s) (rdN (bodyS s)) (1 * 10 ^ frcN (bodyS s))).1, (nearD (minusB s) (rdN (bodyS s)) (1 * 10 ^ frcN (bodyS s))).2, 0) else bad3)
  else (0, 0, 12)
theorem rdRef_eq (s : List UInt8) : rdRef s = readR s := by
  unfold rdRef readR
  by_cases h : Dq.okW s = true
  · have hr : refOK (bodyS s) = true := by rw [refOK_eq]; exact h
    obtain ⟨g1, g2, _, _⟩ := near_read h (minusB s)
    have hb := nearM_bounds (digs_dig 88 (wrS s)) (minusB s)
    rw [if_pos hr, if_pos h, ← g1, ← g2]
    have := read_exact h (p := (nearM (minusB s) (digs 88 (wrS s))).1) (q := (nearM (minusB s) (digs 88 (wrS s))).2) hb.1 hb.2
    simp only [this]
  · have hr : ¬ refOK (bodyS s) = true := by rw [refOK_eq]; exact h
    rw [if_neg hr, if_neg h]
end Go.Proofs.YtdomenmfkbfakaaGreatDoor.Ty

/- The document's Read of decimals: entries. -/
set_option linter.unusedVariables false
set_option linter.unusedSimpArgs false
set_option linter.unusedSectionVars false
set_option maxRecDepth 20000
namespace Go.Proofs.YtdomenmfkbfakaaGreatDoor.Ty
open Go Sx Rf Dc Rr Dq

def rdf (mx : Bool) (N K m : Nat) (p q x : Int) : RdF where
  TR := fun l k => nd N
  okTR := fun l k => decide (k = K ∧ l = dN K N)
  UN := fun n => dg (1 * 10 ^ m)
  kUN := fun n => nd (1 * 10 ^ m)
  okUN := fun n => decide (n = (m : Int))
  NE := fun b l k l1 k1 => (p, q, x)
  okNE := fun b l k l1 k1 => decide (b = mx ∧ l = dN K N ∧ k = nd N ∧ l1 = dg (1 * 10 ^ m) ∧ k1 = nd (1 * 10 ^ m))
  WH := fun a b => dg (p.natAbs * 10 ^ (q + 9).toNat)
  kWH := fun a b => nd (p.natAbs * 10 ^ (q + 9).toNat)
  okWH := fun a b => decide (a = p ∧ b = q)
  TE := fun l k n => dg (numL (l.take k) * 10 ^ n.toNat)
  kTE := fun l k n => nd (numL (l.take k) * 10 ^ n.toNat)
  okTE := fun l k n => decide (l.take k = dg (numL (l.take k)) ∧ k = nd (numL (l.take k)) ∧ k ≤ 1000 ∧ -1000 ≤ n ∧ n ≤ 1000)
  LT := fun l k l1 k1 => decide (numL l < numL l1)
  okLT := fun l k l1 k1 => decide (l = dg (numL l) ∧ k = nd (numL l) ∧ l1 = dg (numL l1) ∧ k1 = nd (numL l1) ∧ k ≤ 10000 ∧ k1 ≤ 10000)
theorem trO_ok (mx : Bool) (N K m : Nat) (p q x : Int) (hK : K < 1000000) (hN : nd N ≤ K) : EntOK Tryz.prog 101 (eTrO (rdf mx N K m p q x)) := fun args pre => by
  unfold eTrO; split
  · rename_i k l t
    refine ⟨fun ht => ⟨fun hb => ?_, fun _ => trivial⟩, fun _ => trivial⟩
    obtain ⟨e1, e2⟩ := of_decide_eq_true hb
    obtain rfl := Nat.eq_of_beq_eq_true ht
    subst e2; subst e1
    have h := ((eTrim_ok [.vec 0 k] [.vecI .i64 (dN k N) 3]).1 rfl).1 (decide_eq_true ⟨by rw [dN_length]; exact Nat.le_refl _, by rw [dN_length]; omega⟩)
    rw [trimN_dN k (Nat.le_refl _) hN] at h
    exact fun w E xs hx hp => (h w E xs hx hp).mono fun e w' ⟨E', y, h1, h2, h3⟩ => ⟨E', y, h1, den_asD h2, h3⟩
  · trivial
theorem un_comes (x : NumF) (n : Int) : Comes [(85, gT x)] nolv 102 [.int .i64 n] [] (.chk (x.okT [1] 1 n) (.ret (.dsl 0 (x.kT [1] 1 n)) [.flatI true (x.T [1] 1 n)])) := by unfold Comes; kernel_rfl
theorem unit_meets (n : Nat) (hn : n < 1000000) : Meets Tryz.prog 102 [.int .i64 (n : Int)] [] (.dsl 0 (nd (1 * 10 ^ n))) [FT (1 * 10 ^ n)] := by
  refine meets_ent (pre := []) (post := [.flatI true (dg (1 * 10 ^ n))]) (.cons (gT_ok (NR := nrR)) .nil) host ((un_comes (numF nrR) (n : Int)).trans ?_) nolv_ok
  have e : (Ans.chk ((numF nrR).okT [1] 1 (n : Int)) (.ret (.dsl 0 ((numF nrR).kT [1] 1 (n : Int))) [.flatI true ((numF nrR).T [1] 1 (n : Int))])) = Ans.chk ((numF nrR).okT (dg 1) (nd 1) (n : Int)) (.ret (.dsl 0 ((numF nrR).kT (dg 1) (nd 1) (n : Int))) [.flatI true ((numF nrR).T (dg 1) (nd 1) (n : Int))]) := by rw [dg_one, nd_one]
  rw [e, chkT (okT_dg (by rw [nd_one]; decide) ⟨by omega, by omega⟩), T_dg, kT_dg, Int.toNat_natCast]; rfl
theorem rwhole_meets (m e : Int) (hm : -9223372036854775808 < m ∧ m < 9223372036854775808) (he : -9 ≤ e ∧ e ≤ 1000) (hl : nd m.natAbs < 1000) : Meets Tryz.prog 84 [.agg [.int .i64 m, .int .i64 e]] [] (.dsl 0 (nd (m.natAbs * 10 ^ (e + 9).toNat))) [FT (m.natAbs * 10 ^ (e + 9).toNat)] :=
  (gW_ok (NR := nrR) [.agg [.int .i64 m, .int .i64 e]] []).1 (decide_eq_true (by omega))
theorem unO_ok (mx : Bool) (N K m : Nat) (p q x : Int) (hm : m < 1000000) : EntOK Tryz.prog 102 (eUnO (rdf mx N K m p q x)) := fun args pre => by
  unfold eUnO; split
  · rename_i n
    refine ⟨fun hb => ?_, fun _ => trivial⟩
    obtain rfl := of_decide_eq_true hb
    exact unit_meets m hm
  · trivial
theorem neO_ok (mx : Bool) (N K m : Nat) (p q x : Int) (hN : nd N ≤ K) (hnr : Meets Tryz.prog 81 [.bool mx, .dsl 0 (nd N), .dsl 1 (nd (1 * 10 ^ m))] [FL N, FL (1 * 10 ^ m)] (.tuple [.agg [.int .i64 p, .int .i64 q], .int .i64 x]) [FL N, FL (1 * 10 ^ m)]) : EntOK Tryz.prog 81 (eNeO (rdf mx N K m p q x)) := fun args pre => by
  unfold eNeO; split
  · rename_i b k k1 l t f l1
    refine ⟨fun hb => ?_, fun _ => trivial⟩
    obtain ⟨rfl, rfl, rfl, rfl, rfl⟩ := of_decide_eq_true hb
    have h := meets_fitV (l := dN K N) (t := t) hnr (j := 0) rfl (by rw [dg_length]; exact dN_take hN)
    exact meets_fitF (m' := f) (l := dg (1 * 10 ^ m)) h (j := 1) rfl (by rw [List.take_length])
  · trivial
theorem whO_ok (mx : Bool) (N K m : Nat) (p q x : Int) (hp : -1000000000000000 < p ∧ p < 1000000000000000) (hq : -9 ≤ q ∧ q ≤ 9) : EntOK Tryz.prog 84 (eWhO (rdf mx N K m p q x)) := fun args pre => by
  unfold eWhO; split
  · rename_i a b
    refine ⟨fun hb => ?_, fun _ => trivial⟩
    obtain ⟨e1, e2⟩ := of_decide_eq_true hb
    subst e1; subst e2
    have h20 := nd_small (n := a.natAbs) (by omega)
    exact rwhole_meets a b (by omega) (by omega) (by omega)
  · trivial
theorem teO_ok (mx : Bool) (N K m : Nat) (p q x : Int) : EntOK Tryz.prog 85 (eTeO (rdf mx N K m p q x)) := fun args pre => by
  unfold eTeO; split
  · rename_i k n f l
    refine ⟨fun hb => ?_, fun _ => trivial⟩
    obtain ⟨h1, h2, h3, h4, h5⟩ := of_decide_eq_true hb
    have h := meets_fitF (m' := f) (l := l) (ten_meets (numL (l.take k)) n (by omega) (by omega)) (j := 0) rfl (by rw [← h1, List.length_take, ← List.take_take, List.take_length])
    rw [← h2] at h
    exact h
  · rename_i k n l t
    refine ⟨fun hb => ?_, fun _ => trivial⟩
    obtain ⟨h1, h2, h3, h4, h5⟩ := of_decide_eq_true hb
    have h := meets_fitV (l := l) (t := t) (ten_meets (numL (l.take k)) n (by omega) (by omega)) (j := 0) rfl (by rw [← h1, List.length_take, ← List.take_take, List.take_length])
    rw [← h2] at h
    exact h
  · trivial
theorem ltO_ok (mx : Bool) (N K m : Nat) (p q x : Int) : EntOK Tryz.prog 83 (eLtO (rdf mx N K m p q x)) := fun args pre => by
  unfold eLtO; split
  · rename_i k k1 f l f1 l1
    refine ⟨fun hb => ?_, fun _ => trivial⟩
    obtain ⟨h1, h2, h3, h4, h5, h6⟩ := of_decide_eq_true hb
    have h := less_meets (numL l) (numL l1) (by omega) (by omega)
    have h := meets_fitF (m' := f) (l := l) h (j := 0) rfl (by rw [← h1, List.take_length])
    have h := meets_fitF (m' := f1) (l := l1) h (j := 1) rfl (by rw [← h3, List.take_length])
    rw [← h2, ← h4] at h
    exact h
  · trivial
end Go.Proofs.YtdomenmfkbfakaaGreatDoor.Ty

/- The document's Read of decimals: what comes of it. -/
set_option linter.unusedVariables false
set_option linter.unusedSimpArgs false
set_option linter.unusedSectionVars false
set_option maxRecDepth 20000
namespace Go.Proofs.YtdomenmfkbfakaaGreatDoor.Ty
open Go Sx Rf Dc Rr Dq

def frI (s : List UInt8) : Nat := if minusB s = true then 1 else 0
theorem body_eq (s : List UInt8) : bodyS s = s.drop (frI s) := by
  unfold bodyS frI; split <;> simp
theorem fr_le (s : List UInt8) : frI s ≤ s.length := by
  unfold frI; split
  · rename_i h
    cases s with
    | nil => simp [minusB] at h
    | cons a s => simp
  · omega
theorem eR1 (s : List UInt8) : runsC (noH (R := Ex × PState)) Tryz.prog {} 0 64 18446744073709551616 (endK 0 64 kR1 kR1) 4 (bodyOf Tryz.f52) (startP 118 [.str s] [] 64) = some (.normal, sR1 s (minusB s) (frI s : Int)) := by
  rw [partR1]
  cases s with
  | nil => rfl
  | cons a s =>
    have hb : (byteAt (a :: s) (0 : Int).toNat == 45) = minusB (a :: s) := by
      unfold byteAt minusB
      simp only [Int.toNat_zero, List.getD_cons_zero, List.head?_cons, Option.some.injEq]
      rw [Bool.eq_iff_iff, beq_iff_eq, decide_eq_true_eq]
      constructor
      · intro h; exact UInt8.toNat.inj (by have : (45 : UInt8).toNat = 45 := rfl; omega)
      · intro h; rw [h]; rfl
    rw [bcT (b := decide _) (decide_eq_true (by rw [List.length_cons]; omega)), bcT (b := inS _ _) (decide_eq_true (by simp)), hb]
    unfold frI
    cases minusB (a :: s) <;> rfl
theorem pt_at (b : List UInt8) (n : Nat) : ptB (b.drop n) = true ↔ n < b.length ∧ b.getD n 0 = 46 := by
  unfold ptB
  rw [beq_iff_eq, List.head?_drop]
  constructor
  · intro h
    obtain ⟨h1, h2⟩ := List.getElem?_eq_some_iff.1 h
    exact ⟨h1, by rw [List.getD, h]; rfl⟩
  · rintro ⟨h1, h2⟩
    rw [List.getD, List.getElem?_eq_getElem h1] at h2
    rw [List.getElem?_eq_getElem h1]
    simpa using h2
theorem eR2 {s : List UInt8} (hs : s.length ≤ 1000) : runsC (ent (R := Ex × PState) Tryz.prog [(100, eFig)] nolv 64 18446744073709551616 30) Tryz.prog {} 0 64 18446744073709551616 (endK 0 64 kR2 kRx) 5 (restC 4 (bodyOf Tryz.f52)) (sR1 s (minusB s) (frI s : Int)) =
    if refOK (bodyS s) = true then some (.normal, sR2 s (minusB s) (frI s : Int) (s.length : Int) (frcN (bodyS s) : Int)) else ret12 := by
  rw [partR2, body_eq]
  have hf := fr_le s
  generalize frI s = fr at *
  generalize minusB s = mx
  have hl : (s.drop fr).length = s.length - fr := List.length_drop
  have hn := figN_le (s.drop fr)
  have e0 : fgI s (fr : Int) = (figN (s.drop fr) : Int) := by unfold fgI; rw [Int.toNat_natCast]
  have w0 : wr ((fr : Int) + (figN (s.drop fr) : Int)) = ((fr + figN (s.drop fr) : Nat) : Int) := by unfold wr; rw [i64_in (by omega) (by omega)]; push_cast; rfl
  rw [bcT (b := figC _ _) (decide_eq_true (by omega)), e0, w0]
  generalize hN : figN (s.drop fr) = n at *
  have gd : s.getD (fr + n) 0 = (s.drop fr).getD n 0 := by simp only [List.getD, List.getElem?_drop]
  have key : ∀ (m : Nat) (t : Nat), m ≤ 1000 → lastQ s mx (fr : Int) (n : Int) (t : Int) (m : Int) = if 1 ≤ n ∧ n ≤ 40 ∧ m ≤ 40 ∧ t = s.length then some (.normal, sR2 s mx (fr : Int) (s.length : Int) (m : Int)) else ret12 := fun m t hm => by
    unfold lastQ
    by_cases c1 : n < 1
    · rw [bcT (b := decide _) (decide_eq_true (by omega)), if_neg (by omega)]
    · rw [bcF (b := decide _) (decide_eq_false (by omega))]
      by_cases c2 : n > 40
      · rw [bcT (b := decide _) (decide_eq_true (by omega)), if_neg (by omega)]
      · rw [bcF (b := decide _) (decide_eq_false (by omega))]
        by_cases c3 : m > 40
        · rw [bcT (b := decide _) (decide_eq_true (by omega)), if_neg (by omega)]
        · rw [bcF (b := decide _) (decide_eq_false (by omega))]
          by_cases c4 : t = s.length
          · rw [bcF (b := _ != _) (by rw [c4]; simp), if_pos (by omega), c4]
          · rw [bcT (b := _ != _) (bne_iff_ne.2 (by omega)), if_neg (by omega)]
  unfold restQ
  by_cases cp : ptB ((s.drop fr).drop n) = true
  · obtain ⟨p1, p2⟩ := (pt_at _ _).1 cp
    have w1 : wr (((fr + n : Nat) : Int) + 1) = ((fr + n + 1 : Nat) : Int) := by unfold wr; rw [i64_in (by omega) (by omega)]; push_cast; rfl
    have e1 : fgI s ((fr + n + 1 : Nat) : Int) = (frcN (s.drop fr) : Int) := by
      unfold fgI frcN
      rw [Int.toNat_natCast, hN, cp, List.drop_drop]
      rfl
    have hm : frcN (s.drop fr) ≤ 1000 := by
      unfold frcN
      rw [hN, cp]
      show figN _ ≤ 1000
      have := figN_le ((s.drop fr).drop (n + 1))
      rw [List.length_drop] at this; omega
    have w2 : wr (((fr + n + 1 : Nat) : Int) + (frcN (s.drop fr) : Int)) = ((fr + n + 1 + frcN (s.drop fr) : Nat) : Int) := by unfold wr; rw [i64_in (by omega) (by omega)]; push_cast; rfl
    have hb : (byteAt s ((fr + n : Nat) : Int).toNat == 46) = true := by
      unfold byteAt; rw [Int.toNat_natCast, gd, p2]; rfl
    rw [bcT (b := decide _) (decide_eq_true (by omega)), bcT (b := inS _ _) (decide_eq_true (by omega)), bcT hb]
    unfold pntQ
    rw [w1, bcT (b := figC _ _) (decide_eq_true (by omega)), e1, w2, key _ _ hm]
    have hE : endN (s.drop fr) = n + (1 + frcN (s.drop fr)) := by unfold endN; rw [hN, cp]; rfl
    unfold refOK
    rw [hN, cp, hE, Bool.true_and]
    by_cases c0 : frcN (s.drop fr) = 0
    · rw [bcT (b := _ == _) (by rw [c0]; rfl), decide_eq_true c0, if_neg (by simp)]
    · rw [bcF (b := _ == _) (beq_eq_false_iff_ne.2 (by omega)), decide_eq_false c0]
      simp only [Bool.not_false, Bool.true_and, decide_eq_true_eq]
      by_cases cc : 1 ≤ n ∧ n ≤ 40 ∧ frcN (s.drop fr) ≤ 40 ∧ fr + n + 1 + frcN (s.drop fr) = s.length
      · rw [if_pos cc, if_pos (by omega)]
      · rw [if_neg cc, if_neg (by omega)]
  · have cp' : ptB ((s.drop fr).drop n) = false := by simpa using cp
    have hm : frcN (s.drop fr) = 0 := by unfold frcN; rw [hN, cp']; rfl
    have hE : endN (s.drop fr) = n := by unfold endN; rw [hN, cp']; rfl
    have fin : lastQ s mx (fr : Int) (n : Int) ((fr + n : Nat) : Int) 0 = if refOK (s.drop fr) = true then some (.normal, sR2 s mx (fr : Int) (s.length : Int) (frcN (s.drop fr) : Int)) else ret12 := by
      have := key 0 (fr + n) (by omega)
      rw [show ((0 : Nat) : Int) = 0 from rfl] at this
      rw [this, hm]
      unfold refOK
      rw [hN, cp', hE, hm]
      simp only [Bool.false_and, Bool.not_false, Bool.true_and, decide_eq_true_eq]
      by_cases cc : 1 ≤ n ∧ n ≤ 40 ∧ 0 ≤ 40 ∧ fr + n = s.length
      · rw [if_pos cc, if_pos (by omega)]; rfl
      · rw [if_neg cc, if_neg (by omega)]
    by_cases ct : fr + n < s.length
    · have hne : ¬ (s.drop fr).getD n 0 = 46 := fun e => cp ((pt_at _ _).2 ⟨by omega, e⟩)
      have hb : (byteAt s ((fr + n : Nat) : Int).toNat == 46) = false := by
        unfold byteAt; rw [Int.toNat_natCast, gd]
        refine beq_eq_false_iff_ne.2 fun e => hne (UInt8.toNat.inj ?_)
        have : (46 : UInt8).toNat = 46 := rfl
        omega
      rw [bcT (b := decide _) (decide_eq_true (by omega)), bcT (b := inS _ _) (decide_eq_true (by omega)), bcF hb]
      exact fin
    · rw [bcF (b := decide _) (decide_eq_false (by omega))]
      exact fin
theorem okTE_of {l : List Int} {k : Nat} {n : Int} (X : Nat) (h1 : l.take k = dg X) (h2 : k = nd X) (h3 : k ≤ 1000) (h4 : -1000 ≤ n ∧ n ≤ 1000) : decide (l.take k = dg (numL (l.take k)) ∧ k = nd (numL (l.take k)) ∧ k ≤ 1000 ∧ -1000 ≤ n ∧ n ≤ 1000) = true := by
  rw [decide_eq_true_eq, h1, numL_dg]; exact ⟨rfl, h2, h3, h4⟩
theorem okLT_of (A B : Nat) (h1 : nd A ≤ 10000) (h2 : nd B ≤ 10000) : decide (dg A = dg (numL (dg A)) ∧ nd A = nd (numL (dg A)) ∧ dg B = dg (numL (dg B)) ∧ nd B = nd (numL (dg B)) ∧ nd A ≤ 10000 ∧ nd B ≤ 10000) = true := by
  rw [decide_eq_true_eq, numL_dg, numL_dg]; exact ⟨rfl, rfl, rfl, rfl, h1, h2⟩
theorem rread_core (s : List UInt8) (hs : s.length ≤ 1000) (hr : refOK (bodyS s) = true) (p q x : Int) (hp : -1000000000000000 < p ∧ p < 1000000000000000) (hq : -9 ≤ q ∧ q ≤ 9)
    (hnr : Meets Tryz.prog 81 [.bool (minusB s), .dsl 0 (nd (rdN (bodyS s))), .dsl 1 (nd (1 * 10 ^ frcN (bodyS s)))] [FL (rdN (bodyS s)), FL (1 * 10 ^ frcN (bodyS s))] (.tuple [.agg [.int .i64 p, .int .i64 q], .int .i64 x]) [FL (rdN (bodyS s)), FL (1 * 10 ^ frcN (bodyS s))]) :
    Meets Tryz.prog 52 [.str s] [] (if x = 0 then (if p.natAbs * 10 ^ (q + 9).toNat * 10 ^ frcN (bodyS s) = rdN (bodyS s) * 10 ^ 9 then .tuple [.agg [.int .i64 p, .int .i64 q], .int .i64 0] else .tuple [.agg [.int .i64 0, .int .i64 0], .int .i64 10]) else .tuple [.agg [.int .i64 0, .int .i64 0], .int .i64 x]) [] := by
  obtain ⟨r1, r2, r3, r4, r5, r6, r7⟩ := rd_spec hr
  have hbody : Tryz.f52.body = some (bodyOf Tryz.f52) := by kernel_rfl
  have nl : ∀ c : Code, LoopsOK Tryz.prog {} ([] : List PObj).length c := fun c x hx id e h1 h2 => by cases h2
  have e1 := eR1 s
  have e2 := eR2 hs
  rw [if_pos hr] at e2
  have hf := fr_le s
  have hbl : (bodyS s).length = s.length - frI s := by rw [body_eq, List.length_drop]
  have hpos : 1 ≤ s.length := by
    obtain ⟨_, b', d, hl, _⟩ := text_bytes hr
    have := congrArg List.length hl
    rw [hbl, List.length_append, List.length_singleton] at this; omega
  have hw : wr ((s.length : Int) - 1) = (s.length : Int) - 1 := by unfold wr; exact i64_in (by omega) (by omega)
  have hL := loopR (s := s) (fr := frI s) (minusB s) (frcN (bodyS s) : Int) hf hs (by rw [← body_eq]; exact hr)
  rw [← body_eq] at hL
  generalize hK : (flS (bodyS s)).length = K at *
  have hdN : dR (bodyS s) 0 = dN K (rdN (bodyS s)) := by
    unfold dR
    rw [List.drop_zero, rev_dN K _ (by rw [bytesD_length, hK]) r6]; rfl
  rw [hdN] at hL
  have hNK : nd (rdN (bodyS s)) ≤ K := nd_le (by
    have := (val_bounds _ r6).2
    rw [bytesD_length, hK, ← r1] at this
    refine Int.ofNat_lt.1 ?_
    rw [Int.natCast_pow]; exact this)
  generalize hNN : rdN (bodyS s) = N at *
  generalize hmm : frcN (bodyS s) = m at *
  have hT : TabOK Tryz.prog (tabO (rdf (minusB s) N K m p q x)) :=
    .cons (trO_ok _ _ _ _ _ _ _ (by omega) hNK) (.cons (unO_ok _ _ _ _ _ _ _ (by omega)) (.cons (neO_ok _ _ _ _ _ _ _ hNK hnr) (.cons (whO_ok _ _ _ _ _ _ _ hp hq) (.cons (teO_ok _ _ _ _ _ _ _) (.cons (ltO_ok _ _ _ _ _ _ _) .nil)))))
  have hX := Nat.le_refl 0
  have n1 : nd (p.natAbs * 10 ^ (q + 9).toNat) ≤ 60 := by
    have := nd_pow (x := p.natAbs) (k := (q + 9).toNat)
    have h20 := nd_small (n := p.natAbs) (by omega)
    omega
  have n2 : nd (p.natAbs * 10 ^ (q + 9).toNat * 10 ^ m) ≤ 110 := by
    have := nd_pow (x := p.natAbs * 10 ^ (q + 9).toNat) (k := m)
    omega
  have n3 : nd (N * 10 ^ 9) ≤ 100 := by
    have := nd_pow (x := N) (k := 9)
    omega
  have tk : List.take (nd N) (dN K N) = dg N := dN_take hNK
  have tX : ∀ X : Nat, List.take (nd X) (dg X) = dg X := fun X => by
    have := dg_length (n := X)
    exact List.take_of_length_le (by omega)
  have rest : ∀ r : AV × List PObj, tailO (rdf (minusB s) N K m p q x) (dN K N) (nd N) (m : Int) (p, q, x) = some r → ∃ res post, Meets Tryz.prog 52 [.str s] [] res (post.map PObj.toA) ∧ pure2 res post = some r := fun r hr5 => by
    refine goes_meets (R := AV × List PObj) (NF := 64) (args := [.str s]) (pre := []) (k := pure2) (r := r) host Tryz.func52 hbody
      (goes_cut (pre := []) noH_ok (nl _) e1 (goes_runs (pre := []) (ent_sound (.cons fig_ok .nil) host nolv_ok 30) (nl _) e2 (restC_add 4 5 _)
        (goes_runs (pre := []) noH_ok (nl _) (partR3 _ _ _ _ _) ((restC_add 9 1 _).trans shapeR)
          (goes_tri (pre := []) (tri_seq (code_tri noH_ok (nl _) (partR4 _ _ _ _ _)) (tri_block (by rw [hw]; exact hL)))
            (goes_code (pre := []) (NF := 64) (m := 18446744073709551616) (ent_sound (NF := 64) (m := 18446744073709551616) hT host nolv_ok 30) (nl _) ?_)))))
    refine (partR5 _ _ _ _ _).trans ?_
    have o1 : (rdf (minusB s) N K m p q x).okTR (dN K N) K = true := decide_eq_true ⟨rfl, rfl⟩
    have o2 : (rdf (minusB s) N K m p q x).okUN (m : Int) = true := decide_eq_true rfl
    have o3 : (rdf (minusB s) N K m p q x).okNE (minusB s) (dN K N) ((rdf (minusB s) N K m p q x).TR (dN K N) K) ((rdf (minusB s) N K m p q x).UN (m : Int)) ((rdf (minusB s) N K m p q x).kUN (m : Int)) = true := decide_eq_true ⟨rfl, rfl, rfl, rfl, rfl⟩
    unfold ckO
    rw [bcT o1, bcT o2, bcT o3]
    exact hr5
  have tail : x = 0 → tailO (rdf (minusB s) N K m p q x) (dN K N) (nd N) (m : Int) (p, q, x) = if p.natAbs * 10 ^ (q + 9).toNat * 10 ^ m = N * 10 ^ 9 then outR p q 0 else outR 0 0 10 := fun h0 => by
    unfold tailO ckO endO ckO
    have o1 : (rdf (minusB s) N K m p q x).okWH p q = true := decide_eq_true ⟨rfl, rfl⟩
    have o2 : (rdf (minusB s) N K m p q x).okTE ((rdf (minusB s) N K m p q x).WH p q) ((rdf (minusB s) N K m p q x).kWH p q) (m : Int) = true := okTE_of (p.natAbs * 10 ^ (q + 9).toNat) (tX _) rfl (Nat.le_trans n1 (by decide)) (by omega)
    have o3 : (rdf (minusB s) N K m p q x).okTE (dN K N) (nd N) 9 = true := okTE_of N tk rfl (by omega) (by omega)
    have a1 : (rdf (minusB s) N K m p q x).TE ((rdf (minusB s) N K m p q x).WH p q) ((rdf (minusB s) N K m p q x).kWH p q) (m : Int) = dg (p.natAbs * 10 ^ (q + 9).toNat * 10 ^ m) ∧ (rdf (minusB s) N K m p q x).kTE ((rdf (minusB s) N K m p q x).WH p q) ((rdf (minusB s) N K m p q x).kWH p q) (m : Int) = nd (p.natAbs * 10 ^ (q + 9).toNat * 10 ^ m) := by
      show dg (numL (List.take (nd (p.natAbs * 10 ^ (q + 9).toNat)) (dg (p.natAbs * 10 ^ (q + 9).toNat))) * 10 ^ (m : Int).toNat) = _ ∧ nd (numL (List.take (nd (p.natAbs * 10 ^ (q + 9).toNat)) (dg (p.natAbs * 10 ^ (q + 9).toNat))) * 10 ^ (m : Int).toNat) = _
      rw [tX, numL_dg, Int.toNat_natCast]; exact ⟨rfl, rfl⟩
    have b1 : (rdf (minusB s) N K m p q x).TE (dN K N) (nd N) 9 = dg (N * 10 ^ 9) ∧ (rdf (minusB s) N K m p q x).kTE (dN K N) (nd N) 9 = nd (N * 10 ^ 9) := by
      show dg (numL (List.take (nd N) (dN K N)) * 10 ^ (9 : Int).toNat) = _ ∧ nd (numL (List.take (nd N) (dN K N)) * 10 ^ (9 : Int).toNat) = _
      rw [tk, numL_dg]; exact ⟨rfl, rfl⟩
    have lt : ∀ A B : Nat, nd A ≤ 10000 → nd B ≤ 10000 → (rdf (minusB s) N K m p q x).okLT (dg A) (nd A) (dg B) (nd B) = true ∧ (rdf (minusB s) N K m p q x).LT (dg A) (nd A) (dg B) (nd B) = decide (A < B) := fun A B h1 h2 => by
      refine ⟨okLT_of A B h1 h2, ?_⟩
      show decide (numL (dg A) < numL (dg B)) = _
      rw [numL_dg, numL_dg]
    simp only
    rw [bcF (b := x != 0) (by rw [h0]; rfl), bcT o1, bcT o2, bcT o3, a1.1, a1.2, b1.1, b1.2]
    generalize p.natAbs * 10 ^ (q + 9).toNat * 10 ^ m = A at *
    generalize N * 10 ^ 9 = B at *
    obtain ⟨l1, l2⟩ := lt A B (by omega) (by omega)
    obtain ⟨l3, l4⟩ := lt B A (by omega) (by omega)
    rw [bcT l1, l2]
    by_cases c1 : A < B
    · rw [bcT (decide_eq_true c1), if_neg (by omega)]
    · rw [bcF (decide_eq_false c1), bcT l3, l4]
      by_cases c2 : B < A
      · rw [bcT (decide_eq_true c2), if_neg (by omega)]
      · rw [bcF (decide_eq_false c2), if_pos (by omega)]
  by_cases h0 : x = 0
  · rw [if_pos h0]
    by_cases hc : p.natAbs * 10 ^ (q + 9).toNat * 10 ^ m = N * 10 ^ 9
    · rw [if_pos hc]
      obtain ⟨res, post, k1, k2⟩ := rest (.tuple [.agg [.int .i64 p, .int .i64 q], .int .i64 0], []) (by rw [tail h0, if_pos hc]; rfl)
      cases k2; exact k1
    · rw [if_neg hc]
      obtain ⟨res, post, k1, k2⟩ := rest (.tuple [.agg [.int .i64 0, .int .i64 0], .int .i64 10], []) (by rw [tail h0, if_neg hc]; rfl)
      cases k2; exact k1
  · rw [if_neg h0]
    obtain ⟨res, post, k1, k2⟩ := rest (.tuple [.agg [.int .i64 0, .int .i64 0], .int .i64 x], []) (by unfold tailO; simp only; rw [bcT (b := x != 0) (bne_iff_ne.2 h0)]; rfl)
    cases k2; exact k1
theorem nearX_or (N M : Nat) : nearX N M = 0 ∨ nearX N M = 10 := by
  unfold nearX
  cases nearG N M 19 0 with
  | none => exact .inr rfl
  | some p => exact .inl rfl
theorem rread_bad (s : List UInt8) (hs : s.length ≤ 1000) (hr : ¬ refOK (bodyS s) = true) : Meets Tryz.prog 52 [.str s] [] (.tuple [.agg [.int .i64 0, .int .i64 0], .int .i64 12]) [] := by
  have hbody : Tryz.f52.body = some (bodyOf Tryz.f52) := by kernel_rfl
  have nl : ∀ c : Code, LoopsOK Tryz.prog {} ([] : List PObj).length c := fun c x hx id e h1 h2 => by cases h2
  have e2 := eR2 hs
  rw [if_neg hr] at e2
  obtain ⟨res, post, k1, k2⟩ := goes_meets (R := AV × List PObj) (NF := 64) (args := [.str s]) (pre := []) (k := pure2) (r := (.tuple [.agg [.int .i64 0, .int .i64 0], .int .i64 12], [])) host Tryz.func52 hbody
    (goes_cut (pre := []) noH_ok (nl _) (eR1 s) (goes_ret (pre := []) (ent_sound (.cons fig_ok .nil) host nolv_ok 30) (nl _) e2 partR12))
  cases k2; exact k1
end Go.Proofs.YtdomenmfkbfakaaGreatDoor.Ty

/- The document's Read of decimals, of any text. -/
set_option linter.unusedVariables false
set_option linter.unusedSimpArgs false
set_option linter.unusedSectionVars false
set_option maxRecDepth 20000
namespace Go.Proofs.YtdomenmfkbfakaaGreatDoor.Ty
open Go Sx Rf Dc Rr Dq

theorem rread_val (s : List UInt8) (hr : refOK (bodyS s) = true) (p q x : Int) (h : nearM (minusB s) (digs 88 (wrS s)) = (p, q)) (hx : nearX (rdN (bodyS s)) (1 * 10 ^ frcN (bodyS s)) = x) (ho : x = 0 ∨ x = 10)
    (hd : nearD (minusB s) (rdN (bodyS s)) (1 * 10 ^ frcN (bodyS s)) = (p, q)) :
    (if x = 0 then (if p.natAbs * 10 ^ (q + 9).toNat * 10 ^ frcN (bodyS s) = rdN (bodyS s) * 10 ^ 9 then R3 (p, q, 0) else R3 (0, 0, 10)) else R3 (0, 0, x)) = R3 (readR s) := by
  rw [← rdRef_eq]
  unfold rdRef
  rw [if_pos hr, hd, hx]
  rcases ho with e | e
  · rw [if_pos e]
    by_cases c : p.natAbs * 10 ^ (q + 9).toNat * 10 ^ frcN (bodyS s) = rdN (bodyS s) * 10 ^ 9
    · rw [if_pos c, if_pos ⟨e, c⟩]
    · rw [if_neg c, if_neg (fun h => c h.2)]; try rfl
  · subst e
    rw [if_neg (by decide), if_neg (fun h => absurd h.1 (by decide))]; try rfl
theorem rread_at (s : List UInt8) (hs : s.length ≤ 1000) (hr : refOK (bodyS s) = true) (N M : Nat) (hN : rdN (bodyS s) = N) (hM : 1 * 10 ^ frcN (bodyS s) = M) (t : Int × Int) (x : Int) (h : nearM (minusB s) (digs 88 (wrS s)) = t) (hd : nearD (minusB s) N M = t) (hx : nearX N M = x)
    (hnr : Meets Tryz.prog 81 [.bool (minusB s), .dsl 0 (nd N), .dsl 1 (nd M)] [FL N, FL M] (.tuple [.agg [.int .i64 t.1, .int .i64 t.2], .int .i64 x]) [FL N, FL M]) :
    Meets Tryz.prog 52 [.str s] [] (R3 (readR s)) [] := by
  have ho : x = 0 ∨ x = 10 := by rw [← hx]; exact nearX_or N M
  obtain ⟨p, q⟩ := t
  subst hN hM
  have hb := nearM_bounds (digs_dig 88 (wrS s)) (minusB s)
  rw [h] at hb
  have := rread_core s hs hr p q x hb.1 hb.2 hnr
  rw [← rread_val s hr p q x h hx ho hd]
  exact this
theorem tup_meets {f : FuncId} {args : List AV} {pre post : List AObj} (t : Int × Int) (x : Int) (h : Meets Tryz.prog f args pre (R3 (t.1, t.2, x)) post) : Meets Tryz.prog f args pre (.tuple [.agg [.int .i64 t.1, .int .i64 t.2], .int .i64 x]) post := h
theorem rnear_meets (b : Bool) (N M : Nat) (hN : nd N < 100000) (hM : nd M < 100000) (h0 : 0 < M) : Meets Tryz.prog 81 [.bool b, .dsl 0 (nd N), .dsl 1 (nd M)] [FL N, FL M] (.tuple [.agg [.int .i64 (nearD b N M).1, .int .i64 (nearD b N M).2], .int .i64 (nearX N M)]) [FL N, FL M] := by
  have h : Meets Tryz.prog 81 [.bool b, .dsl 0 (nd N), .dsl 1 (nd M)] [FL N, FL M] (R3 ((nearD b N M).1, (nearD b N M).2, nearX N M)) [FL N, FL M] := by
    unfold nearD nearX
    exact near_core b N M hN hM h0 _ rfl
  exact tup_meets (nearD b N M) (nearX N M) h
theorem rread_any (s : List UInt8) (hs : s.length ≤ 1000) : Meets Tryz.prog 52 [.str s] [] (R3 (readR s)) [] := by
  by_cases hr : refOK (bodyS s) = true
  · have hw : Dq.okW s = true := by rw [refOK_eq] at hr; exact hr
    obtain ⟨g1, g2, _, _⟩ := near_read hw (minusB s)
    obtain ⟨r1, r2, r3, r4, r5, r6, r7⟩ := rd_spec hr
    have n1 : nd (rdN (bodyS s)) < 100000 := Nat.lt_of_le_of_lt (nd_le r3) (by decide)
    have n2 : nd (1 * 10 ^ frcN (bodyS s)) < 100000 := by
      have := nd_pow (x := 1) (k := frcN (bodyS s))
      have h1 : nd 1 = 1 := nd_one
      omega
    have hp : 0 < 1 * 10 ^ frcN (bodyS s) := by rw [Nat.one_mul]; exact Nat.pow_pos (by decide)
    exact rread_at s hs hr _ _ rfl rfl _ _ g1 rfl rfl (rnear_meets (minusB s) (rdN (bodyS s)) (1 * 10 ^ frcN (bodyS s)) n1 n2 hp)
  · have h := rread_bad s hs hr
    have e : readR s = (0, 0, 12) := by
      rw [← rdRef_eq]; unfold rdRef; rw [if_neg hr]
    rw [e]; exact h
end Go.Proofs.YtdomenmfkbfakaaGreatDoor.Ty

/- Layer 3, the document: what is put in (Read). -/
set_option linter.unusedVariables false
set_option linter.unusedSimpArgs false
set_option linter.unusedSectionVars false
namespace Go.Proofs.YtdomenmfkbfakaaGreatDoor
open Go Sx
def eRdK (rd : List UInt8 → Int × Int × Int) : Ent := fun args pre => match args, pre with
  | [.str s], [] => .chk (decide (s.length ≤ 1000)) (.ret (R3 (rd s)) [])
  | _, _ => .fail
theorem eRdK_ok : EntOK Tryz.prog 52 (eRdK Dq.readR) := fun args pre => by
  unfold eRdK
  split
  · exact ⟨fun g => Ty.rread_any _ (of_decide_eq_true g), fun _ => trivial⟩
  · trivial
section
variable (rd : List UInt8 → Int × Int × Int) (sm : List UInt8 → List UInt8) (tx : List UInt8 → Bool) (s : List UInt8)
def tRr : Tab := [(52, eRdK rd), (53, eSmF sm), (56, eIsT tx)]
def fst0 : Bool := decide ((0 : Int) ≤ 0 ∧ (0 : Int).toNat < s.length)
def rrE : Ans := .chk (fst0 s) (.br (byteAt s (0 : Int).toNat == 39) (.chk (decide ((0 : Int) ≤ 1 ∧ (1 : Int).toNat ≤ s.length)) (endR tx (List.take (s.length - (1 : Int).toNat) (List.drop (1 : Int).toNat s)))) (endR tx s))
def rrT : Ans := .br ((s.length : Int) == 0) (R2 zP 0) (.chk (fst0 s) (.br (byteAt s (0 : Int).toNat == 61) (R2 zP 30) (.chk (decide (s.length ≤ 1000)) (.br ((rd s).2.2 == 0) (R2 (nmR (rd s).1 (rd s).2.1) 0) (.chk (decide (s.length < 1000000))
  (.br (sm s == sTrue) (R2 (trR (sm s == sTrue)) 0) (.br (sm s == sFalse) (R2 (trR (sm s == sTrue)) 0) (flT sm (sm s) fltS.tail 1 (rrE tx s)))))))))
theorem rr_comes : Comes (tRr rd sm tx) nolv 18 [.str s] [] (rrT rd sm tx s) := by unfold Comes; kernel_rfl
end
/-- A reading of texts that are not long. -/
def eRdW (rv : List UInt8 → List CV × Int) : Ent := fun args pre => match args, pre with
  | [.str s], [] => .chk (decide (s.length ≤ 1000)) (.ret (.tuple [vR (rv s).1, .int .i64 (rv s).2]) [])
  | _, _ => .fail
theorem endR_run {t : List UInt8} (h : t.length ≤ 1000000) : (endR isTx t).run pure2 = pure2 (.tuple [vR (bcond (isTx t) (txR t, (0 : Int)) (zP, 30)).1, .int .i64 (bcond (isTx t) (txR t, (0 : Int)) (zP, 30)).2]) [] := by
  unfold endR
  rw [chkT (decide_eq_true h)]
  cases isTx t <;> rfl
theorem rrT_run {s : List UInt8} (hs : s.length ≤ 1000) : (rrT Dq.readR smallL isTx s).run pure2 = pure2 (.tuple [vR (rdV s).1, .int .i64 (rdV s).2]) [] := by
  cases s with
  | nil => rfl
  | cons c t =>
    have h0 : fst0 (c :: t) = true := decide_eq_true ⟨Int.le_refl _, by show 0 < (c :: t).length; simp⟩
    have hb : ∀ n : Nat, ∀ d : UInt8, d.toNat = n → (byteAt (c :: t) (0 : Int).toNat == (n : Int)) = (c == d) := fun n d hd => by
      show (((c.toNat : Nat) : Int) == (n : Int)) = _
      cases h : c == d with
      | true => rw [beq_iff_eq.1 h, hd]; exact beq_self_eq_true _
      | false =>
        rw [beq_eq_false_iff_ne] at h ⊢
        intro e
        exact h (UInt8.toNat_inj.1 (by omega))
    have hb1 := hb 61 61 rfl
    have hb2 := hb 39 39 rfl
    unfold rrT rdV
    rw [brF (show ((((c :: t).length : Nat) : Int) == 0) = false from beq_eq_false_iff_ne.2 (by rw [List.length_cons]; omega)), chkT h0]
    rw [show (byteAt (c :: t) (0 : Int).toNat == 61) = (c == 61) from hb1, pre1]
    cases c == 61 with
    | true => rfl
    | false =>
      rw [brF rfl, chkT (decide_eq_true hs)]
      cases (Dq.readR (c :: t)).2.2 == 0 with
      | true => rfl
      | false =>
        rw [brF rfl, chkT (decide_eq_true (by omega))]
        cases smallL (c :: t) == sTrue with
        | true => rfl
        | false => cases smallL (c :: t) == sFalse with
          | true => rfl
          | false =>
            have e : fErr (smallL (c :: t)) = fGo (smallL (c :: t)) fltS.tail 1 := by
              show bcond (smallL (c :: t) == smallL []) 0 (fGo (smallL (c :: t)) fltS.tail 1) = _
              rw [show (smallL (c :: t) == smallL []) = false from rfl]; rfl
            rw [brF rfl, brF rfl, flT_run, ← e]
            show (bcond (fErr (smallL (c :: t)) == 10) (rrE isTx (c :: t)) (R2 (errR (fErr (smallL (c :: t)))) 0) : Ans).run pure2 = _
            cases fErr (smallL (c :: t)) == 10 with
            | false => rfl
            | true =>
              show (rrE isTx (c :: t)).run pure2 = pure2 (.tuple [vR (bcond (isTx (trimQ (c :: t))) (txR (trimQ (c :: t)), (0 : Int)) (zP, 30)).1, .int .i64 (bcond (isTx (trimQ (c :: t))) (txR (trimQ (c :: t)), (0 : Int)) (zP, 30)).2]) []
              unfold rrE trimQ
              rw [chkT h0, show (byteAt (c :: t) (0 : Int).toNat == 39) = (c == 39) from hb2, pre1]
              cases c == 39 with
              | true =>
                rw [brT rfl, chkT (decide_eq_true ⟨by decide, by show 1 ≤ (c :: t).length; simp⟩)]
                show (endR isTx (List.take ((c :: t).length - 1) t)).run pure2 = _
                rw [show List.take ((c :: t).length - 1) t = t from List.take_of_length_le (by simp)]
                exact endR_run (by rw [List.length_cons] at hs; omega)
              | false => exact endR_run (by omega)
theorem eRr_ok : EntOK Tryz.prog 18 (eRdW rdV) := fun args pre => by
  unfold eRdW
  split
  · rename_i s
    exact ⟨fun g => meets_ent (pre := []) (post := []) (.cons eRdK_ok (.cons eFo_ok (.cons eTx3_ok .nil))) host ((rr_comes Dq.readR smallL isTx s).trans (rrT_run (of_decide_eq_true g))) nolv_ok, fun _ => trivial⟩
  · trivial
end Go.Proofs.YtdomenmfkbfakaaGreatDoor

/- Layer 3, the document: which values are right. -/
set_option linter.unusedVariables false
set_option linter.unusedSimpArgs false
set_option linter.unusedSectionVars false
namespace Go.Proofs.YtdomenmfkbfakaaGreatDoor
open Go Sx
/-- False, where one of these holds. -/
def nzT (pre : List PObj) : List Bool → Ans → Ans
  | [], X => X
  | c :: cs, X => .br c (.ret (.bool false) pre) (nzT pre cs X)
def fzT (pre : List PObj) (f : Int) : Ans := .br (f == 0) (.ret (.bool true) pre) (.ret (.bool false) pre)
section
variable (m e : Int) (s : List UInt8) (b : Bool) (r h w f : Int) (a : Nat) (R : List (List CV))
theorem ba_0 : Comes [] nolv 90 [vL 0 m e s b r h w .nilslice f, .int .i64 0] [] (nzT [] [m != 0, e != 0, !(s == []), b, r != 0, h != 0, w != 0] (fzT [] f)) := by unfold Comes; kernel_rfl
theorem ba_1 : Comes [] nolv 90 [vL 1 m e s b r h w .nilslice f, .int .i64 1] [] (nzT [] [!(s == []), b, r != 0, h != 0, w != 0] (fzT [] f)) := by unfold Comes; kernel_rfl
theorem ba_2 : Comes [] nolv 90 [vL 2 m e s b r h w .nilslice f, .int .i64 2] [] (nzT [] [m != 0, e != 0, b, r != 0, h != 0, w != 0] (fzT [] f)) := by unfold Comes; kernel_rfl
theorem ba_3 : Comes [] nolv 90 [vL 3 m e s b r h w .nilslice f, .int .i64 3] [] (nzT [] [m != 0, e != 0, !(s == []), r != 0, h != 0, w != 0] (fzT [] f)) := by unfold Comes; kernel_rfl
theorem ba_4 : Comes [] nolv 90 [vL 4 m e s b r h w .nilslice f, .int .i64 4] [] (nzT [] [m != 0, e != 0, !(s == []), b, h != 0, w != 0] (fzT [] f)) := by unfold Comes; kernel_rfl
theorem ba_5 : Comes [] nolv 90 [vL 5 m e s b r h w (.dsl 0 a) f, .int .i64 5] [fR R] (nzT [fR R] [m != 0, e != 0, !(s == []), b, r != 0] (fzT [fR R] f)) := by unfold Comes; kernel_rfl
end
/-- Are the other fields zero? -/
def baF (k m e : Int) (s : List UInt8) (b : Bool) (r h w f : Int) : Bool :=
  if k = 0 then zF m e s b r h w f else if k = 1 then zF 0 0 s b r h w f else if k = 2 then zF m e [] b r h w f else if k = 3 then zF m e s false r h w f else if k = 4 then zF m e s b 0 h w f else false
theorem nzT_run {pre : List PObj} : ∀ (cs : List Bool) (X : Ans), (nzT pre cs X).run pure2 = (Ans.br (cs.all (!·)) X (.ret (.bool false) pre)).run pure2
  | [], X => rfl
  | c :: cs, X => by
    rw [nzT]
    cases c with
    | true => rw [brT rfl, brF (show ((true :: cs).all (!·)) = false from rfl)]
    | false => rw [brF rfl, nzT_run cs X]; rfl
theorem zF_all (m e : Int) (s : List UInt8) (b : Bool) (r h w f : Int) : zF m e s b r h w f = (!(m != 0) && (!(e != 0) && (!(!(s == [])) && (!b && (!(r != 0) && (!(h != 0) && (!(w != 0) && f == 0))))))) := by
  unfold zF sameF
  simp only [bne, Bool.not_not]
  cases b <;> rfl
def eBaP : Ent := fun args pre => match args, pre with
  | [.agg [.int .i64 k, .int .i64 m, .int .i64 e, .str s, .bool b, .int .i64 r, .int .i64 h, .int .i64 w, .nilslice, .int .i64 f, .nilslice, .nilslice], .int .i64 k'], [] => .chk (decide (k = k' ∧ 0 ≤ k ∧ k ≤ 4)) (.ret (.bool (baF k m e s b r h w f)) [])
  | _, _ => .fail
theorem fz_run {c : Bool} {pre : List PObj} {f : Int} : (Ans.br c (fzT pre f) (.ret (.bool false) pre)).run pure2 = pure2 (.bool (c && f == 0)) pre := by
  unfold fzT
  cases c with
  | true => rw [brT rfl]; cases f == 0 <;> rfl
  | false => rfl
theorem eBaP_ok : EntOK Tryz.prog 90 eBaP := fun args pre => by
  unfold eBaP
  split
  · rename_i k m e s b r h w f k'
    refine ⟨fun g => ?_, fun _ => trivial⟩
    obtain ⟨rfl, hk⟩ := of_decide_eq_true g
    have h5 : k = 0 ∨ k = 1 ∨ k = 2 ∨ k = 3 ∨ k = 4 := by omega
    rcases h5 with rfl | rfl | rfl | rfl | rfl
    · refine meets_ent (pre := []) (post := []) .nil host ((ba_0 m e s b r h w f).trans ?_) nolv_ok
      rw [nzT_run, fz_run, show baF 0 m e s b r h w f = zF m e s b r h w f from rfl, zF_all]
      simp only [List.all_cons, List.all_nil, Bool.and_true, Bool.and_assoc]; rfl
    · refine meets_ent (pre := []) (post := []) .nil host ((ba_1 m e s b r h w f).trans ?_) nolv_ok
      rw [nzT_run, fz_run, show baF 1 m e s b r h w f = zF 0 0 s b r h w f from rfl, zF_all]
      simp only [List.all_cons, List.all_nil, Bool.and_true, Bool.and_assoc]; rfl
    · refine meets_ent (pre := []) (post := []) .nil host ((ba_2 m e s b r h w f).trans ?_) nolv_ok
      rw [nzT_run, fz_run, show baF 2 m e s b r h w f = zF m e [] b r h w f from rfl, zF_all]
      simp only [List.all_cons, List.all_nil, Bool.and_true, Bool.and_assoc]; rfl
    · refine meets_ent (pre := []) (post := []) .nil host ((ba_3 m e s b r h w f).trans ?_) nolv_ok
      rw [nzT_run, fz_run, show baF 3 m e s b r h w f = zF m e s false r h w f from rfl, zF_all]
      simp only [List.all_cons, List.all_nil, Bool.and_true, Bool.and_assoc]; rfl
    · refine meets_ent (pre := []) (post := []) .nil host ((ba_4 m e s b r h w f).trans ?_) nolv_ok
      rw [nzT_run, fz_run, show baF 4 m e s b r h w f = zF m e s b 0 h w f from rfl, zF_all]
      simp only [List.all_cons, List.all_nil, Bool.and_true, Bool.and_assoc]; rfl
  · trivial
def eBaA : Ent := fun args pre => match args, pre with
  | [.agg [.int .i64 k, .int .i64 m, .int .i64 e, .str s, .bool b, .int .i64 r, .int .i64 h, .int .i64 w, l, .int .i64 f, .nilslice, .nilslice], .int .i64 k'], [o] =>
    match rowsIn 0 l o with
    | some _ => .chk (k == 5) (.chk (k' == 5) (.ret (.bool (zF m e s b r 0 0 f)) [o]))
    | none => .fail
  | _, _ => .fail
theorem eBaA_ok : EntOK Tryz.prog 90 eBaA := fun args pre => by
  unfold eBaA
  split
  · split
    · rename_i k m e s b r h w l f k' o _ p hs
      obtain ⟨a, R⟩ := p
      refine ⟨fun g1 => ⟨fun g2 => ?_, fun _ => trivial⟩, fun _ => trivial⟩
      obtain rfl := beq_iff_eq.1 g1
      obtain rfl := beq_iff_eq.1 g2
      refine meets_rows (j := 0) hs (args := [vL 5 m e s b r h w (.dsl 0 a) f, .int .i64 5]) (pre := [.flatR false shV R]) (post := [.flatR false shV R]) (meets_ent (pre := [fR R]) (post := [fR R]) .nil host ((ba_5 m e s b r h w f a R).trans ?_) nolv_ok) rfl fun E => denL_L1 (fun y hy => rowsIn_den hs hy) _
      rw [nzT_run, fz_run, zF_all]
      simp only [List.all_cons, List.all_nil, Bool.and_true, Bool.and_assoc]; rfl
    · trivial
  · trivial
-- plain
section
variable (tx : List UInt8 → Bool) (m e : Int) (s : List UInt8) (b : Bool) (r h w f : Int)
def tPl : Tab := [(90, eBaP), (86, eRt), (56, eIsT tx)]
def plT (k : Int) (X : Ans) : Ans := .br (!(baF k m e s b r h w f)) (bT false) X
theorem pl_0 : Comes (tPl tx) nolv 89 [vL 0 m e s b r h w .nilslice f] [] (plT m e s b r h w f 0 (bT true)) := by unfold Comes; kernel_rfl
theorem pl_1 : Comes (tPl tx) nolv 89 [vL 1 m e s b r h w .nilslice f] [] (plT m e s b r h w f 1 (bT (Dq.rightB m e))) := by unfold Comes; kernel_rfl
theorem pl_2 : Comes (tPl tx) nolv 89 [vL 2 m e s b r h w .nilslice f] [] (plT m e s b r h w f 2 (.chk (decide (s.length ≤ 1000000)) (bT (tx s)))) := by unfold Comes; kernel_rfl
theorem pl_3 : Comes (tPl tx) nolv 89 [vL 3 m e s b r h w .nilslice f] [] (plT m e s b r h w f 3 (bT true)) := by unfold Comes; kernel_rfl
theorem pl_4 : Comes (tPl tx) nolv 89 [vL 4 m e s b r h w .nilslice f] [] (plT m e s b r h w f 4 (.br (decide (r ≥ 1)) (bT (decide (r ≤ 9))) (bT false))) := by unfold Comes; kernel_rfl
end
theorem rightF_ba {k m e : Int} {s : List UInt8} {b : Bool} {r h w f : Int} (c : rightF isTx k m e s b r h w f = true) : baF k m e s b r h w f = true := by
  unfold rightF at c
  unfold baF
  repeat' split at c
  all_goals first | (rw [if_pos (by assumption)]; first | exact c | exact (Bool.and_eq_true _ _ ▸ c).2) | skip
  all_goals simp_all
/-- Is a plain value right? It is. -/
def ePlC (tx : List UInt8 → Bool) : Ent := fun args pre => match args, pre with
  | [.agg [.int .i64 k, .int .i64 m, .int .i64 e, .str s, .bool b, .int .i64 r, .int .i64 h, .int .i64 w, .nilslice, .int .i64 f, .nilslice, .nilslice]], [] => .chk (decide (0 ≤ k ∧ k ≤ 4) && rightF tx k m e s b r h w f) (.ret (.bool true) [])
  | _, _ => .fail
theorem ePlC_ok : EntOK Tryz.prog 89 (ePlC isTx) := fun args pre => by
  unfold ePlC
  split
  · rename_i k m e s b r h w f
    refine ⟨fun g => ?_, fun _ => trivial⟩
    rw [Bool.and_eq_true] at g
    have hk := of_decide_eq_true g.1
    have hb := rightF_ba g.2
    have c := rightF_facts g.2
    have T : TabOK Tryz.prog (tPl isTx) := .cons eBaP_ok (.cons eRtR_ok (.cons eTx3_ok .nil))
    have h0 : ∀ {X : Ans}, (plT m e s b r h w f k X).run pure2 = X.run pure2 := by
      intro X
      unfold plT
      rw [hb, Bool.not_true, brF rfl]
    have h5 : k = 0 ∨ k = 1 ∨ k = 2 ∨ k = 3 ∨ k = 4 := by omega
    rcases h5 with rfl | rfl | rfl | rfl | rfl
    · exact meets_ent (pre := []) (post := []) T host ((pl_0 isTx m e s b r h w f).trans (h0.trans rfl)) nolv_ok
    · exact meets_ent (pre := []) (post := []) T host ((pl_1 isTx m e s b r h w f).trans (h0.trans (by rw [c.2.2.1 rfl]; rfl))) nolv_ok
    · exact meets_ent (pre := []) (post := []) T host ((pl_2 isTx m e s b r h w f).trans (h0.trans (by rw [chkT (decide_eq_true (by omega)), c.2.2.2.1 rfl]; rfl))) nolv_ok
    · exact meets_ent (pre := []) (post := []) T host ((pl_3 isTx m e s b r h w f).trans (h0.trans rfl)) nolv_ok
    · have := c.2.2.2.2 rfl
      exact meets_ent (pre := []) (post := []) T host ((pl_4 isTx m e s b r h w f).trans (h0.trans (by rw [brT (decide_eq_true this.1), decide_eq_true this.2]; rfl))) nolv_ok
  · trivial
end Go.Proofs.YtdomenmfkbfakaaGreatDoor

/- Layer 3, the document: which arrays are right. -/
set_option linter.unusedVariables false
set_option linter.unusedSimpArgs false
set_option linter.unusedSectionVars false
namespace Go.Proofs.YtdomenmfkbfakaaGreatDoor
open Go Sx
noncomputable abbrev loopRr : Code := (loopBodies (bodyOf Tryz.f38)).headD .skip
noncomputable abbrev loopRr2 : Code := ((loopBodies (bodyOf Tryz.f38)).drop 1).headD .skip
def tRi (tx : List UInt8 → Bool) : Tab := [(89, ePlC tx), (90, eBaA)]
def okPl (tx : List UInt8 → Bool) (x : List CV) : Bool := decide (0 ≤ rk x ∧ rk x ≤ 4) && rigR tx x
def iB (pre : List PObj) (q : Bool) : Ans := .ret (.bool q) pre
section
variable (tx : List UInt8 → Bool) (k m e : Int) (s : List UInt8) (b : Bool) (r h w f : Int) (a : Nat) (R : List (List CV))
def sRr (i : Int) : PState := ⟨none :: some (.ptr 1 0) :: some (.bool false) :: some (.int .i64 i) :: nn 120, some (fR R) :: some (vCells 5 m e s b r h w f (.dsl 0 a)) :: nn 64⟩
def sRrX : PState := ⟨none :: some (.ptr 1 0) :: some (.bool false) :: nn 121, some (fR R) :: some (vCells 5 m e s b r h w f (.dsl 0 a)) :: nn 64⟩
theorem rRr (i : Int) : code (ent Tryz.prog (tRi tx) nolv 64 1 20) Tryz.prog {} 1 64 1 loopRr (sRr m e s b r h w f a R i) (endK 1 64 (fun n => hasN [1, 2, 3] n) (fun n => hasN [1, 2] n))
  = bcond (decide (i < (a : Int))) (chks (chks (some (.normal, sRr m e s b r h w f a R (up1 i))) [okPl tx (Sx.rowAt R i.toNat)]) [ixN i a, inR i R]) (some (.exit 0, sRrX m e s b r h w f a R)) := by kernel_rfl
def outRr (c : Bool) : LAns := .chk c (.out (.exit 0) (sRrX m e s b r h w f a R))
noncomputable def lvRr (c : Bool) : FuncId → Lv := lvOf 38 (fun _ => some [1, 2, 3]) (oneL 9 (eAt 1 (sRr m e s b r h w f a R 0) (outRr m e s b r h w f a R c)))
def szC : List Bool := [decide (h < 1), decide (w < 1), decide (h > 400), decide (w > 400), decide (w64 (h * w) > 400), (a : Int) != w64 (h * w)]
theorem ri_a (c : Bool) : Comes (tRi tx) (lvRr m e s b r h w f a R c) 38 [vL 5 m e s b r h w (.dsl 0 a) f] [fR R]
  (.br (!(zF m e s b r 0 0 f)) (iB [fR R] false) (nzT [fR R] (szC h w a) (.chk (eqSt (sRr m e s b r h w f a R 0) (sRr m e s b r h w f a R 0)) (.chk c (iB [fR R] true))))) := by unfold Comes; kernel_rfl
theorem ri_p (hk : k = 0 ∨ k = 1 ∨ k = 2 ∨ k = 3 ∨ k = 4) : Comes (tRi tx) nolv 38 [vL k m e s b r h w .nilslice f] [] (.chk (rightF tx k m e s b r h w f) (bT true)) := by rcases hk with rfl | rfl | rfl | rfl | rfl <;> (unfold Comes; kernel_rfl)
end
theorem loopRR {m e : Int} {s : List UInt8} {b : Bool} {r h w f : Int} {a : Nat} {R : List (List CV)} (ha : a < 1000000000) (hR : RigL a R) : Tri Tryz.prog (.loop loopRr) (sRr m e s b r h w f a R 0).toA (.exit 0) (sRrX m e s b r h w f a R).toA 1 := by
  have key := loop_rounds (ent_sound (T := tRi isTx) (.cons ePlC_ok (.cons eBaA_ok .nil)) host nolv_ok (NF := 64) (m := 1) 20) (NF := 64) (m := 1) (x := loopRr) (K := 1) loops_none (fun n => hasN [1, 2, 3] n) (fun n => hasN [1, 2] n) (ι := { p : Nat // p ≤ a }) (fun p => sRr m e s b r h w f a R (p.1 : Int)) (fun p => a - p.1) (fun p => (.exit 0, sRrX m e s b r h w f a R)) ?_ (fun p => by simp) ⟨0, Nat.zero_le _⟩
  · exact key
  rintro ⟨p, hp⟩
  simp only
  have rd := rRr isTx m e s b r h w f a R (p : Int)
  by_cases hl : p < a
  · have hx := hR.2 p hl
    have c := rightF_facts hx
    rw [bcT (decide_eq_true (by omega)), chks_true (all2 (ixN_nat hl) (inR_nat (by have := hR.1; omega))), Int.toNat_natCast, chks_true (all1 (show okPl isTx (Sx.rowAt R p) = true by unfold okPl; rw [decide_eq_true c.1, hx]; rfl)), up1_nat (by omega)] at rd
    exact .inl ⟨⟨p + 1, hl⟩, by simp only; omega, trivial, rd⟩
  · rw [bcF (decide_eq_false (by omega))] at rd
    exact .inr rd
/-- Are so many values rows by columns, and not too many? -/
def szB (h w : Int) (a : Nat) : Bool := decide (1 ≤ h ∧ 1 ≤ w ∧ w ≤ 400 / h ∧ (a : Int) = h * w)
theorem szC_eq (h w : Int) (a : Nat) : (szC h w a).all (!·) = szB h w a := by
  unfold szC szB
  simp only [List.all_cons, List.all_nil, Bool.and_true]
  by_cases c : 1 ≤ h ∧ 1 ≤ w ∧ w ≤ 400 / h ∧ (a : Int) = h * w
  · obtain ⟨h1, h2, h3, h4⟩ := c
    have h5 := le_400 h1 h3
    have h6 : h * 1 ≤ h * w := Int.mul_le_mul_of_nonneg_left h2 (by omega)
    have h7 : 1 * w ≤ h * w := Int.mul_le_mul_of_nonneg_right h1 (by omega)
    have hw : w64 (h * w) = h * w := w64_of (inI_iff.2 ⟨by omega, by omega⟩)
    rw [decide_eq_true (show 1 ≤ h ∧ 1 ≤ w ∧ w ≤ 400 / h ∧ (a : Int) = h * w from ⟨h1, h2, h3, h4⟩), hw, decide_eq_false (by omega), decide_eq_false (by omega), decide_eq_false (by omega), decide_eq_false (by omega), decide_eq_false (by omega), bne, beq_iff_eq.2 h4]; rfl
  · rw [decide_eq_false c]
    by_cases c1 : h < 1
    · rw [decide_eq_true c1]; rfl
    by_cases c2 : w < 1
    · rw [decide_eq_true c2, Bool.not_true, Bool.false_and, Bool.and_false]
    by_cases c3 : h > 400
    · rw [decide_eq_true c3, Bool.not_true, Bool.false_and, Bool.and_false, Bool.and_false]
    by_cases c4 : w > 400
    · rw [decide_eq_true c4, Bool.not_true, Bool.false_and, Bool.and_false, Bool.and_false, Bool.and_false]
    have m1 : h * w ≤ 400 * w := Int.mul_le_mul_of_nonneg_right (by omega) (by omega)
    have m2 : 0 ≤ h * w := Int.mul_nonneg (by omega) (by omega)
    have hw : w64 (h * w) = h * w := w64_of (inI_iff.2 ⟨by omega, by omega⟩)
    rw [hw]
    by_cases c5 : h * w > 400
    · rw [decide_eq_true c5, Bool.not_true, Bool.false_and, Bool.and_false, Bool.and_false, Bool.and_false, Bool.and_false]
    by_cases c6 : (a : Int) = h * w
    · exact absurd ⟨by omega, by omega, (Int.le_ediv_iff_mul_le (by omega)).2 (by rw [Int.mul_comm]; omega), c6⟩ c
    · rw [bne_iff_ne.2 c6]; simp
open Classical in
/-- Is a value right whose values are? It has to be rows by columns. -/
noncomputable def eRiD (tx : List UInt8 → Bool) : Ent := fun args pre => match pre with
  | [] => match args with
    | [.agg [.int .i64 k, .int .i64 m, .int .i64 e, .str s, .bool b, .int .i64 r, .int .i64 h, .int .i64 w, .nilslice, .int .i64 f, .nilslice, .nilslice]] => .chk (decide (0 ≤ k ∧ k ≤ 4) && rightF tx k m e s b r h w f) (.ret (.bool true) [])
    | _ => .fail
  | [o] => match args with
    | [.agg [.int .i64 k, .int .i64 m, .int .i64 e, .str s, .bool b, .int .i64 r, .int .i64 h, .int .i64 w, l, .int .i64 f, .nilslice, .nilslice]] => match rowsIn 0 l o with
      | some (a, R) => .chk (k == 5) (.chk (zF m e s b r 0 0 f) (.chk (decide (RigL a R ∧ a < 1000000000)) (.ret (.bool (szB h w a)) [o])))
      | none => .fail
    | _ => .fail
  | _ => .fail
open Classical in
theorem eRiD_ok : EntOK Tryz.prog 38 (eRiD isTx) := fun args pre => by
  have T : TabOK Tryz.prog (tRi isTx) := .cons ePlC_ok (.cons eBaA_ok .nil)
  unfold eRiD
  split
  · split
    · rename_i k m e s b r h w f
      refine ⟨fun g => ?_, fun _ => trivial⟩
      rw [Bool.and_eq_true] at g
      have hk := of_decide_eq_true g.1
      exact meets_ent (pre := []) (post := []) T host ((ri_p isTx k m e s b r h w f (by omega)).trans (by rw [chkT g.2]; rfl)) nolv_ok
    · trivial
  · split
    · split
      · rename_i k m e s b r h w l f _ a R hs
        refine ⟨fun g1 => ⟨fun g2 => ⟨fun g3 => ?_, fun _ => trivial⟩, fun _ => trivial⟩, fun _ => trivial⟩
        obtain rfl := beq_iff_eq.1 g1
        obtain ⟨hR, ha⟩ := of_decide_eq_true g3
        have hlv : LvOK Tryz.prog (lvRr m e s b r h w f a R true) := lvOf_ok Tryz.func38 fun x hx id en hid he => by
          have hx : x ∈ [loopRr, loopRr2] := by
            have e2 : loopBodies (bodyOf Tryz.f38) = [loopRr, loopRr2] := by kernel_rfl
            rw [e2] at hx; exact hx
          obtain ⟨rfl, rfl⟩ := oneL_some he
          rcases List.mem_cons.1 hx with rfl | hx
          · exact fun K t => eAt_ok (a := outRr m e s b r h w f a R true) ⟨fun _ => loopRR ha hR, fun _ => trivial⟩ K t
          · obtain rfl := List.mem_singleton.1 hx
            have hne : headReg loopRr2 ≠ some 9 := by
              have h9 : (headReg loopRr2 == some 9) = false := by kernel_rfl
              exact fun e => by rw [e] at h9; exact absurd h9 (by decide)
            exact absurd hid hne
        refine meets_rows (j := 0) hs (args := [vL 5 m e s b r h w (.dsl 0 a) f]) (pre := [.flatR false shV R]) (post := [.flatR false shV R]) (meets_ent (pre := [fR R]) (post := [fR R]) T host ((ri_a isTx m e s b r h w f a R true).trans ?_) hlv) rfl fun E => denL_L1 (fun y hy => rowsIn_den hs hy) _
        rw [g2, Bool.not_true, brF rfl, nzT_run, szC_eq]
        cases szB h w a with
        | true => rw [brT rfl, chkT (eqSt_refl _), chkT rfl]; rfl
        | false => rfl
      · trivial
    · trivial
  · trivial
end Go.Proofs.YtdomenmfkbfakaaGreatDoor

/- Layer 3, the document: what stands where; which plain values are the same. -/
set_option linter.unusedVariables false
set_option linter.unusedSimpArgs false
set_option linter.unusedSectionVars false
namespace Go.Proofs.YtdomenmfkbfakaaGreatDoor
open Go Sx
noncomputable def tGd (tx : List UInt8 → Bool) : Tab := [(38, eRiD tx)]
open Classical in
theorem getd_a (tx : List UInt8 → Bool) (m e : Int) (s : List UInt8) (b : Bool) (r h w f : Int) (a : Nat) (R : List (List CV)) (i j : Int) : Comes (tGd tx) nolv 23 [vL 5 m e s b r h w (.dsl 0 a) f, .int .i64 i, .int .i64 j] [fR R]
  (.chk (zF m e s b r 0 0 f) (.chk (decide (RigL a R ∧ a < 1000000000)) (.br (!(szB h w a)) (errT 3 [fR R]) (.br (decide (i < 0)) (errT 7 [fR R]) (.br (decide (j < 0)) (errT 7 [fR R]) (.br (h == 1) (.br (w == 1) (leafG h w a R 0 0) (leafG h w a R 0 j)) (.br (w == 1) (leafG h w a R i 0) (leafG h w a R i j)))))))) := by unfold Comes; kernel_rfl
theorem getd_p (tx : List UInt8 → Bool) (k m e : Int) (s : List UInt8) (b : Bool) (r h w f : Int) (i j : Int) (hk : k = 0 ∨ k = 1 ∨ k = 2 ∨ k = 3 ∨ k = 4) : Comes (tGd tx) nolv 23 [vL k m e s b r h w .nilslice f, .int .i64 i, .int .i64 j] []
  (.chk (rightF tx k m e s b r h w f) (.br (decide (i < 0)) (errT 7 []) (.br (decide (j < 0)) (errT 7 []) (.ret (vL k m e s b r h w .nilslice f) [])))) := by rcases hk with rfl | rfl | rfl | rfl | rfl <;> (unfold Comes; kernel_rfl)
open Classical in
/-- What stands there: of right values. -/
noncomputable def eGeD (tx : List UInt8 → Bool) : Ent := fun args pre => match args, pre with
  | [.agg [.int .i64 k, .int .i64 m, .int .i64 e, .str s, .bool b, .int .i64 r, .int .i64 h, .int .i64 w, l, .int .i64 f, .nilslice, .nilslice], .int .i64 i, .int .i64 j], [o] =>
    match rowsIn 0 l o with
    | some (a, R) => .chk (k == 5) (.chk (zF m e s b r 0 0 f) (.chk (decide (RigL a R ∧ a < 1000000000)) (.ret (vR (bcond (szB h w a) (atG h w R i j) (errR 3))) [o])))
    | none => .fail
  | [.agg [.int .i64 k, .int .i64 m, .int .i64 e, .str s, .bool b, .int .i64 r, .int .i64 h, .int .i64 w, .nilslice, .int .i64 f, .nilslice, .nilslice], .int .i64 i, .int .i64 j], [] =>
    .chk (decide (0 ≤ k ∧ k ≤ 4)) (.chk (rightF tx k m e s b r h w f) (.ret (vR (bcond (decide (i < 0 ∨ j < 0)) (errR 7) (mkR k m e s b r h w f))) []))
  | _, _ => .fail
theorem tGd_ok : TabOK Tryz.prog (tGd isTx) := .cons eRiD_ok .nil
open Classical in
theorem getd_meets {m e : Int} {s : List UInt8} {b : Bool} {r h w f : Int} {a : Nat} {R : List (List CV)} {i j : Int} (hz : zF m e s b r 0 0 f = true) (hR : RigL a R ∧ a < 1000000000) :
    Meets Tryz.prog 23 [vL 5 m e s b r h w (.dsl 0 a) f, .int .i64 i, .int .i64 j] [.flatR false shV R] (vR (bcond (szB h w a) (atG h w R i j) (errR 3))) [.flatR false shV R] := by
  refine meets_ent (pre := [fR R]) (post := [fR R]) tGd_ok host ((getd_a isTx m e s b r h w f a R i j).trans ?_) nolv_ok
  rw [chkT hz, chkT (decide_eq_true hR)]
  cases hq : szB h w a with
  | false => rw [Bool.not_false, brT rfl]; rfl
  | true =>
    rw [Bool.not_true, brF rfl]; simp only [bcond]
    obtain ⟨h1, h2, h3, h4⟩ := of_decide_eq_true hq
    unfold atG
    by_cases hi : 0 ≤ i
    · rw [brF (decide_eq_false (by omega))]
      by_cases hj : 0 ≤ j
      · rw [brF (decide_eq_false (by omega))]
        have key := fun (i' j' : Int) (hi' : 0 ≤ i') (hj' : 0 ≤ j') => leafG_run (R := R) h1 h2 h3 h4 hR.1.1 hi' hj'
        have n1 : ¬(i < 0) := by omega
        have n2 : ¬(j < 0) := by omega
        simp only [n1, n2, false_or]
        by_cases e1 : h = 1 <;> by_cases e2 : w = 1
        · rw [brT (beq_iff_eq.2 e1), brT (beq_iff_eq.2 e2), if_pos e1, if_pos e2]; exact key 0 0 (by omega) (by omega)
        · rw [brT (beq_iff_eq.2 e1), brF (beq_eq_false_iff_ne.2 e2), if_pos e1, if_neg e2]; exact key 0 j (by omega) hj
        · rw [brF (beq_eq_false_iff_ne.2 e1), brT (beq_iff_eq.2 e2), if_neg e1, if_pos e2]; exact key i 0 hi (by omega)
        · rw [brF (beq_eq_false_iff_ne.2 e1), brF (beq_eq_false_iff_ne.2 e2), if_neg e1, if_neg e2]; exact key i j hi hj
      · rw [brT (decide_eq_true (by omega)), if_pos (by omega)]; rfl
    · rw [brT (decide_eq_true (by omega)), if_pos (by omega)]; rfl
open Classical in
theorem eGeD_ok : EntOK Tryz.prog 23 (eGeD isTx) := fun args pre => by
  unfold eGeD
  split
  · split
    · rename_i k m e s b r h w l f i j o _ a R hs
      refine ⟨fun g1 => ⟨fun g2 => ⟨fun g => ?_, fun _ => trivial⟩, fun _ => trivial⟩, fun _ => trivial⟩
      obtain rfl := beq_iff_eq.1 g1
      exact meets_rows (j := 0) hs (getd_meets g2 (of_decide_eq_true g)) rfl fun E xs hx => denL_L1 (fun y hy => rowsIn_den hs hy) _ xs hx
    · trivial
  · rename_i k m e s b r h w f i j
    refine ⟨fun g1 => ⟨fun g => ?_, fun _ => trivial⟩, fun _ => trivial⟩
    have hk := of_decide_eq_true g1
    refine meets_ent (pre := []) (post := []) tGd_ok host ((getd_p isTx k m e s b r h w f i j (by omega)).trans ?_) nolv_ok
    rw [chkT g]
    by_cases hi : i < 0
    · rw [brT (decide_eq_true hi), decide_eq_true (show i < 0 ∨ j < 0 from .inl hi)]; rfl
    · rw [brF (decide_eq_false hi)]
      by_cases hj : j < 0
      · rw [brT (decide_eq_true hj), decide_eq_true (show i < 0 ∨ j < 0 from .inr hj)]; rfl
      · rw [brF (decide_eq_false hj), decide_eq_false (show ¬(i < 0 ∨ j < 0) by omega)]; rfl
  · trivial
-- Same
theorem samd_pp (k m e : Int) (s : List UInt8) (b : Bool) (r h w f k' m' e' : Int) (s' : List UInt8) (b' : Bool) (r' h' w' f' : Int) : Comes [] nolv 21 [vL k m e s b r h w .nilslice f, vL k' m' e' s' b' r' h' w' .nilslice f'] [] (sameT k m e s b r h w f k' m' e' s' b' r' h' w' f' [] (.ret (.bool true) [])) := by unfold Comes; kernel_rfl
theorem eSdP_ok : EntOK Tryz.prog 21 eSamP := fun args pre => by
  unfold eSamP
  split
  · exact of_run (ans_comes .nil (samd_pp ..)) fun x hx => by
      rw [sameT_run, ← hx]
      simp only [Ans.run]
      generalize sameF _ _ _ _ _ _ _ _ _ _ _ _ _ _ _ _ _ _ = q
      cases q <;> rfl
  · trivial
end Go.Proofs.YtdomenmfkbfakaaGreatDoor

/- Layer 3, the document: which arrays are the same; which arrays are made. -/
set_option linter.unusedVariables false
set_option linter.unusedSimpArgs false
set_option linter.unusedSectionVars false
namespace Go.Proofs.YtdomenmfkbfakaaGreatDoor
open Go Sx
noncomputable abbrev loopSd : Code := (loopBodies (bodyOf Tryz.f21)).headD .skip
def tSd : Tab := [(21, eSamP)]
section
variable (k m e : Int) (s : List UInt8) (b : Bool) (r h w f k' m' e' : Int) (s' : List UInt8) (b' : Bool) (r' h' w' f' : Int) (a a' : Nat) (R S : List (List CV))
def sSd (i : Int) : PState := ⟨none :: none :: some (.ptr 2 0) :: some (.ptr 3 0) :: some (.bool false) :: some (.int .i64 i) :: nn 90, some (fR R) :: some (fR S) :: some (vCells k m e s b r h w f (.dsl 0 a)) :: some (vCells k' m' e' s' b' r' h' w' f' (.dsl 1 a')) :: nn 64⟩
def sSdX : PState := ⟨none :: none :: some (.ptr 2 0) :: some (.ptr 3 0) :: some (.bool false) :: nn 91, some (fR R) :: some (fR S) :: some (vCells k m e s b r h w f (.dsl 0 a)) :: some (vCells k' m' e' s' b' r' h' w' f' (.dsl 1 a')) :: nn 64⟩
theorem rSd (i : Int) : code (ent Tryz.prog tSd nolv 64 1 20) Tryz.prog {} 2 64 1 loopSd (sSd k m e s b r h w f k' m' e' s' b' r' h' w' f' a a' R S i) (endK 2 64 (fun n => hasN [2, 3, 4, 5] n) (fun n => hasN [2, 3, 4] n))
  = bcond (decide (i < (a : Int))) (chks (bcond (!(samR (Sx.rowAt R i.toNat) (Sx.rowAt S i.toNat))) (some (.ret, sSdX k m e s b r h w f k' m' e' s' b' r' h' w' f' a a' R S)) (some (.normal, sSd k m e s b r h w f k' m' e' s' b' r' h' w' f' a a' R S (up1 i)))) [ixN i a, inR i R, ixN i a', inR i S]) (some (.exit 0, sSdX k m e s b r h w f k' m' e' s' b' r' h' w' f' a a' R S)) := by kernel_rfl
def outSd (c : Bool) : LAns := .chk c (.out (.exit 0) (sSdX k m e s b r h w f k' m' e' s' b' r' h' w' f' a a' R S))
noncomputable def lvSd (c : Bool) : FuncId → Lv := lvOf 21 (fun _ => some [2, 3, 4, 5]) (oneL 4 (eAt 2 (sSd k m e s b r h w f k' m' e' s' b' r' h' w' f' a a' R S 0) (outSd k m e s b r h w f k' m' e' s' b' r' h' w' f' a a' R S c)))
theorem samd_aa (c : Bool) : Comes [] (lvSd k m e s b r h w f k' m' e' s' b' r' h' w' f' a a' R S c) 21 [vL k m e s b r h w (.dsl 0 a) f, vL k' m' e' s' b' r' h' w' (.dsl 1 a') f'] [fR R, fR S]
  (sameT k m e s b r h w f k' m' e' s' b' r' h' w' f' [fR R, fR S] (.br ((a : Int) != (a' : Int)) (.ret (.bool false) [fR R, fR S]) (.chk (eqSt (sSd k m e s b r h w f k' m' e' s' b' r' h' w' f' a a' R S 0) (sSd k m e s b r h w f k' m' e' s' b' r' h' w' f' a a' R S 0)) (.chk c (.ret (.bool true) [fR R, fR S]))))) := by unfold Comes; kernel_rfl
end
theorem eq_at {R S : List (List CV)} : ∀ (n i : Nat), eqFrom R S n i = true → ∀ j, i ≤ j → j < i + n → samR (Sx.rowAt R j) (Sx.rowAt S j) = true
  | 0, i, _, j, h1, h2 => by omega
  | n + 1, i, h, j, h1, h2 => by
    rw [eqFrom, Bool.and_eq_true] at h
    by_cases e : i = j
    · subst e; exact h.1
    · exact eq_at n (i + 1) h.2 j (by omega) (by omega)
theorem loopSd_run {k m e : Int} {s : List UInt8} {b : Bool} {r h w f k' m' e' : Int} {s' : List UInt8} {b' : Bool} {r' h' w' f' : Int} {a : Nat} {R S : List (List CV)} (hR : a ≤ R.length) (hS : a ≤ S.length) (ha : a < 1000000000) (hq : eqFrom R S a 0 = true) :
    Tri Tryz.prog (.loop loopSd) (sSd k m e s b r h w f k' m' e' s' b' r' h' w' f' a a R S 0).toA (.exit 0) (sSdX k m e s b r h w f k' m' e' s' b' r' h' w' f' a a R S).toA 2 := by
  have key := loop_rounds (ent_sound (T := tSd) (.cons eSdP_ok .nil) host nolv_ok (NF := 64) (m := 1) 20) (NF := 64) (m := 1) (x := loopSd) (K := 2) loops_none (fun n => hasN [2, 3, 4, 5] n) (fun n => hasN [2, 3, 4] n) (ι := { p : Nat // p ≤ a }) (fun p => sSd k m e s b r h w f k' m' e' s' b' r' h' w' f' a a R S (p.1 : Int)) (fun p => a - p.1) (fun p => (.exit 0, sSdX k m e s b r h w f k' m' e' s' b' r' h' w' f' a a R S)) ?_ (fun p => by simp) ⟨0, Nat.zero_le _⟩
  · exact key
  rintro ⟨p, hp⟩
  simp only
  have rd := rSd k m e s b r h w f k' m' e' s' b' r' h' w' f' a a R S (p : Int)
  by_cases hl : p < a
  · rw [bcT (decide_eq_true (by omega)), chks_true (all4 (ixN_nat hl) (inR_nat (by omega)) (ixN_nat hl) (inR_nat (by omega))), Int.toNat_natCast, up1_nat (by omega), eq_at a 0 hq p (by omega) (by omega)] at rd
    exact .inl ⟨⟨p + 1, hl⟩, by simp only; omega, trivial, rd⟩
  · rw [bcF (decide_eq_false (by omega))] at rd
    exact .inr rd
theorem samd_meets {k m e : Int} {s : List UInt8} {b : Bool} {r h w f k' m' e' : Int} {s' : List UInt8} {b' : Bool} {r' h' w' f' : Int} {a a' : Nat} {R S : List (List CV)} (hb : a ≤ R.length ∧ a' ≤ S.length ∧ a < 1000000000) (hq : (sameF k m e s b r h w f k' m' e' s' b' r' h' w' f' && eqRows a a' R S) = true) :
    Meets Tryz.prog 21 [vL k m e s b r h w (.dsl 0 a) f, vL k' m' e' s' b' r' h' w' (.dsl 1 a') f'] [.flatR false shV R, .flatR false shV S] (.bool true) [.flatR false shV R, .flatR false shV S] := by
  rw [Bool.and_eq_true] at hq
  obtain ⟨q1, q2⟩ := hq
  unfold eqRows at q2
  rw [Bool.and_eq_true, beqT] at q2
  obtain ⟨rfl, q2⟩ := q2
  refine meets_ent (T := []) (pre := [fR R, fR S]) (post := [fR R, fR S]) .nil host ((samd_aa k m e s b r h w f k' m' e' s' b' r' h' w' f' a a R S true).trans ?_) (lvOne_ok (x := loopSd) Tryz.func21 (by kernel_rfl) fun K t => eAt_ok (a := outSd k m e s b r h w f k' m' e' s' b' r' h' w' f' a a R S true) ⟨fun _ => loopSd_run hb.1 hb.2.1 hb.2.2 q2, fun _ => trivial⟩ K t)
  rw [sameT_run, brT q1, brF (by simp), chkT (eqSt_refl _), chkT rfl]; rfl
/-- Are two values the same? They are. -/
theorem eSdC_ok : EntOK Tryz.prog 21 eSamC := fun args pre => by
  unfold eSamC
  split
  · split
    · rename_i k m e s b r h w l f k' m' e' s' b' r' h' w' l' f' o o' _ _ a R a' S hs hs'
      refine ⟨fun g1 => ⟨fun g2 => ?_, fun _ => trivial⟩, fun _ => trivial⟩
      have h1 := meets_rows (j := 0) hs (samd_meets (of_decide_eq_true g1) g2) rfl (args' := [vL k m e s b r h w l f, vL k' m' e' s' b' r' h' w' (.dsl 1 a') f']) fun E => denL_L1 (fun y hy => rowsIn_den hs hy) _
      exact meets_rows (j := 1) hs' h1 rfl fun E => denL_tl (denL_L1 (fun y hy => rowsIn_den hs' hy) [])
    · trivial
  · rename_i k m e s b r h w f k' m' e' s' b' r' h' w' f'
    refine ⟨fun g1 => ?_, fun _ => trivial⟩
    have := eSdP_ok [vL k m e s b r h w .nilslice f, vL k' m' e' s' b' r' h' w' .nilslice f'] []
    simp only [eSamP] at this
    rw [g1] at this
    exact this
  · trivial
end Go.Proofs.YtdomenmfkbfakaaGreatDoor

/- Layer 3: arrays that are made (ValReads), of the program and of the document: told by cases. -/
set_option linter.unusedVariables false
set_option linter.unusedSimpArgs false
set_option linter.unusedSectionVars false
namespace Go.Proofs.YtdomenmfkbfakaaGreatDoor
open Go Sx
def mkOk (h w : Int) (a : Nat) : AV := .tuple [vL 5 0 0 [] false 0 h w (.vec 1 a) 0, .int .i64 0]
def mkNo : AV := .tuple [vL 0 0 0 [] false 0 0 0 .nilslice 0, .int .i64 30]
def mkNil (h w : Int) : AV := .tuple [vL 5 0 0 [] false 0 h w .nilslice 0, .int .i64 0]
/-- None, where one of these holds. -/
def noT (pre : List PObj) : List Bool → Ans → Ans
  | [], X => X
  | c :: cs, X => .br c (.ret mkNo pre) (noT pre cs X)
theorem noT_run {pre : List PObj} : ∀ (cs : List Bool) (X : Ans), cs.all (!·) = false → (noT pre cs X).run pure2 = pure2 mkNo pre
  | [], X, h => by cases h
  | c :: cs, X, h => by
    rw [noT]
    cases c with
    | true => rfl
    | false => rw [brF rfl]; exact noT_run cs X h
-- of nothing
theorem mk_nil (h w : Int) : Comes [] nolv 19 [.int .i64 h, .int .i64 w, .nilslice] []
  (.br (decide (h < 1)) (.ret mkNo []) (.br (decide (w < 1)) (.ret mkNo []) (.chk (h != 0) (.br (decide (w > w64 (Int.tdiv 400 h))) (.ret mkNo []) (.br ((0 : Int) != w64 (h * w)) (.ret mkNo []) (.ret (mkNil h w) [])))))) := by unfold Comes; kernel_rfl
theorem mkd_nil (h w : Int) : Comes [] nolv 20 [.int .i64 h, .int .i64 w, .nilslice] []
  (noT [] (szC h w 0) (.ret (.tuple [vL 5 0 0 [] false 0 h w (.slice 0 0 0 0) 0, .int .i64 0]) [.raw (.cells [] 34)])) := by unfold Comes; kernel_rfl
theorem szB_nil {h w : Int} : szB h w 0 = false := by
  unfold szB
  rw [decide_eq_false]
  rintro ⟨h1, h2, h3, h4⟩
  have := Int.mul_pos (a := h) (b := w) (by omega) (by omega)
  omega
def eMaN : Ent := fun args pre => match args, pre with
  | [.int .i64 h, .int .i64 w, .nilslice], [] => .chk (inI h && inI w) (.ret mkNo [])
  | _, _ => .fail
theorem eMaN_ok : EntOK Tryz.prog 19 eMaN := fun args pre => by
  unfold eMaN
  split
  · rename_i h w
    refine ⟨fun g => ?_, fun _ => trivial⟩
    refine meets_ent (T := []) (pre := []) (post := []) .nil host ((mk_nil h w).trans ?_) nolv_ok
    by_cases h1 : h < 1
    · rw [brT (decide_eq_true h1)]; rfl
    rw [brF (decide_eq_false h1)]
    by_cases h2 : w < 1
    · rw [brT (decide_eq_true h2)]; rfl
    rw [brF (decide_eq_false h2), chkT (bne_iff_ne.2 (by omega))]
    have e4 : Int.tdiv 400 h = 400 / h := Int.tdiv_eq_ediv_of_nonneg (by omega)
    have h4 : 400 / h ≤ 400 := Int.ediv_le_self _ (by omega)
    have h0 : 0 ≤ 400 / h := Int.ediv_nonneg (by omega) (by omega)
    rw [e4, w64_of (inI_iff.2 ⟨by omega, by omega⟩)]
    by_cases h3 : w > 400 / h
    · rw [brT (decide_eq_true h3)]; rfl
    rw [brF (decide_eq_false h3)]
    have h5 := le_400 (h := h) (w := w) (by omega) (by omega)
    have h6 := Int.mul_pos (a := h) (b := w) (by omega) (by omega)
    rw [w64_of (inI_iff.2 ⟨by omega, by omega⟩), brT (bne_iff_ne.2 (by omega))]; rfl
  · trivial
theorem eMdN_ok : EntOK Tryz.prog 20 eMaN := fun args pre => by
  unfold eMaN
  split
  · rename_i h w
    refine ⟨fun g => ?_, fun _ => trivial⟩
    refine meets_ent (T := []) (pre := []) (post := []) .nil host ((mkd_nil h w).trans ?_) nolv_ok
    exact noT_run _ _ (by rw [szC_eq]; exact szB_nil)
  · trivial
-- of some: those that are right, and those that are not
open Classical in
noncomputable def eMaT (tx : List UInt8 → Bool) : Ent := fun args pre => match args, pre with
  | [.int .i64 h, .int .i64 w, l], [o] => match rowsIn 0 l o with
    | some (a, R) => .chk (decide (okRows a R)) (.chk (rightA tx 0 0 [] false 0 h w 0 a R) (.ret (mkOk h w a) [o, vR34 (cpR R a)]))
    | none => .fail
  | _, _ => .fail
open Classical in
noncomputable def eMaF (tx : List UInt8 → Bool) : Ent := fun args pre => match args, pre with
  | [.int .i64 h, .int .i64 w, l], [o] => match rowsIn 0 l o with
    | some (a, R) => .chk (decide (okRows a R)) (.chk (!rightA tx 0 0 [] false 0 h w 0 a R) (.ret mkNo [o]))
    | none => .fail
  | _, _ => .fail
theorem eMaT_ok {tx : List UInt8 → Bool} (ht : EntOK Tryz.prog 51 (eIsT tx)) : EntOK Tryz.prog 19 (eMaT tx) := fun args pre => by
  have key := eMak_ok ht args pre
  unfold eMak at key
  unfold eMaT
  split
  · split
    · rename_i hs
      simp only [hs] at key
      exact ⟨fun g1 => ⟨fun g2 => (key.1 g1).1 g2, fun _ => trivial⟩, fun _ => trivial⟩
    · trivial
  · trivial
theorem eMaF_ok {tx : List UInt8 → Bool} (ht : EntOK Tryz.prog 51 (eIsT tx)) : EntOK Tryz.prog 19 (eMaF tx) := fun args pre => by
  have key := eMak_ok ht args pre
  unfold eMak at key
  unfold eMaF
  split
  · split
    · rename_i hs
      simp only [hs] at key
      exact ⟨fun g1 => ⟨fun g2 => (key.1 g1).2 (by simpa using g2), fun _ => trivial⟩, fun _ => trivial⟩
    · trivial
  · trivial
open Classical in
noncomputable def eMdT : Ent := fun args pre => match args, pre with
  | [.int .i64 h, .int .i64 w, .vec n a], [.vecR sh R t] => .chk (Nat.beq n 0 && shEq sh shV && Nat.beq t 34) (.chk (decide (RigL a R ∧ 0 < a ∧ a < 1000000)) (.chk (szB h w a) (.ret (mkOk h w a) [.vecR sh R t, vR34 (R.take a)])))
  | _, _ => .fail
open Classical in
noncomputable def eMdF : Ent := fun args pre => match args, pre with
  | [.int .i64 h, .int .i64 w, .vec n a], [.vecR sh R t] => .chk (Nat.beq n 0 && shEq sh shV && Nat.beq t 34) (.chk (decide (RigL a R ∧ 0 < a ∧ a < 1000000)) (.chk (!szB h w a) (.ret mkNo [.vecR sh R t])))
  | _, _ => .fail
def mdC (a : Nat) (R : List (List CV)) : Bool := decide (a ≤ R.length) && true && true && true && decide (0 < a) && roomB (0 + a) 152
open Classical in
theorem mkd_v (tx : List UInt8 → Bool) (h w : Int) (a : Nat) (R : List (List CV)) : Comes (tGd tx) nolv 20 [.int .i64 h, .int .i64 w, .vec 0 a] [vR34 R]
  (.chk (mdC a R) (.chk (decide (RigL (0 + a) (R.take a) ∧ 0 + a < 1000000000)) (.br (!(szB h w (0 + a))) (.ret mkNo [vR34 R]) (.ret (mkOk h w (0 + a)) [vR34 R, vR34 (R.take a)])))) := by unfold Comes; kernel_rfl
theorem mdC_true {a : Nat} {R : List (List CV)} (h1 : a ≤ R.length) (h2 : 0 < a) (h3 : a < 1000000) : mdC a R = true := by
  unfold mdC
  rw [decide_eq_true h1, decide_eq_true h2, Nat.zero_add]
  simp only [Bool.true_and, roomB]
  exact decide_eq_true ⟨by omega, by omega⟩
theorem RigL.take {a : Nat} {R : List (List CV)} (h : RigL a R) : RigL a (R.take a) := by
  refine ⟨by rw [List.length_take]; exact Nat.le_min.2 ⟨Nat.le_refl _, h.1⟩, fun j hj => ?_⟩
  have := h.2 j hj
  unfold Sx.rowAt at this ⊢
  rw [List.getD_eq_getElem?_getD] at this ⊢
  rwa [List.getElem?_take_of_lt hj]
open Classical in
theorem eMdT_ok : EntOK Tryz.prog 20 eMdT := fun args pre => by
  unfold eMdT
  split
  · rename_i h w n a sh R t
    refine ⟨fun g1 => ⟨fun g2 => ⟨fun g3 => ?_, fun _ => trivial⟩, fun _ => trivial⟩, fun _ => trivial⟩
    rw [Bool.and_eq_true, Bool.and_eq_true, beqT, beqT] at g1
    obtain ⟨⟨rfl, g1⟩, rfl⟩ := g1
    obtain rfl := shEq_of g1
    have g2 := of_decide_eq_true g2
    refine meets_ent (pre := [vR34 R]) (post := [vR34 R, vR34 (R.take a)]) tGd_ok host ((mkd_v isTx h w a R).trans ?_) nolv_ok
    rw [chkT (mdC_true g2.1.1 g2.2.1 g2.2.2), Nat.zero_add, chkT (decide_eq_true ⟨g2.1.take, by omega⟩), g3, Bool.not_true, brF rfl]; rfl
  · trivial
open Classical in
theorem eMdF_ok : EntOK Tryz.prog 20 eMdF := fun args pre => by
  unfold eMdF
  split
  · rename_i h w n a sh R t
    refine ⟨fun g1 => ⟨fun g2 => ⟨fun g3 => ?_, fun _ => trivial⟩, fun _ => trivial⟩, fun _ => trivial⟩
    rw [Bool.and_eq_true, Bool.and_eq_true, beqT, beqT] at g1
    obtain ⟨⟨rfl, g1⟩, rfl⟩ := g1
    obtain rfl := shEq_of g1
    have g2 := of_decide_eq_true g2
    refine meets_ent (pre := [vR34 R]) (post := [vR34 R]) tGd_ok host ((mkd_v isTx h w a R).trans ?_) nolv_ok
    rw [chkT (mdC_true g2.1.1 g2.2.1 g2.2.2), Nat.zero_add, chkT (decide_eq_true ⟨g2.1.take, by omega⟩), g3, brT rfl]; rfl
  · trivial
end Go.Proofs.YtdomenmfkbfakaaGreatDoor

/- Law 3: what is put in, and which arrays there are (ValReads): the rounds. -/
set_option linter.unusedVariables false
set_option linter.unusedSimpArgs false
set_option linter.unusedSectionVars false
namespace Go.Proofs.YtdomenmfkbfakaaGreatDoor
open Go Sx
noncomputable def tVr (mk md : Ent) (f : FV) (tx : List UInt8 → Bool) (rv : List UInt8 → List CV × Int) : Tab := [(11, eTrue), (12, eVal f), (13, eArr f), (17, eRdV rv), (18, eRdW rv), (19, mk), (20, md), (22, eGet tx), (23, eGeD tx), (21, eSamC), (24, ePick)]
abbrev vC (x : List CV) : PObj := vCells (rk x) (rm x) (re x) (rs x) (rb x) (rr x) (rh x) (rw_ x) (rf x) .nilslice
noncomputable abbrev loopVr : Code := (loopBodies (bodyOf Tryz.f4)).headD .skip
section
variable (V : List CV) (e h w p0 p1 : Int) (a : Nat) (R : List (List CV))
def mVr (t : List (Option PObj)) : List (Option PObj) := some (fW R) :: some (.raw (.cells [.int .i64 p0, .int .i64 p1] 41)) :: some (vC V) :: some (vC V) :: (t ++ nn 64)
def sVr (l : AV) (t : List (Option PObj)) (i : Int) : PState := ⟨none :: some (.int .i64 h) :: some (.int .i64 w) :: some (.dsl 0 a) :: (nn 5 ++ some (.ptr 1 0) :: none :: some (.bool true) :: some (.ptr 2 0) :: some (.int .i64 e) :: some (.ptr 3 0) :: some (.int .i64 e) :: some l :: some (.int .i64 i) :: nn 129), mVr V p0 p1 R t⟩
def sVrX (l : AV) (t : List (Option PObj)) : PState := ⟨none :: some (.int .i64 h) :: some (.int .i64 w) :: some (.dsl 0 a) :: (nn 5 ++ some (.ptr 1 0) :: none :: some (.bool true) :: some (.ptr 2 0) :: some (.int .i64 e) :: some (.ptr 3 0) :: some (.int .i64 e) :: some l :: nn 130), mVr V p0 p1 R t⟩
variable (f : FV) (tx : List UInt8 → Bool) (rv : List UInt8 → List CV × Int)
theorem rVr0 (mk md : Ent) : code (ent Tryz.prog (tVr mk md f tx rv) nolv 64 1 20) Tryz.prog {} 1 64 1 loopVr (sVr V e h w p0 p1 a R .nilslice [] 0) (endK 1 64 (fun n => hasN [1, 2, 3, 9, 11, 12, 13, 14, 15, 16, 17] n) (fun n => hasN [1, 2, 3, 9, 11, 12, 13, 14, 15, 16] n))
  = bcond (decide (0 < (a : Int))) (chks (chks (some (.normal, sVr V e h w p0 p1 a R (.vec 4 1) [some (vR34 [nrm (rvF f (Sx.rowAt R (0 : Int).toNat))])] 1)) (okC (Sx.rowAt R (0 : Int).toNat))) [ixN 0 a, inR 0 R]) (some (.exit 0, sVrX V e h w p0 p1 a R .nilslice [])) := by kernel_rfl
theorem rVr1 (mk md : Ent) (n : Nat) (L : List (List CV)) (i : Int) : code (ent Tryz.prog (tVr mk md f tx rv) nolv 64 1 20) Tryz.prog {} 1 64 1 loopVr (sVr V e h w p0 p1 a R (.vec 4 n) [some (vR34 L)] i) (endK 1 64 (fun n => hasN [1, 2, 3, 9, 11, 12, 13, 14, 15, 16, 17] n) (fun n => hasN [1, 2, 3, 9, 11, 12, 13, 14, 15, 16] n))
  = bcond (decide (i < (a : Int))) (chks (chks (chks (some (.normal, sVr V e h w p0 p1 a R (.vec 4 (n + 1)) [some (vR34 (L ++ [nrm (rvF f (Sx.rowAt R i.toNat))]))] (up1 i))) [bV n L]) (okC (Sx.rowAt R i.toNat))) [ixN i a, inR i R]) (some (.exit 0, sVrX V e h w p0 p1 a R (.vec 4 n) [some (vR34 L)])) := by kernel_rfl
end
end Go.Proofs.YtdomenmfkbfakaaGreatDoor

/- Law 3: what is put in, and which arrays there are (ValReads): it is so. -/
set_option linter.unusedVariables false
set_option linter.unusedSimpArgs false
set_option linter.unusedSectionVars false
namespace Go.Proofs.YtdomenmfkbfakaaGreatDoor
open Go Sx
def outVr (V : List CV) (e h w p0 p1 : Int) (a : Nat) (R : List (List CV)) (l : AV) (t : List (Option PObj)) (c : Bool) : LAns := .chk c (.out (.exit 0) (sVrX V e h w p0 p1 a R l t))
noncomputable def lvVr (V : List CV) (e h w p0 p1 : Int) (a : Nat) (R : List (List CV)) (l : AV) (t : List (Option PObj)) (c : Bool) : FuncId → Lv := lvOf 4 (fun _ => some [1, 2, 3, 9, 11, 12, 13, 14, 15, 16, 17]) (oneL 8 (eAt 1 (sVr V e h w p0 p1 a R .nilslice [] 0) (outVr V e h w p0 p1 a R l t c)))
section
variable (tx : List UInt8 → Bool) (H W i j : Int) (N : Nat) (L : List (List CV))
def gVr : List CV := getA tx 0 0 [] false 0 H W 0 N L i j
def dVr : List CV := bcond (szB H W N) (atG H W L i j) (errR 3)
open Classical in
noncomputable def oVr (X : Ans) : Ans := .chk (decide (okRows N L)) X
open Classical in
noncomputable def qVr (X : Ans) : Ans := .chk (decide (RigL N L ∧ N < 1000000000)) (psT (gVr tx H W i j N L) (dVr H W i j N L) X)
end
section
variable (f : FV) (tx : List UInt8 → Bool) (rv : List UInt8 → List CV × Int) (V : List CV) (e h w p0 p1 : Int) (a : Nat) (R : List (List CV))
def beyR : List CV := bcond (decide (p0 < 0 ∨ p1 < 0)) (errR 7) (nrm V)
open Classical in
noncomputable def midVr (N : Nat) (L : List (List CV)) (X : Ans) : Ans :=
  .chk (inI h) (.chk (inI w) (.chk (decide (okW a R)) (oVr N L (qVr tx (sz5 h) (sz5 w) p0 p1 N L
    (.chk (decide (0 ≤ rk V ∧ rk V ≤ 4)) (.chk (decide ((rs V).length ≤ 1000000)) (.chk (decide (0 ≤ rk V ∧ rk V ≤ 4)) (.chk (rigR tx V) (psT (bcond (rigR tx V) (beyR V p0 p1) (errR 3)) (beyR V p0 p1)
      (.chk (inI p0) (.chk (inI p1) (oVr N L (.chk (inI p0) (.chk (inI p1) (qVr tx (sz5 h) (sz5 w) (pickS p0 6) (pickS p1 6) N L
        (psT V V (.br (e == e) X (fwB R false))))))))))))))))))
noncomputable def headVr (z : List UInt8) (c : Bool) (X : Ans) : Ans :=
  .br (decide ((z.length : Int) > 300)) (fwB R true) (.br (decide ((a : Int) > 500)) (fwB R true) (.chk (decide (z.length < 1000000)) (.chk (decide (z.length ≤ 1000))
    (.chk (eqSt (sVr V e h w p0 p1 a R .nilslice [] 0) (sVr V e h w p0 p1 a R .nilslice [] 0)) (.chk c X)))))
theorem vr_nil (z : List UInt8) (c : Bool) : Comes (tVr eMaN eMaN f tx rv) (lvVr (rv z).1 (rv z).2 h w p0 p1 a R .nilslice [] c) 4 [.str z, .int .i64 h, .int .i64 w, .dsl 0 a, .agg [.int .i64 p0, .int .i64 p1]] [fW R]
  (headVr (rv z).1 (rv z).2 h w p0 p1 a R z c (.chk (inI h && inI w) (.chk (inI h && inI w) (midVr tx (rv z).1 (rv z).2 h w p0 p1 a R (nA h w) (arL f a R (nA h w)) (fwB R true))))) := by unfold Comes; kernel_rfl
open Classical in
theorem vr_no (z : List UInt8) (c : Bool) (M : List (List CV)) : Comes (tVr (eMaF tx) eMdF f tx rv) (lvVr (rv z).1 (rv z).2 h w p0 p1 a R (.vec 4 a) [some (vR34 M)] c) 4 [.str z, .int .i64 h, .int .i64 w, .dsl 0 a, .agg [.int .i64 p0, .int .i64 p1]] [fW R]
  (headVr (rv z).1 (rv z).2 h w p0 p1 a R z c (.chk (decide (okRows a M)) (.chk (!rightA tx 0 0 [] false 0 h w 0 a M) (.chk (decide (RigL a M ∧ 0 < a ∧ a < 1000000)) (.chk (!szB h w a) (midVr tx (rv z).1 (rv z).2 h w p0 p1 a R (nA h w) (arL f a R (nA h w)) (fwB R true))))))) := by unfold Comes; kernel_rfl
open Classical in
theorem vr_yes (z : List UInt8) (c : Bool) (M : List (List CV)) : Comes (tVr (eMaT tx) eMdT f tx rv) (lvVr (rv z).1 (rv z).2 h w p0 p1 a R (.vec 4 a) [some (vR34 M)] c) 4 [.str z, .int .i64 h, .int .i64 w, .dsl 0 a, .agg [.int .i64 p0, .int .i64 p1]] [fW R]
  (headVr (rv z).1 (rv z).2 h w p0 p1 a R z c (.chk (decide (okRows a M)) (.chk (rightA tx 0 0 [] false 0 h w 0 a M) (.chk (decide (RigL a M ∧ 0 < a ∧ a < 1000000)) (.chk (szB h w a) (midVr tx (rv z).1 (rv z).2 h w p0 p1 a R (nA h w) (arL f a R (nA h w)) (.chk (decide (a ≤ (cpR M a).length ∧ a ≤ (M.take a).length ∧ a < 1000000000)) (.chk (sameF 5 0 0 [] false 0 h w 0 5 0 0 [] false 0 h w 0 && eqRows a a (cpR M a) (M.take a)) (fwB R true))))))))) := by unfold Comes; kernel_rfl
end
end Go.Proofs.YtdomenmfkbfakaaGreatDoor
