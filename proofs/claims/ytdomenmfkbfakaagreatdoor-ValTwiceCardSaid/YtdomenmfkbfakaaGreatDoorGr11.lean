/- Layer 3: small letters in the place of great ones: letters.Small of any text. -/
import Derived.Test.YtdomenmfkbfakaaGreatDoorGr10
import Derived.Test.YtdomenmfkbfakaaGreatDoorGr08
set_option linter.unusedVariables false
set_option linter.unusedSimpArgs false
namespace Go.Proofs.YtdomenmfkbfakaaGreatDoor
open Go Sx
theorem sb_comes (c : Int) : Comes [] nolv 97 [.int .u8 c] [] (.br (decide (c ≥ 65)) (.br (decide (c ≤ 90)) (.ret (.int .u8 (IntKind.u8.wrap (IntKind.u8.wrap (c - 65) + 97))) []) (.ret (.int .u8 c) [])) (.ret (.int .u8 c) [])) := by unfold Comes; kernel_rfl
def sbI (c : Int) : Int := bcond (decide (65 ≤ c ∧ c ≤ 90)) (c + 32) c
def eSb (g : Int → Int) : Ent := fun args pre => match args, pre with
  | [.int .u8 c], [] => .chk (decide (0 ≤ c ∧ c < 256)) (.ret (.int .u8 (g c)) [])
  | _, _ => .fail
theorem eSb_ok : EntOK Tryz.prog 97 (eSb sbI) := fun args pre => by
  unfold eSb
  split
  · rename_i c
    refine ⟨fun g => ?_, fun _ => trivial⟩
    have g := of_decide_eq_true g
    refine meets_ent (pre := []) (post := []) .nil host ((sb_comes c).trans ?_) nolv_ok
    unfold sbI
    by_cases h1 : c ≥ 65
    · rw [brT (decide_eq_true h1)]
      by_cases h2 : c ≤ 90
      · rw [brT (decide_eq_true h2), decide_eq_true (show 65 ≤ c ∧ c ≤ 90 from ⟨h1, h2⟩), u8_in (n := c - 65) (by omega) (by omega), u8_in (by omega) (by omega), show c - 65 + 97 = c + 32 by omega]; rfl
      · rw [brF (decide_eq_false h2), decide_eq_false (fun h => h2 h.2)]; rfl
    · rw [brF (decide_eq_false h1), decide_eq_false (fun h => h1 h.1)]; rfl
  · trivial
def sSm (u : List UInt8) (n : Nat) (i : Int) : PState := ⟨nn 3 ++ some (.vec 0 n) :: (nn 4 ++ some (.vec 0 n) :: some (.int .i64 n) :: some (.int .i64 i) :: nn 12), some (.vecB u 5) :: nn 64⟩
def sSmX (u : List UInt8) (n : Nat) : PState := ⟨nn 3 ++ some (.vec 0 n) :: nn 19, some (.vecB u 5) :: nn 64⟩
noncomputable abbrev loopSml : Code := (loopBodies (bodyOf Tryz.f46)).headD .skip
def byI (u : List UInt8) (i : Int) : Int := byteAt u (i.toNat * 1)
def inB (u : List UInt8) (i : Int) : Bool := decide (i.toNat * 1 < u.length)
theorem rSml (g : Int → Int) (u : List UInt8) (n : Nat) (i : Int) : code (ent Tryz.prog [(97, eSb g)] nolv 64 1 20) Tryz.prog {} 0 64 1 loopSml (sSm u n i) (endK 0 64 (fun n => hasN [3, 8, 9, 10] n) (fun n => hasN [3] n))
  = bcond (decide (i < (n : Int))) (chks (chks (some (.normal, sSm (u.set (i.toNat * 1) (toByte (g (byI u i)))) n (up1 i))) [decide (0 ≤ byI u i ∧ byI u i < 256), ixN i n, inB u i && decide (0 ≤ g (byI u i) ∧ g (byI u i) < 256)]) [ixN i n, inB u i]) (some (.exit 0, sSmX u n)) := by kernel_rfl
def sbB (c : UInt8) : UInt8 := toByte (sbI (c.toNat : Int))
def smS (l : List UInt8) (p : Nat) : List UInt8 := (l.take p).map sbB ++ l.drop p
theorem smS_len {l : List UInt8} {p : Nat} (h : p ≤ l.length) : (smS l p).length = l.length := by unfold smS; simp; omega
theorem smS_get {l : List UInt8} {p : Nat} (h : p < l.length) : (smS l p).getD p 0 = l[p] := by
  unfold smS
  rw [List.drop_eq_getElem_cons h, List.getD_eq_getElem?_getD, List.getElem?_append_right (by simp; omega)]
  simp [show min p l.length = p by omega, List.getElem?_eq_getElem h]
theorem smS_next {l : List UInt8} {p : Nat} (h : p < l.length) : (smS l p).set p (sbB l[p]) = smS l (p + 1) := by
  have hl : ((l.take p).map sbB).length = p := by simp; omega
  unfold smS
  rw [List.drop_eq_getElem_cons h, List.take_succ_eq_append_getElem h, List.map_append, List.append_assoc, List.set_append_right _ _ (by omega), hl, Nat.sub_self]
  rfl
theorem sbI_bd {c : Int} (h : 0 ≤ c ∧ c < 256) : 0 ≤ sbI c ∧ sbI c < 256 := by
  unfold sbI
  by_cases g : 65 ≤ c ∧ c ≤ 90
  · rw [decide_eq_true g]; simp only [bcond]; omega
  · rw [decide_eq_false g]; simp only [bcond]; omega
theorem loopSm {l : List UInt8} (hl : l.length ≤ 9223372036854775807) : Tri Tryz.prog (.loop loopSml) (sSm l l.length 0).toA (.exit 0) (sSmX (l.map sbB) l.length).toA 0 := by
  have key := loop_rounds (ent_sound (T := [(97, eSb sbI)]) (.cons eSb_ok .nil) host nolv_ok (NF := 64) (m := 1) 20) (NF := 64) (m := 1) (x := loopSml) (K := 0) loops_none (fun n => hasN [3, 8, 9, 10] n) (fun n => hasN [3] n) (ι := { p : Nat // p ≤ l.length }) (fun p => sSm (smS l p.1) l.length (p.1 : Int)) (fun p => l.length - p.1) (fun p => (.exit 0, sSmX (l.map sbB) l.length)) ?_ (fun j => by simp) ⟨0, Nat.zero_le _⟩
  · have e : smS l 0 = l := by unfold smS; simp
    simp only [e] at key
    exact key
  rintro ⟨p, hp⟩
  simp only
  have rd := rSml sbI (smS l p) l.length (p : Int)
  by_cases h : p < l.length
  · have eb : byI (smS l p) (p : Int) = (l[p].toNat : Int) := by unfold byI; rw [Int.toNat_natCast, Nat.mul_one, byteAt_nat, smS_get h]
    have hb : 0 ≤ ((l[p].toNat : Nat) : Int) ∧ ((l[p].toNat : Nat) : Int) < 256 := ⟨by omega, by have := UInt8.toNat_lt l[p]; omega⟩
    have hi : inB (smS l p) (p : Int) = true := by unfold inB; rw [smS_len hp]; exact decide_eq_true (by omega)
    rw [bcT (decide_eq_true (by omega)), chks_true (all2 (ixN_nat h) hi), eb, chks_true (all3' (decide_eq_true hb) (ixN_nat h) (by rw [hi, decide_eq_true (sbI_bd hb)]; rfl)), up1_63 (by omega), Int.toNat_natCast, Nat.mul_one] at rd
    refine .inl ⟨⟨p + 1, h⟩, by simp only; omega, trivial, ?_⟩
    rw [rd, show toByte (sbI (l[p].toNat : Int)) = sbB l[p] from rfl, smS_next h]
  · obtain rfl : p = l.length := by omega
    rw [bcF (decide_eq_false (by omega))] at rd
    have e : smS l l.length = l.map sbB := by unfold smS; simp
    exact .inr (by rw [rd, e])
def outSm (n : Nat) (c : Bool) (u : List UInt8) : LAns := .chk c (.out (.exit 0) (sSmX u n))
noncomputable def lvSm (l : List UInt8) (c : Bool) (u : List UInt8) : FuncId → Lv := lvOf 46 (fun _ => some [3, 8, 9, 10]) (oneL 3 (eAt 0 (sSm l l.length 0) (outSm l.length c u)))
theorem sm_comes (l u : List UInt8) (c : Bool) : Comes [] (lvSm l c u) 46 [.str l] [] (.chk (eqSt (sSm l l.length 0) (sSm l l.length 0)) (.chk c (.chk (decide (l.length ≤ u.length)) (.ret (.str (u.take l.length)) [])))) := by unfold Comes; kernel_rfl
def smallL (l : List UInt8) : List UInt8 := l.map sbB
theorem eSmF_ok : EntOK Tryz.prog 46 (eSmF smallL) := fun args pre => by
  unfold eSmF
  split
  · rename_i l
    refine ⟨fun g => ?_, fun _ => trivial⟩
    have g := of_decide_eq_true g
    refine meets_ent (pre := []) (post := []) .nil host ((sm_comes l (smallL l) true).trans ?_) (lvOne_ok (x := loopSml) Tryz.func46 (by kernel_rfl) fun K t => eAt_ok (a := outSm l.length true (smallL l)) ⟨fun _ => loopSm (by omega), fun _ => trivial⟩ K t)
    have hl : (smallL l).length = l.length := by unfold smallL; simp
    rw [chkT (eqSt_refl _), chkT rfl, chkT (decide_eq_true (by omega)), ← hl, List.take_length]; rfl
  · trivial
end Go.Proofs.YtdomenmfkbfakaaGreatDoor

/- Layer 3: dec.Read and dec.Text as entries; what is told of a plain value as a text. -/
set_option linter.unusedVariables false
set_option linter.unusedSimpArgs false
namespace Go.Proofs.YtdomenmfkbfakaaGreatDoor
open Go Sx
theorem eRdF_ok : EntOK Tryz.prog 44 (eRdF Dq.readR) := fun args pre => by
  unfold eRdF
  split
  · exact ⟨fun g => Dq.read_meets _ (of_decide_eq_true g), fun _ => trivial⟩
  · trivial
/-- The text of a decimal. -/
def decS (m e : Int) : List UInt8 := (Dq.textR m e).1
theorem eDtF_ok : EntOK Tryz.prog 33 (eDtF decS) := fun args pre => by
  unfold eDtF
  split
  · rename_i m e
    refine ⟨fun g => ?_, fun _ => trivial⟩
    have h := Dq.text_meets m e
    have e2 : (Dq.textR m e).2 = 0 := by unfold Dq.textR; rw [if_pos g]
    rw [e2] at h
    exact h
  · trivial
section
variable (dt : Int → Int → List UInt8) (k m e : Int) (s : List UInt8) (b : Bool) (r h w f : Int)
def sT4 : List UInt8 := [84, 82, 85, 69]
def sF5 : List UInt8 := [70, 65, 76, 83, 69]
def wrT (g : Bool) (t : List UInt8) : Ans := .br (k == 1) (.chk g (rowA (txR t))) (.br (k == 2) (rowA (txR s)) (.br (k == 3) (.br b (rowA (txR sT4)) (rowA (txR sF5))) (rowA (txR []))))
end
def kT (k m e : Int) (s : List UInt8) (b : Bool) (t : List UInt8) : List CV := bcond (k == 1) (txR t) (bcond (k == 2) (txR s) (bcond (k == 3) (txR (bcond b sT4 sF5)) (txR [])))
theorem askT_comes (dt : Int → Int → List UInt8) (k m e : Int) (s : List UInt8) (b : Bool) (r h w f : Int) (hk : k = 0 ∨ k = 1 ∨ k = 2 ∨ k = 3) : Comes [(33, eDtF dt)] nolv 74 [vL k m e s b r h w .nilslice f] [] (wrT k s b (Dq.rightB m e) (dt m e)) := by
  rcases hk with rfl | rfl | rfl | rfl <;> (unfold Comes; kernel_rfl)
/-- A value as a text: which values, and what. -/
def qTx (x : List CV) : Bool := decide (0 ≤ rk x ∧ rk x ≤ 3) && (rk x != 1 || Dq.rightB (rm x) (re x))
def afT (dt : Int → Int → List UInt8) (x : List CV) : List CV := kT (rk x) (rm x) (re x) (rs x) (rb x) (dt (rm x) (re x))
theorem askT_ok {dt : Int → Int → List UInt8} (hr : EntOK Tryz.prog 33 (eDtF dt)) : EntOK Tryz.prog 74 (eAsk qTx (afT dt)) := fun args pre => by
  unfold eAsk
  split
  · rename_i k m e s b r h w f
    refine ⟨fun g => ?_, fun _ => trivial⟩
    have g : (decide (0 ≤ k ∧ k ≤ 3) && (k != 1 || Dq.rightB m e)) = true := g
    rw [Bool.and_eq_true, decide_eq_true_eq] at g
    refine meets_ent (pre := []) (post := []) (.cons hr .nil) host ((askT_comes dt k m e s b r h w f (by omega)).trans ?_) nolv_ok
    show (wrT k s b (Dq.rightB m e) (dt m e)).run pure2 = pure2 (vR (kT k m e s b (dt m e))) []
    unfold wrT kT
    cases h1 : k == 1 with
    | true =>
      have g2 := g.2
      rw [bne, h1] at g2
      rw [brT rfl, chkT (by simpa using g2)]; rfl
    | false => cases k == 2 with
      | true => rfl
      | false => cases k == 3 with
        | true => cases b <;> rfl
        | false => rfl
  · trivial
/-- Texts of signs below 128. -/
def ascB (c : UInt8) : Bool := Nat.ble 32 c.toNat && Nat.ble c.toNat 126
theorem Sg_asc : ∀ l : List UInt8, l.all ascB = true → Sg l
  | [], _ => .nil
  | c :: t, h => by
    rw [List.all_cons, Bool.and_eq_true] at h
    obtain ⟨h1, h2⟩ := h
    unfold ascB at h1
    rw [Bool.and_eq_true] at h1
    have a1 := Nat.le_of_ble_eq_true h1.1
    have a2 := Nat.le_of_ble_eq_true h1.2
    have e : signN [c] = 1 := by unfold signN; simp; omega
    have := Sg.cons (L := [c]) (t := t) (by rw [e]; decide) (by simp; omega) (by simp; omega) (Sg_asc t h2)
    rw [e] at this
    exact this
theorem chB_asc {d : Int} (h : 0 ≤ d ∧ d < 10) : ascB (Dq.chB d) = true := by
  have : d = 0 ∨ d = 1 ∨ d = 2 ∨ d = 3 ∨ d = 4 ∨ d = 5 ∨ d = 6 ∨ d = 7 ∨ d = 8 ∨ d = 9 := by omega
  rcases this with rfl | rfl | rfl | rfl | rfl | rfl | rfl | rfl | rfl | rfl <;> rfl
end Go.Proofs.YtdomenmfkbfakaaGreatDoor

/- Layer 3: what is told of a value that is right is right. -/
set_option linter.unusedVariables false
set_option linter.unusedSimpArgs false
namespace Go.Proofs.YtdomenmfkbfakaaGreatDoor
open Go Sx
theorem nearM_right {ds : List Int} (hd : Dc.Dig ds) (mx : Bool) : Dq.rightB (Dq.nearM mx ds).1 (Dq.nearM mx ds).2 = true := by
  unfold Dq.nearM
  cases h : Dq.nearGo ds 19 0 with
  | none => rfl
  | some p =>
    obtain ⟨N, e⟩ := p
    have hb := Dq.nearGo_bounds hd 19 0 N e rfl h
    have : (if mx = true then -N else N).natAbs = N.natAbs := by split <;> omega
    exact trimmedS_right ⟨hb.2.2.1, hb.2.2.2⟩ (by omega)
theorem readR_right (s : List UInt8) : Dq.rightB (Dq.readR s).1 (Dq.readR s).2.1 = true := by
  unfold Dq.readR
  split
  · split
    · exact nearM_right (Dc.digs_dig 88 (Dq.wrS s)) (Dq.minusB s)
    · rfl
  · rfl
theorem rig_nm {m e : Int} (h : Dq.rightB m e = true) : rigR isTx (nmR m e) = true := by
  show (Dq.rightB m e && zF 0 0 [] false 0 0 0 0) = true
  rw [h]; rfl
theorem rig_tx {s : List UInt8} (h : isTx s = true) : rigR isTx (txR s) = true := by
  show (isTx s && zF 0 0 [] false 0 0 0 0) = true
  rw [h]; rfl
theorem rig_tr (b : Bool) : rigR isTx (trR b) = true := by cases b <;> rfl
theorem rig_err {n : Int} (h : 1 ≤ n ∧ n ≤ 9) : rigR isTx (errR n) = true := by
  show (decide (1 ≤ n ∧ n ≤ 9) && zF 0 0 [] false 0 0 0 0) = true
  rw [decide_eq_true h]; rfl
theorem afN_right {x : List CV} (h : rk x = 1 → Dq.rightB (rm x) (re x) = true) : rigR isTx (afN Dq.readR x) = true := by
  unfold afN
  cases h1 : rk x == 1 with
  | true => exact rig_nm (h (beq_iff_eq.1 h1))
  | false => cases rk x == 3 with
    | true => cases rb x <;> exact rig_nm (by rfl)
    | false => cases rk x == 2 with
      | true => cases (Dq.readR (rs x)).2.2 != 0 with
        | true => exact rig_err (by decide)
        | false => exact rig_nm (readR_right _)
      | false => exact rig_nm (by rfl)
theorem afB_right (x : List CV) : rigR isTx (afB smallL x) = true := by
  unfold afB
  cases rk x == 1 with
  | true => exact rig_tr _
  | false => cases rk x == 3 with
    | true => exact rig_tr _
    | false => cases rk x == 2 with
      | true => cases smallL (rs x) == sTrue with
        | true => exact rig_tr _
        | false => cases smallL (rs x) == sFalse with
          | true => exact rig_tr _
          | false => exact rig_err (by decide)
      | false => exact rig_tr _
theorem txt_asc {ds : List Int} (hd : ∀ i, 0 ≤ ds.getD i 0 ∧ ds.getD i 0 ≤ 9) (a : Nat) : ∀ n, (Dq.txt ds a n).all ascB = true
  | 0 => rfl
  | n + 1 => by
    rw [Dq.txt, List.all_append, List.all_append, txt_asc hd a n]
    have h1 : ([Dq.chB (ds.getD (a + n) 0)] : List UInt8).all ascB = true := by rw [List.all_cons, chB_asc (by have := hd (a + n); omega)]; rfl
    rw [h1]
    split <;> rfl
theorem decS_ok {m e : Int} (h : Dq.rightB m e = true) : isTx (decS m e) = true := by
  have hd := Dc.digs_dig 88 (Dq.aV m e)
  unfold decS Dq.textR
  rw [if_pos h]
  unfold Dq.textB
  generalize Dq.fstGo (Dc.digs 88 (Dq.aV m e)) 47 0 = a
  have hb : Dq.lstGo (Dc.digs 88 (Dq.aV m e)) 40 88 ≤ 88 := (Dq.lstGo_ge _ 40 88 (by omega)).2
  generalize Dq.lstGo (Dc.digs 88 (Dq.aV m e)) 40 88 = b at *
  have h1 := txt_asc (fun i => hd.getD i) a (b - a)
  have h2 := Dq.txt_len (Dc.digs 88 (Dq.aV m e)) a (b - a)
  generalize Dq.txt (Dc.digs 88 (Dq.aV m e)) a (b - a) = t at *
  have hs : ((if decide (m < 0) = true then [45] else []) ++ t : List UInt8).all ascB = true := by
    rw [List.all_append, h1]; split <;> rfl
  unfold isTx
  rw [(Sg_asc _ hs).text, decide_eq_true (by rw [List.length_append]; split <;> simp <;> omega)]; rfl
theorem afT_right {x : List CV} (hk : rk x = 1 → Dq.rightB (rm x) (re x) = true) (ht : rk x = 2 → isTx (rs x) = true) : rigR isTx (afT decS x) = true := by
  unfold afT kT
  cases h1 : rk x == 1 with
  | true => exact rig_tx (decS_ok (hk (beq_iff_eq.1 h1)))
  | false => cases h2 : rk x == 2 with
    | true => exact rig_tx (ht (beq_iff_eq.1 h2))
    | false => cases rk x == 3 with
      | true => cases rb x <;> exact rig_tx (by kernel_rfl)
      | false => exact rig_tx (by kernel_rfl)
end Go.Proofs.YtdomenmfkbfakaaGreatDoor

/- Law 3: what is told of an array is told one by one (ValEach): the law's tree. -/
set_option linter.unusedVariables false
set_option linter.unusedSimpArgs false
namespace Go.Proofs.YtdomenmfkbfakaaGreatDoor
open Go Sx
open Classical in
/-- What is told, of arrays that are right and of plain values. -/
noncomputable def eToA (tx : List UInt8 → Bool) (af : List CV → List CV) (q : List CV → Bool) : Ent := fun args pre => match args, pre with
  | [.agg [.int .i64 k, .int .i64 m, .int .i64 e, .str s, .bool b, .int .i64 r, .int .i64 h, .int .i64 w, l, .int .i64 f, .nilslice, .nilslice]], [o] =>
    match rowsIn 0 l o with
    | some (a, R) => .chk (k == 5) (.chk (decide (okRows a R)) (.chk (rightA tx m e s b r h w f a R) (.chk (decide (okD q a R)) (.ret (vL 5 0 0 [] false 0 h w (.vec 1 a) 0) [o, vR34 (tldL af a R a)]))))
    | none => .fail
  | [.agg [.int .i64 k, .int .i64 m, .int .i64 e, .str s, .bool b, .int .i64 r, .int .i64 h, .int .i64 w, .nilslice, .int .i64 f, .nilslice, .nilslice]], [] =>
    .chk (decide (0 ≤ k ∧ k ≤ 4)) (.chk (decide (s.length ≤ 1000000)) (.chk (k == 4 || q (mkR k m e s b r h w f)) (.ret (vR (tellP tx af k m e s b r h w f)) [])))
  | _, _ => .fail
theorem eToA_ok {tx : List UInt8 → Bool} {af : List CV → List CV} {q : List CV → Bool} {g : FuncId} (h : EntOK Tryz.prog g (eTo tx af q)) : EntOK Tryz.prog g (eToA tx af q) := fun args pre => by
  have := h args pre
  unfold eTo at this
  unfold eToA
  split
  · split
    · rename_i hs
      simp only [hs] at this
      exact ⟨fun g1 => ⟨fun g2 => ⟨fun g3 => ((this.1 g1).1 g2).1 g3, fun _ => trivial⟩, fun _ => trivial⟩, fun _ => trivial⟩
    · trivial
  · exact this
  · trivial
section
variable (tx : List UInt8 → Bool) (H W i j : Int) (N : Nat) (L : List (List CV))
abbrev tellRa (af : List CV → List CV) (x : List CV) : List CV := tellP tx af (rk x) (rm x) (re x) (rs x) (rb x) (rr x) (rh x) (rw_ x) (rf x)
end
end Go.Proofs.YtdomenmfkbfakaaGreatDoor

/- Law 3: what is told of an array is told one by one (ValEach): it is so. -/
set_option linter.unusedVariables false
set_option linter.unusedSimpArgs false
set_option linter.unusedSectionVars false
namespace Go.Proofs.YtdomenmfkbfakaaGreatDoor
open Go Sx
theorem sameF_s {m e : Int} {s : List UInt8} {b : Bool} {r h w f : Int} (c : zF m e s b r h w f = true) : s = [] := by
  unfold zF sameF at c
  simp only [Bool.and_eq_true, beq_iff_eq] at c
  exact c.2.2.2.1
/-- What a plain value that is right is like. -/
theorem rightF_facts {k m e : Int} {s : List UInt8} {b : Bool} {r h w f : Int} (c : rightF isTx k m e s b r h w f = true) : (0 ≤ k ∧ k ≤ 4) ∧ s.length ≤ 200 ∧ (k = 1 → Dq.rightB m e = true) ∧ (k = 2 → isTx s = true) ∧ (k = 4 → 1 ≤ r ∧ r ≤ 9) := by
  unfold rightF at c
  split at c
  · rename_i hk; subst hk
    rw [sameF_s c]
    exact ⟨by decide, by simp, fun h => (by cases h), fun h => (by cases h), fun h => (by cases h)⟩
  split at c
  · rename_i _ hk; subst hk
    rw [Bool.and_eq_true] at c
    rw [sameF_s c.2]
    exact ⟨by decide, by simp, fun _ => c.1, fun h => (by cases h), fun h => (by cases h)⟩
  split at c
  · rename_i _ _ hk; subst hk
    rw [Bool.and_eq_true] at c
    have l := c.1
    unfold isTx at l
    rw [Bool.and_eq_true, decide_eq_true_eq] at l
    exact ⟨by decide, l.1, fun h => (by cases h), fun _ => c.1, fun h => (by cases h)⟩
  split at c
  · rename_i _ _ _ hk; subst hk
    rw [sameF_s c]
    exact ⟨by decide, by simp, fun h => (by cases h), fun h => (by cases h), fun h => (by cases h)⟩
  split at c
  · rename_i _ _ _ _ hk; subst hk
    rw [Bool.and_eq_true, decide_eq_true_eq] at c
    rw [sameF_s c.2]
    exact ⟨by decide, by simp, fun h => (by cases h), fun h => (by cases h), fun _ => c.1⟩
  · cases c
theorem rig_at {tx : List UInt8 → Bool} {R : List (List CV)} : ∀ (n i : Nat), rigFrom tx R n i = true → ∀ j, i ≤ j → j < i + n → rigR tx (Sx.rowAt R j) = true
  | 0, i, _, j, h1, h2 => by omega
  | n + 1, i, h, j, h1, h2 => by
    rw [rigFrom, Bool.and_eq_true] at h
    by_cases e : i = j
    · subst e; exact h.1
    · exact rig_at n (i + 1) h.2 j (by omega) (by omega)
theorem plR_of {x : List CV} (h : rigR isTx x = true) : plR x = true := by
  have := rightF_facts h
  unfold plR
  rw [decide_eq_true this.1, decide_eq_true (show (rs x).length ≤ 1000000 by omega)]; rfl
/-- What is asked of a function that tells of plain values: it takes those that are right, and what it tells is right. -/
def afOk (af : List CV → List CV) (q : List CV → Bool) : Prop := ∀ x, rigR isTx x = true → rk x ≠ 4 → rigR isTx (af x) = true ∧ q x = true
theorem afN_ok : afOk (afN Dq.readR) qLn := fun x h _ => by
  have c := rightF_facts h
  exact ⟨afN_right c.2.2.1, decide_eq_true (by omega)⟩
theorem afB_ok : afOk (afB smallL) qLn := fun x h _ => by
  have c := rightF_facts h
  exact ⟨afB_right x, decide_eq_true (by omega)⟩
theorem afT_ok : afOk (afT decS) qTx := fun x h h4 => by
  have c := rightF_facts h
  refine ⟨afT_right c.2.2.1 c.2.2.2.1, ?_⟩
  unfold qTx
  rw [decide_eq_true (by omega), Bool.true_and]
  by_cases h1 : rk x = 1
  · rw [c.2.2.1 h1, Bool.or_true]
  · rw [bne_iff_ne.2 h1]; rfl
section
variable {af : List CV → List CV} {q : List CV → Bool} (ha : afOk af q)
include ha
theorem q_row {x : List CV} (h : rigR isTx x = true) : (rk x == 4 || q (nrm x)) = true := by
  cases h4 : rk x == 4 with
  | true => rfl
  | false => exact (ha (nrm x) h (beq_eq_false_iff_ne.1 h4)).2
variable {H W : Int} {N : Nat} {L : List (List CV)} (h1 : 1 ≤ H ∧ H ≤ 5) (h2 : 1 ≤ W ∧ W ≤ 5) (hN : (N : Int) = H * W) (h25 : N ≤ 25) (hL : okRows N L) (rL : rigFrom isTx L N 0 = true)
include h1 h2 hN h25 hL rL
theorem okD_ar : okD q N L := ⟨hL.1, hL.2.1, fun i hi => by
  have := q_row ha (rig_at N 0 rL i (by omega) (by omega))
  rwa [Bool.or_eq_true] at this⟩
end
end Go.Proofs.YtdomenmfkbfakaaGreatDoor

/- Law 3: what is told of what is told (ValTwice): the law's tree. -/
set_option linter.unusedVariables false
set_option linter.unusedSimpArgs false
namespace Go.Proofs.YtdomenmfkbfakaaGreatDoor
open Go Sx
open Classical in
/-- Is a value right? It is. -/
noncomputable def eRigC (tx : List UInt8 → Bool) : Ent := fun args pre => match args, pre with
  | [.agg [.int .i64 k, .int .i64 m, .int .i64 e, .str s, .bool b, .int .i64 r, .int .i64 h, .int .i64 w, l, .int .i64 f, .nilslice, .nilslice]], [o] =>
    match rowsIn 0 l o with
    | some (a, R) => .chk (k == 5) (.chk (decide (okRows a R)) (.chk (rightA tx m e s b r h w f a R) (.ret (.bool true) [o])))
    | none => .fail
  | [.agg [.int .i64 k, .int .i64 m, .int .i64 e, .str s, .bool b, .int .i64 r, .int .i64 h, .int .i64 w, .nilslice, .int .i64 f, .nilslice, .nilslice]], [] =>
    .chk (decide (0 ≤ k ∧ k ≤ 4)) (.chk (decide (s.length ≤ 1000000)) (.chk (rightF tx k m e s b r h w f) (.ret (.bool true) [])))
  | _, _ => .fail
theorem eRigC_ok {tx : List UInt8 → Bool} (ht : EntOK Tryz.prog 51 (eIsT tx)) : EntOK Tryz.prog 27 (eRigC tx) := fun args pre => by
  have key := eRig_ok ht args pre
  unfold eRig at key
  unfold eRigC
  split
  · split
    · rename_i hs
      simp only [hs] at key
      refine ⟨fun g1 => ⟨fun g2 => ⟨fun g3 => ?_, fun _ => trivial⟩, fun _ => trivial⟩, fun _ => trivial⟩
      have := (key.1 g1).1 g2
      rw [g3] at this
      exact this
    · trivial
  · refine ⟨fun g1 => ⟨fun g2 => ⟨fun g3 => ?_, fun _ => trivial⟩, fun _ => trivial⟩, fun _ => trivial⟩
    have := (key.1 g1).1 g2
    rw [g3] at this
    exact this
  · trivial
/-- Are two values the same? They are. -/
def eSamC : Ent := fun args pre => match args, pre with
  | [.agg [.int .i64 k, .int .i64 m, .int .i64 e, .str s, .bool b, .int .i64 r, .int .i64 h, .int .i64 w, l, .int .i64 f, .nilslice, .nilslice], .agg [.int .i64 k', .int .i64 m', .int .i64 e', .str s', .bool b', .int .i64 r', .int .i64 h', .int .i64 w', l', .int .i64 f', .nilslice, .nilslice]], [o, o'] =>
    match rowsIn 0 l o, rowsIn 1 l' o' with
    | some (a, R), some (a', S) => .chk (decide (a ≤ R.length ∧ a' ≤ S.length ∧ a < 1000000000)) (.chk (sameF k m e s b r h w f k' m' e' s' b' r' h' w' f' && eqRows a a' R S) (.ret (.bool true) [o, o']))
    | _, _ => .fail
  | [.agg [.int .i64 k, .int .i64 m, .int .i64 e, .str s, .bool b, .int .i64 r, .int .i64 h, .int .i64 w, .nilslice, .int .i64 f, .nilslice, .nilslice], .agg [.int .i64 k', .int .i64 m', .int .i64 e', .str s', .bool b', .int .i64 r', .int .i64 h', .int .i64 w', .nilslice, .int .i64 f', .nilslice, .nilslice]], [] =>
    .chk (sameF k m e s b r h w f k' m' e' s' b' r' h' w' f') (.ret (.bool true) [])
  | _, _ => .fail
theorem eSamC_ok : EntOK Tryz.prog 26 eSamC := fun args pre => by
  unfold eSamC
  split
  · split
    · rename_i k m e s b r h w l f k' m' e' s' b' r' h' w' l' f' o o' _ _ a R a' S hs hs'
      have key := eSam_ok [vL k m e s b r h w l f, vL k' m' e' s' b' r' h' w' l' f'] [o, o']
      simp only [eSam, hs, hs'] at key
      refine ⟨fun g1 => ⟨fun g2 => ?_, fun _ => trivial⟩, fun _ => trivial⟩
      have := key.1 g1
      rw [g2] at this
      exact this
    · trivial
  · rename_i k m e s b r h w f k' m' e' s' b' r' h' w' f'
    refine ⟨fun g1 => ?_, fun _ => trivial⟩
    have := eSamP_ok [vL k m e s b r h w .nilslice f, vL k' m' e' s' b' r' h' w' .nilslice f'] []
    simp only [eSamP] at this
    rw [g1] at this
    exact this
  · trivial
noncomputable def tTw (f : FV) (tx : List UInt8 → Bool) (a1 a2 a3 : List CV → List CV) (q1 q2 q3 : List CV → Bool) : Tab := [(11, eTrue), (12, eVal f), (13, eArr f), (29, eToA tx a1 q1), (30, eToA tx a2 q2), (31, eToA tx a3 q3), (26, eSamC), (27, eRigC tx)]
section
variable (tx : List UInt8 → Bool)
/-- What is asked where a plain value is told of; where it is held to be right; where two are held to be the same. -/
def pqT (q : List CV → Bool) (x : List CV) (X : Ans) : Ans := .chk (decide (0 ≤ rk x ∧ rk x ≤ 4)) (.chk (decide ((rs x).length ≤ 1000000)) (.chk (rk x == 4 || q (nrm x)) X))
def prT (x : List CV) (X : Ans) : Ans := .chk (decide (0 ≤ rk x ∧ rk x ≤ 4)) (.chk (decide ((rs x).length ≤ 1000000)) (.chk (rigR tx x) X))
def psT (x y : List CV) (X : Ans) : Ans := .chk (samR x y) X
variable (H W : Int) (N : Nat)
open Classical in
noncomputable def aqT (q : List CV → Bool) (M : List (List CV)) (X : Ans) : Ans := .chk (decide (okRows N M)) (.chk (rightA tx 0 0 [] false 0 H W 0 N M) (.chk (decide (okD q N M)) X))
open Classical in
noncomputable def arT (M : List (List CV)) (X : Ans) : Ans := .chk (decide (okRows N M)) (.chk (rightA tx 0 0 [] false 0 H W 0 N M) X)
def asT (M S : List (List CV)) (X : Ans) : Ans := .chk (decide (N ≤ M.length ∧ N ≤ S.length ∧ N < 1000000000)) (.chk (sameF 5 0 0 [] false 0 H W 0 5 0 0 [] false 0 H W 0 && eqRows N N M S) X)
end
section
variable (f : FV) (tx : List UInt8 → Bool) (a1 a2 a3 : List CV → List CV) (q1 q2 q3 : List CV → Bool)
def plTw (x n t b : List CV) (R : List (List CV)) : Ans :=
  pqT q1 x (pqT q2 x (pqT q3 x (prT tx n (prT tx t (prT tx b
    (pqT q1 n (psT (tellRa tx a1 n) n (pqT q2 t (psT (tellRa tx a2 t) t (pqT q3 b (psT (tellRa tx a3 b) b
      (pqT q2 n (pqT q1 (tellRa tx a2 n) (psT (tellRa tx a1 (tellRa tx a2 n)) n (pqT q1 b (pqT q3 (tellRa tx a1 b) (psT (tellRa tx a3 (tellRa tx a1 b)) b (fwB R true))))))))))))))))))
noncomputable def arTw (H W : Int) (N : Nat) (L n t b : List (List CV)) (R : List (List CV)) : Ans :=
  aqT tx H W N q1 L (aqT tx H W N q2 L (aqT tx H W N q3 L (arT tx H W N n (arT tx H W N t (arT tx H W N b
    (aqT tx H W N q1 n (asT H W N (tldL a1 N n N) n (aqT tx H W N q2 t (asT H W N (tldL a2 N t N) t (aqT tx H W N q3 b (asT H W N (tldL a3 N b N) b
      (aqT tx H W N q2 n (aqT tx H W N q1 (tldL a2 N n N) (asT H W N (tldL a1 N (tldL a2 N n N) N) n (aqT tx H W N q1 b (aqT tx H W N q3 (tldL a1 N b N) (asT H W N (tldL a3 N (tldL a1 N b N) N) b (fwB R true))))))))))))))))))
variable (k m e : Int) (s : List UInt8) (b : Bool) (a : Nat) (R : List (List CV))
end
end Go.Proofs.YtdomenmfkbfakaaGreatDoor

/- Law 3: what is told of what is told (ValTwice): the tree of a plain value. -/
set_option linter.unusedVariables false
set_option linter.unusedSimpArgs false
namespace Go.Proofs.YtdomenmfkbfakaaGreatDoor
open Go Sx
section
variable (f : FV) (tx : List UInt8 → Bool) (a1 a2 a3 : List CV → List CV) (q1 q2 q3 : List CV → Bool)
variable (k m e : Int) (s : List UInt8) (b : Bool) (a : Nat) (R : List (List CV))
theorem tw_comes0 : Comes (tTw f tx a1 a2 a3 q1 q2 q3) nolv 7 [.agg [.int .i64 k, .int .i64 m, .int .i64 e, .str s, .bool b], .dsl 0 a, .bool false] [fW R]
  (.chk (inI k) (.chk (inI m) (.chk (inI e) (.chk (decide (s.length ≤ 9223372036854775807))
    (plTw tx a1 a2 a3 q1 q2 q3 (f k m e s b) (tellRa tx a1 (f k m e s b)) (tellRa tx a2 (f k m e s b)) (tellRa tx a3 (f k m e s b)) R))))) := by unfold Comes; kernel_rfl
end
end Go.Proofs.YtdomenmfkbfakaaGreatDoor

/- Law 3: what is told of what is told (ValTwice): the tree of an array. -/
set_option linter.unusedVariables false
set_option linter.unusedSimpArgs false
namespace Go.Proofs.YtdomenmfkbfakaaGreatDoor
open Go Sx
section
variable (f : FV) (tx : List UInt8 → Bool) (a1 a2 a3 : List CV → List CV) (q1 q2 q3 : List CV → Bool)
variable (k m e : Int) (s : List UInt8) (b : Bool) (a : Nat) (R : List (List CV))
open Classical in
theorem tw_comes1 : Comes (tTw f tx a1 a2 a3 q1 q2 q3) nolv 7 [.agg [.int .i64 k, .int .i64 m, .int .i64 e, .str s, .bool b], .dsl 0 a, .bool true] [fW R]
  (.chk (inI k) (.chk (inI m) (.chk (inI e) (.chk (decide (s.length ≤ 9223372036854775807)) (.chk (inI k) (.chk (inI e) (.chk (decide (okW a R))
    (arTw tx a1 a2 a3 q1 q2 q3 (sz5 k) (sz5 e) (nA k e) (arL f a R (nA k e)) (tldL a1 (nA k e) (arL f a R (nA k e)) (nA k e)) (tldL a2 (nA k e) (arL f a R (nA k e)) (nA k e)) (tldL a3 (nA k e) (arL f a R (nA k e)) (nA k e)) R)))))))) := by unfold Comes; kernel_rfl
end
end Go.Proofs.YtdomenmfkbfakaaGreatDoor

/- Layer 1: what is written of a decimal is read as that decimal. -/
set_option linter.unusedVariables false
set_option linter.unusedSimpArgs false
set_option maxRecDepth 20000
namespace Go.Proofs.YtdomenmfkbfakaaGreatDoor.Dq
open Go Sx Dc

/-- So many figures from one on, as bytes. -/
def sg (ds : List Int) (i n : Nat) : List UInt8 := ((ds.drop i).take n).map chB
theorem chB_ok {d : Int} (h : 0 ≤ d ∧ d ≤ 9) : (chB d).toNat = (48 + d).toNat := by
  unfold chB
  rw [UInt8.toNat_ofNat']
  exact Nat.mod_eq_of_lt (by omega)
theorem sg_ok {ds : List Int} (hd : Dig ds) {i n : Nat} : ∀ b ∈ sg ds i n, okDig b := by
  intro b hb
  obtain ⟨d, hm, rfl⟩ := List.mem_map.1 hb
  have h := hd d (List.mem_of_mem_drop (List.mem_of_mem_take hm))
  unfold okDig
  rw [chB_ok h]; omega
theorem okDig_ne {b : UInt8} (h : okDig b) : b ≠ 46 ∧ b ≠ 45 := by
  unfold okDig at h
  constructor
  · rintro rfl; revert h; decide
  · rintro rfl; revert h; decide
theorem sg_bytes {ds : List Int} (hd : Dig ds) (i n : Nat) : bytesD (sg ds i n) = (ds.drop i).take n := by
  unfold bytesD sg
  rw [List.map_map]
  have : ∀ d ∈ (ds.drop i).take n, ((fun b : UInt8 => (b.toNat : Int) - 48) ∘ chB) d = d := by
    intro d hm
    have h := hd d (List.mem_of_mem_drop (List.mem_of_mem_take hm))
    simp only [Function.comp, chB_ok h]; omega
  rw [List.map_congr_left this, List.map_id']
theorem sg_length {ds : List Int} {i n : Nat} (h : i + n ≤ ds.length) : (sg ds i n).length = n := by
  unfold sg; simp; omega
theorem sg_succ {ds : List Int} {i n : Nat} (h : i + n < ds.length) : sg ds i (n + 1) = sg ds i n ++ [chB (ds.getD (i + n) 0)] := by
  unfold sg
  rw [List.take_succ_eq_append_getElem (by simp; omega), List.map_append]
  simp [List.getD, h]
theorem txt_left {ds : List Int} (hl : ds.length = 88) (a : Nat) : ∀ n, a + n ≤ 48 → txt ds a n = sg ds a n
  | 0, _ => by simp [txt, sg]
  | n + 1, h => by
    rw [txt, txt_left hl a n (by omega), if_neg (by omega), sg_succ (by omega)]; simp
theorem txt_right {ds : List Int} (hl : ds.length = 88) (a : Nat) (ha : a ≤ 48) : ∀ k, 48 + k ≤ 88 → txt ds a (48 - a + k) = sg ds a (48 - a) ++ (if k = 0 then [] else 46 :: sg ds 48 k)
  | 0, _ => by rw [if_pos rfl, Nat.add_zero, txt_left hl a _ (by omega)]; simp
  | k + 1, h => by
    rw [← Nat.add_assoc, txt, txt_right hl a ha k (by omega), show a + (48 - a + k) = 48 + k by omega, sg_succ (by omega), if_neg (by omega : ¬ k + 1 = 0)]
    by_cases hk : k = 0
    · subst hk
      rw [if_pos rfl, if_pos rfl]; simp [sg]
    · rw [if_neg hk, if_neg (by omega)]; simp

theorem idx46_dot : ∀ (W P : List UInt8), (∀ b ∈ W, b ≠ 46) → idx46 (W ++ 46 :: P) = W.length
  | [], P, _ => by simp [idx46, Lib.indexByte]
  | w :: W, P, h => by
    have ih := idx46_dot W P fun b hb => h b (by simp [hb])
    have hw := h w (by simp)
    unfold idx46 at *
    rw [List.cons_append, Lib.indexByte, if_neg (by simpa using hw), ih, if_neg (by simp), List.length_cons]; omega
theorem idx46_no : ∀ (W : List UInt8), (∀ b ∈ W, b ≠ 46) → idx46 W = -1
  | [], _ => by simp [idx46, Lib.indexByte]
  | w :: W, h => by
    have ih := idx46_no W fun b hb => h b (by simp [hb])
    have hw := h w (by simp)
    unfold idx46 at *
    rw [Lib.indexByte, if_neg (by simpa using hw), ih, if_pos (by simp)]
theorem whole_of {W P : List UInt8} (k : Nat) (h : ∀ b ∈ W, b ≠ 46) (hP : k = 0 → P = []) : wholeS (W ++ (if k = 0 then [] else 46 :: P)) = W ∧ partS (W ++ (if k = 0 then [] else 46 :: P)) = P ∧ (decide (0 ≤ idx46 (W ++ (if k = 0 then [] else 46 :: P))) = !decide (k = 0)) := by
  unfold wholeS partS
  by_cases hk : k = 0
  · simp only [if_pos hk, List.append_nil, idx46_no W h]
    rw [if_neg (by omega), if_neg (by omega), hP hk]
    simp [hk]
  · simp only [if_neg hk, idx46_dot W P h]
    rw [if_pos (by omega), if_pos (by omega)]
    simp [hk]

theorem fstGo_zero (ds : List Int) : ∀ (f k i : Nat), k ≤ i → i < fstGo ds f k → ds.getD i 0 = 0
  | 0, k, i, h1, h2 => by simp only [fstGo] at h2; omega
  | f + 1, k, i, h1, h2 => by
    rw [fstGo] at h2
    split at h2
    · rename_i hc
      by_cases e : i = k
      · subst e; exact hc.2
      · exact fstGo_zero ds f (k + 1) i (by omega) h2
    · omega
theorem fstGo_end (ds : List Int) : ∀ (f k : Nat), f + k = 47 → fstGo ds f k = 47 ∨ ds.getD (fstGo ds f k) 0 ≠ 0
  | 0, k, h => .inl (by simp only [fstGo]; omega)
  | f + 1, k, h => by
    rw [fstGo]
    split
    · exact fstGo_end ds f (k + 1) (by omega)
    · rename_i hc
      exact .inr fun h0 => hc ⟨by omega, h0⟩
theorem lstGo_zero (ds : List Int) : ∀ (f k i : Nat), lstGo ds f k ≤ i → i < k → ds.getD i 0 = 0
  | 0, k, i, h1, h2 => by simp only [lstGo] at h1; omega
  | f + 1, k, i, h1, h2 => by
    rw [lstGo] at h1
    split at h1
    · rename_i hc
      by_cases e : i = k - 1
      · subst e; exact hc.2
      · exact lstGo_zero ds f (k - 1) i h1 (by omega)
    · omega
theorem val_zero_of {l : List Int} (h : Dig l) (hz : ∀ i, i < l.length → l.getD i 0 = 0) : val l = 0 := by
  rw [val_zero_iff h]
  intro d hd
  obtain ⟨i, hi, rfl⟩ := List.getElem_of_mem hd
  have := hz i hi
  simpa [List.getD, hi] using this
theorem getD_drop (l : List Int) (b i : Nat) : (l.drop b).getD i 0 = l.getD (b + i) 0 := by
  simp [List.getD]
theorem getD_take {l : List Int} {b i : Nat} (h : i < b) : (l.take b).getD i 0 = l.getD i 0 := by
  simp [List.getD, List.getElem?_take, h]


theorem val_take_digs {X : Int} {w : Nat} (hw : w ≤ 88) (hX : 0 ≤ X ∧ X < 10 ^ 88) : val ((digs 88 X).take w) = X / 10 ^ (88 - w) := by
  rw [digs_take _ hw, val_digs _ _ (Int.ediv_nonneg hX.1 (Int.le_of_lt (pow_pos' _)))]
  refine Int.ediv_lt_of_lt_mul (pow_pos' _) ?_
  rw [← Int.pow_add, show w + (88 - w) = 88 by omega]; exact hX.2
theorem val_drop_digs {X : Int} {w : Nat} (hw : w ≤ 88) : val ((digs 88 X).drop w) = X % 10 ^ (88 - w) := by
  rw [digs_drop _ hw, val_digs_mod]
theorem right_spec {m e : Int} (h : rightB m e = true) : -999999999999999 ≤ m ∧ m ≤ 999999999999999 ∧ -9 ≤ e ∧ e ≤ 9 ∧ (m = 0 → e = 0) ∧ (m ≠ 0 → e = 9 ∨ m.tmod 10 ≠ 0) := by
  simpa only [rightB, decide_eq_true_eq] using h
theorem aV_bounds {m e : Int} (hm : -1000000000000000 < m ∧ m < 1000000000000000) (he : -18 ≤ e ∧ e ≤ 18) : 0 ≤ aV m e ∧ aV m e < 10 ^ 73 := by
  have a1 : (10 : Int) ^ (e + 40).toNat ≤ 10 ^ 58 := pow_mono (by omega)
  have hp := pow_pos' (e + 40).toNat
  have a2 : (m.natAbs : Int) * 10 ^ (e + 40).toNat ≤ (10 ^ 15 - 1) * 10 ^ 58 := Int.mul_le_mul (by omega) a1 (by omega) (by decide)
  have a3 : ((10 : Int) ^ 15 - 1) * 10 ^ 58 < 10 ^ 73 := by decide
  have a4 : 0 ≤ (m.natAbs : Int) * 10 ^ (e + 40).toNat := Int.mul_nonneg (by omega) (by omega)
  unfold aV; omega
/-- The text of a number below ten to 73, parted at its point: what it is worth. -/
theorem parts_val {X : Int} (hX : 0 ≤ X ∧ X < 10 ^ 73) : ∃ a k : Nat, 15 ≤ a ∧ a ≤ 47 ∧ k ≤ 40 ∧ txt (digs 88 X) (fstGo (digs 88 X) 47 0) (lstGo (digs 88 X) 40 88 - fstGo (digs 88 X) 47 0) = sg (digs 88 X) a (48 - a) ++ (if k = 0 then [] else 46 :: sg (digs 88 X) 48 k) ∧
    val ((digs 88 X).drop a |>.take (48 - a)) * 10 ^ 40 + val (((digs 88 X).drop 48).take k) * 10 ^ (40 - k) = X := by
  have hl := digs_length 88 X
  have hd := digs_dig 88 X
  have hX88 : X < 10 ^ 88 := Int.lt_trans hX.2 (by decide)
  obtain ⟨a, ha⟩ : ∃ a, fstGo (digs 88 X) 47 0 = a := ⟨_, rfl⟩
  obtain ⟨b, hb⟩ : ∃ b, lstGo (digs 88 X) 40 88 = b := ⟨_, rfl⟩
  have a1 := fstGo_le (digs 88 X) 47 0 (by omega)
  have b1 := lstGo_ge (digs 88 X) 40 88 (by omega)
  have a2 := fstGo_zero (digs 88 X) 47 0
  have a3 := fstGo_end (digs 88 X) 47 0 (by omega)
  have b2 := lstGo_zero (digs 88 X) 40 88
  rw [ha] at a1 a2 a3
  rw [hb] at b1 b2
  have a15 : 15 ≤ a := by
    rcases Nat.lt_or_ge a 15 with g | g
    · exfalso
      rcases a3 with h | h
      · omega
      · apply h
        rw [digs_get X (by omega)]
        have hle : (10 : Int) ^ 73 ≤ 10 ^ (88 - 1 - a) := pow_mono (by omega)
        rw [Int.ediv_eq_zero_of_lt hX.1 (by omega)]; rfl
    · exact g
  refine ⟨a, b - 48, a15, a1, by omega, ?_, ?_⟩
  · rw [ha, hb, show b - a = 48 - a + (b - 48) by omega]
    exact txt_right hl a (by omega) _ (by omega)
  · have v1 : val ((digs 88 X).take 48) = X / 10 ^ 40 := val_take_digs (by omega) ⟨hX.1, hX88⟩
    have v2 : val ((digs 88 X).drop 48) = X % 10 ^ 40 := val_drop_digs (by omega)
    generalize hds : digs 88 X = ds at *
    have t1 : ds.take 48 = ds.take a ++ (ds.drop a).take (48 - a) := by
      have := List.take_append_drop a (ds.take 48)
      rw [List.take_take, Nat.min_eq_left (by omega), List.drop_take] at this
      exact this.symm
    have z1 : val (ds.take a) = 0 := val_zero_of (hd.take a) fun i hi => by
      rw [List.length_take] at hi
      rw [getD_take (by omega)]; exact a2 i (by omega) (by omega)
    rw [t1, val_append, z1, Int.zero_mul, Int.zero_add] at v1
    have t2 : ds.drop 48 = (ds.drop 48).take (b - 48) ++ ds.drop b := by
      have := List.take_append_drop (b - 48) (ds.drop 48)
      rw [List.drop_drop, show 48 + (b - 48) = b by omega] at this
      exact this.symm
    have z2 : val (ds.drop b) = 0 := val_zero_of (hd.drop b) fun i hi => by
      rw [List.length_drop] at hi
      rw [getD_drop]; exact b2 (b + i) (by omega) (by omega)
    have l2 : (ds.drop b).length = 88 - b := by rw [List.length_drop, hl]
    rw [t2, val_append, z2, Int.add_zero, l2] at v2
    rw [v1, show 40 - (b - 48) = 88 - b by omega, v2]
    have := Int.mul_ediv_add_emod X (10 ^ 40)
    rw [Int.mul_comm] at this
    exact this

theorem isDigs_of {s : List UInt8} (h1 : s ≠ []) (h2 : s.length ≤ 40) (h3 : ∀ b ∈ s, okDig b) : isDigs s = true := decide_eq_true ⟨h1, h2, h3⟩

theorem evenN_exact {c : Int} {w : Nat} (h2 : w ≤ 87) (hX : 0 ≤ c * 10 ^ (88 - w) ∧ c * 10 ^ (88 - w) < 10 ^ 88) : evenN (digs 88 (c * 10 ^ (88 - w))) w = c := by
  have e1 : val ((digs 88 (c * 10 ^ (88 - w))).take w) = c := by rw [val_take_digs (by omega) hX, Int.mul_ediv_cancel _ (Int.ne_of_gt (pow_pos' _))]
  have e2 : val ((digs 88 (c * 10 ^ (88 - w))).drop w) = 0 := by rw [val_drop_digs (by omega), Int.mul_emod_left]
  have e3 : ((digs 88 (c * 10 ^ (88 - w))).drop w).length = 88 - w := by rw [List.length_drop, digs_length]
  have hp := pow_pos' (88 - w - 1)
  unfold evenN upB
  rw [e1, e2, e3, if_neg (by rw [decide_eq_true_eq]; omega)]
theorem near_from {m e : Int} (hb : -999999999999999 ≤ m ∧ m ≤ 999999999999999 ∧ -9 ≤ e ∧ e ≤ 9) : ∀ (k j f : Nat), (j : Int) + k = e + 9 → f + j = 19 → ∃ k' : Nat, k' ≤ k ∧ nearGo (digs 88 (aV m e)) f j = some (((m.natAbs : Nat) : Int) * 10 ^ k', e - k') := by
  have hV := aV_bounds (m := m) (e := e) (by omega) (by omega)
  have h73 : (10 : Int) ^ 73 ≤ 10 ^ 88 := by decide
  have ev : ∀ k j : Nat, (j : Int) + k = e + 9 → evenN (digs 88 (aV m e)) (57 - j) = ((m.natAbs : Nat) : Int) * 10 ^ k := fun k j h => by
    have he : aV m e = (((m.natAbs : Nat) : Int) * 10 ^ k) * 10 ^ (88 - (57 - j)) := by
      unfold aV; rw [Int.mul_assoc, ← Int.pow_add]; congr 2; omega
    have := evenN_exact (c := ((m.natAbs : Nat) : Int) * 10 ^ k) (w := 57 - j) (by omega) (by rw [← he]; omega)
    rw [← he] at this; exact this
  intro k
  induction k with
  | zero =>
    intro j f h1 h2
    obtain ⟨g, rfl⟩ : ∃ g, f = g + 1 := ⟨f - 1, by omega⟩
    refine ⟨0, Nat.le_refl _, ?_⟩
    rw [nearGo, ev 0 j h1, Int.pow_zero, Int.mul_one, if_pos (by omega)]
    congr 2; omega
  | succ k ih =>
    intro j f h1 h2
    obtain ⟨g, rfl⟩ : ∃ g, f = g + 1 := ⟨f - 1, by omega⟩
    rw [nearGo, ev (k + 1) j h1]
    split
    · refine ⟨k + 1, Nat.le_refl _, ?_⟩
      congr 2; omega
    · obtain ⟨k', h3, h4⟩ := ih (j + 1) g (by omega) (by omega)
      exact ⟨k', by omega, h4⟩
theorem trim_back {m e : Int} (hr : m ≠ 0 → e = 9 ∨ m.tmod 10 ≠ 0) (h0 : m ≠ 0) (he : e ≤ 9) : ∀ (k n : Nat), (n : Int) = 9 - (e - k) → trimD n (m * 10 ^ k) (e - k) = (m, e)
  | 0, n, h => by
    rw [Int.pow_zero, Int.mul_one, show e - ((0 : Nat) : Int) = e by omega]
    cases n with
    | zero => rfl
    | succ n =>
      rw [trimD, if_neg]
      rcases hr h0 with h | h
      · omega
      · exact h
  | k + 1, n, h => by
    obtain ⟨p, rfl⟩ : ∃ p, n = p + 1 := ⟨n - 1, by omega⟩
    have e1 : m * 10 ^ (k + 1) = (m * 10 ^ k) * 10 := by rw [Int.pow_succ, Int.mul_assoc]
    rw [trimD, e1, if_pos (Int.mul_tmod_left _ _), Int.mul_tdiv_cancel _ (by decide), show e - ((k + 1 : Nat) : Int) + 1 = e - (k : Int) by omega]
    exact trim_back hr h0 he k p (by omega)
theorem near_parts {m e : Int} (h : rightB m e = true) : nearM (decide (m < 0)) (digs 88 (aV m e)) = (m, e) ∧ nearE (digs 88 (aV m e)) = 0 := by
  have hs := right_spec h
  by_cases h0 : m = 0
  · subst h0
    obtain rfl := hs.2.2.2.2.1 rfl
    exact ⟨by decide +kernel, by decide +kernel⟩
  · obtain ⟨k, hk, hg⟩ := near_from (m := m) (e := e) (by omega) (e + 9).toNat 0 19 (by omega) rfl
    unfold nearM nearE
    rw [hg]
    refine ⟨?_, rfl⟩
    have hm : (if decide (m < 0) = true then -(((m.natAbs : Nat) : Int) * 10 ^ k) else ((m.natAbs : Nat) : Int) * 10 ^ k) = m * 10 ^ k := by
      by_cases hn : m < 0
      · rw [if_pos (decide_eq_true hn), ← Int.neg_mul]; congr 1; omega
      · rw [if_neg (by simpa using hn)]; congr 1; omega
    show trimmedS _ _ = _
    rw [hm]
    unfold trimmedS
    rw [if_neg (Int.mul_ne_zero h0 (Int.ne_of_gt (pow_pos' _)))]
    exact trim_back hs.2.2.2.2.2 h0 (by omega) k _ (by omega)

/-- A text of these parts is read as the decimal. -/
theorem read_parts {m e : Int} (h : rightB m e = true) {pre W P s : List UInt8} {k : Nat} (hb : bodyS s = (pre ++ W) ++ (if k = 0 then [] else 46 :: P)) (hm : minusB s = decide (m < 0)) (hpre : pre = [] ∨ pre = [48]) (hW : ∀ b ∈ W, okDig b) (hP : ∀ b ∈ P, okDig b)
    (lW : 0 < W.length ∧ W.length ≤ 39) (lP : P.length = k ∧ k ≤ 40) (hv : val (bytesD W) * 10 ^ 40 + val (bytesD P) * 10 ^ (40 - k) = aV m e) : readR s = (m, e, 0) := by
  have hpW : ∀ b ∈ pre ++ W, okDig b := by
    intro b hb
    rcases List.mem_append.1 hb with g | g
    · rcases hpre with rfl | rfl
      · cases g
      · rw [List.mem_singleton.1 g]; unfold okDig; decide
    · exact hW b g
  have hlp : pre.length ≤ 1 := by rcases hpre with rfl | rfl <;> simp
  obtain ⟨w1, w2, w3⟩ := whole_of (W := pre ++ W) (P := P) k (fun b hb => (okDig_ne (hpW b hb)).1) (fun hk => List.length_eq_zero_iff.1 (by omega))
  have hok : okW s = true := by
    rw [okW_spec, hb, w1, w2, w3]
    refine ⟨isDigs_of (fun h0 => ?_) (by simp; omega) hpW, fun hk => isDigs_of (fun h0 => ?_) (by omega) hP⟩
    · have := congrArg List.length h0; rw [List.length_append] at this; simp only [List.length_nil] at this; omega
    · have := lP.1; rw [h0] at this; simp at this hk; omega
  have hwr : wrS s = aV m e := by
    unfold wrS wrV
    rw [hb, w1, w2, lP.1, ← hv]
    congr 2
    rcases hpre with rfl | rfl
    · rfl
    · show val (bytesD (48 :: W)) = _
      have : bytesD (48 :: W) = 0 :: bytesD W := rfl
      rw [this, val_cons]; omega
  obtain ⟨n1, n2⟩ := near_parts h
  unfold readR
  rw [if_pos hok, hwr, hm, n1, n2, if_pos ⟨rfl, rfl⟩]

theorem minus_app {pre W rest : List UInt8} (hW : ∀ b ∈ pre ++ W, okDig b) (h0 : 0 < (pre ++ W).length) : minusB ((pre ++ W) ++ rest) = false := by
  generalize pre ++ W = V at *
  cases V with
  | nil => simp at h0
  | cons v V =>
    have := (okDig_ne (hW v (by simp))).2
    simp [minusB, this]

theorem text_law {m e : Int} (h : rightB m e = true) : ∃ t : List UInt8, textR m e = (t, 0) ∧ readR t = (m, e, 0) ∧ (m < 0 → readR ([48] ++ t) = (0, 0, 12)) ∧ (¬ m < 0 → readR ([48] ++ t) = (m, e, 0)) ∧ t.length ≤ 200 := by
  have hr := right_spec h
  have hX := aV_bounds (m := m) (e := e) (by omega) (by omega)
  obtain ⟨a, k, a1, a2, k1, ht, hv⟩ := parts_val hX
  obtain ⟨ds, hds⟩ : ∃ ds, digs 88 (aV m e) = ds := ⟨_, rfl⟩
  have hl : ds.length = 88 := by rw [← hds, digs_length]
  have hd : Dig ds := by rw [← hds]; exact digs_dig _ _
  rw [hds] at ht hv
  have hW : ∀ b ∈ sg ds a (48 - a), okDig b := sg_ok hd
  have hP : ∀ b ∈ sg ds 48 k, okDig b := sg_ok hd
  have lW : (sg ds a (48 - a)).length = 48 - a := sg_length (by omega)
  have lP : (sg ds 48 k).length = k := sg_length (by omega)
  rw [← sg_bytes hd, ← sg_bytes hd] at hv
  generalize sg ds a (48 - a) = W at *
  generalize sg ds 48 k = P at *
  have hT : textR m e = ((if decide (m < 0) = true then [45] else []) ++ (W ++ (if k = 0 then [] else 46 :: P)), 0) := by
    unfold textR textB
    rw [if_pos h, hds, ht]
  have hlen : (W ++ (if k = 0 then [] else 46 :: P)).length ≤ 100 := by
    rw [List.length_append]; split <;> simp <;> omega
  refine ⟨_, hT, ?_, fun hm => ?_, fun hm => ?_, ?_⟩
  · by_cases hm : m < 0
    · rw [if_pos (by simpa using hm)]
      have hmin : minusB ([45] ++ (W ++ (if k = 0 then [] else 46 :: P))) = true := by simp [minusB]
      refine read_parts h (pre := []) (W := W) (P := P) (k := k) ?_ (by rw [hmin]; simp [hm]) (.inl rfl) hW hP (by omega) ⟨lP, k1⟩ hv
      unfold bodyS
      rw [if_pos hmin]; simp
    · rw [if_neg (by simpa using hm)]
      have hmin : minusB ([] ++ (W ++ (if k = 0 then [] else 46 :: P))) = false := by
        have := minus_app (pre := []) (W := W) (rest := if k = 0 then [] else 46 :: P) (by simpa using hW) (by simp; omega)
        simpa using this
      refine read_parts h (pre := []) (W := W) (P := P) (k := k) ?_ (by rw [hmin]; simp [hm]) (.inl rfl) hW hP (by omega) ⟨lP, k1⟩ hv
      unfold bodyS
      rw [hmin]; simp
  · rw [if_pos (by simpa using hm)]
    have hne : ∀ b ∈ (48 :: 45 :: W : List UInt8), b ≠ 46 := by
      intro b hb
      simp only [List.mem_cons] at hb
      rcases hb with rfl | rfl | g
      · decide
      · decide
      · exact (okDig_ne (hW b g)).1
    obtain ⟨w1, _, _⟩ := whole_of (W := 48 :: 45 :: W) (P := P) k hne (fun hk => List.length_eq_zero_iff.1 (by omega))
    have hmin : minusB ([48] ++ ([45] ++ (W ++ (if k = 0 then [] else 46 :: P)))) = false := by simp [minusB]
    have hb : bodyS ([48] ++ ([45] ++ (W ++ (if k = 0 then [] else 46 :: P)))) = (48 :: 45 :: W) ++ (if k = 0 then [] else 46 :: P) := by
      unfold bodyS; rw [hmin]; simp
    have hno : ¬ okW ([48] ++ ([45] ++ (W ++ (if k = 0 then [] else 46 :: P)))) = true := by
      rw [okW_spec, hb, w1]
      rintro ⟨g, _⟩
      have := (isDigs_spec g).2.2 45 (by simp)
      revert this; unfold okDig; decide
    unfold readR
    rw [if_neg hno]
  · rw [if_neg (by simpa using hm)]
    have hpW : ∀ b ∈ [48] ++ W, okDig b := by
      intro b hb
      rcases List.mem_append.1 hb with g | g
      · rw [List.mem_singleton.1 g]; unfold okDig; decide
      · exact hW b g
    have hmin : minusB ([48] ++ ([] ++ (W ++ (if k = 0 then [] else 46 :: P)))) = false := by
      have := minus_app (pre := [48]) (W := W) (rest := if k = 0 then [] else 46 :: P) hpW (by simp)
      simpa using this
    refine read_parts h (pre := [48]) (W := W) (P := P) (k := k) ?_ (by rw [hmin]; simp [hm]) (.inr rfl) hW hP (by omega) ⟨lP, k1⟩ hv
    unfold bodyS
    rw [hmin]; simp
  · rw [List.length_append]
    have : (if decide (m < 0) = true then [45] else [] : List UInt8).length ≤ 1 := by split <;> simp
    omega

end Go.Proofs.YtdomenmfkbfakaaGreatDoor.Dq

/- Law 3: what is told of what is told (ValTwice): it is so. -/
set_option linter.unusedVariables false
set_option linter.unusedSimpArgs false
set_option linter.unusedSectionVars false
namespace Go.Proofs.YtdomenmfkbfakaaGreatDoor
open Go Sx
/-- What is told as a number, as a text, as a truth. -/
def IsN (y : List CV) : Prop := (∃ m e, Dq.rightB m e = true ∧ y = nmR m e) ∨ ∃ n, (1 ≤ n ∧ n ≤ 9) ∧ y = errR n
def IsT (y : List CV) : Prop := (∃ s, isTx s = true ∧ y = txR s) ∨ ∃ n, (1 ≤ n ∧ n ≤ 9) ∧ y = errR n
def IsB (y : List CV) : Prop := (∃ b, y = trR b) ∨ ∃ n, (1 ≤ n ∧ n ≤ 9) ∧ y = errR n
theorem IsN.rig {y : List CV} (h : IsN y) : rigR isTx y = true := by
  rcases h with ⟨m, e, h, rfl⟩ | ⟨n, h, rfl⟩
  · exact rig_nm h
  · exact rig_err h
theorem IsT.rig {y : List CV} (h : IsT y) : rigR isTx y = true := by
  rcases h with ⟨s, h, rfl⟩ | ⟨n, h, rfl⟩
  · exact rig_tx h
  · exact rig_err h
theorem IsB.rig {y : List CV} (h : IsB y) : rigR isTx y = true := by
  rcases h with ⟨b, rfl⟩ | ⟨n, h, rfl⟩
  · exact rig_tr b
  · exact rig_err h
theorem IsN.nrm {y : List CV} (h : IsN y) : nrm y = y := by
  rcases h with ⟨m, e, h, rfl⟩ | ⟨n, h, rfl⟩ <;> rfl
theorem IsT.nrm {y : List CV} (h : IsT y) : Go.Proofs.YtdomenmfkbfakaaGreatDoor.nrm y = y := by
  rcases h with ⟨s, h, rfl⟩ | ⟨n, h, rfl⟩ <;> rfl
theorem IsB.nrm {y : List CV} (h : IsB y) : Go.Proofs.YtdomenmfkbfakaaGreatDoor.nrm y = y := by
  rcases h with ⟨s, rfl⟩ | ⟨n, h, rfl⟩ <;> rfl
theorem afN_is {x : List CV} (h : rigR isTx x = true) : IsN (afN Dq.readR x) := by
  have c := rightF_facts h
  unfold afN
  cases h1 : rk x == 1 with
  | true => exact .inl ⟨_, _, c.2.2.1 (beq_iff_eq.1 h1), rfl⟩
  | false => cases rk x == 3 with
    | true => cases rb x
              · exact .inl ⟨0, 0, rfl, rfl⟩
              · exact .inl ⟨1, 0, rfl, rfl⟩
    | false => cases rk x == 2 with
      | true => cases (Dq.readR (rs x)).2.2 != 0 with
        | true => exact .inr ⟨3, by decide, rfl⟩
        | false => exact .inl ⟨_, _, readR_right _, rfl⟩
      | false => exact .inl ⟨0, 0, rfl, rfl⟩
theorem afB_is (x : List CV) : IsB (afB smallL x) := by
  unfold afB
  cases rk x == 1 with
  | true => exact .inl ⟨_, rfl⟩
  | false => cases rk x == 3 with
    | true => exact .inl ⟨_, rfl⟩
    | false => cases rk x == 2 with
      | true => cases smallL (rs x) == sTrue with
        | true => exact .inl ⟨_, rfl⟩
        | false => cases smallL (rs x) == sFalse with
          | true => exact .inl ⟨_, rfl⟩
          | false => exact .inr ⟨3, by decide, rfl⟩
      | false => exact .inl ⟨_, rfl⟩
theorem afT_is {x : List CV} (h : rigR isTx x = true) : IsT (afT decS x) := by
  have c := rightF_facts h
  unfold afT kT
  cases h1 : rk x == 1 with
  | true => exact .inl ⟨_, decS_ok (c.2.2.1 (beq_iff_eq.1 h1)), rfl⟩
  | false => cases h2 : rk x == 2 with
    | true => exact .inl ⟨_, c.2.2.2.1 (beq_iff_eq.1 h2), rfl⟩
    | false => cases rk x == 3 with
      | true => cases rb x
                · exact .inl ⟨_, by kernel_rfl, rfl⟩
                · exact .inl ⟨_, by kernel_rfl, rfl⟩
      | false => exact .inl ⟨_, by kernel_rfl, rfl⟩
theorem one_is {P : List CV → Prop} {af : List CV → List CV} (he : ∀ n, 1 ≤ n ∧ n ≤ 9 → P (errR n)) (hn : ∀ y, P y → nrm y = y) (ha : ∀ x, rigR isTx x = true → P (af x)) {x : List CV} (h : rigR isTx x = true) : P (oneF af x) ∧ tellRa isTx af x = oneF af x := by
  have c := rightF_facts h
  unfold oneF tellRa tellP
  rw [show rightF isTx (rk x) (rm x) (re x) (rs x) (rb x) (rr x) (rh x) (rw_ x) (rf x) = true from h]
  cases h4 : rk x == 4 with
  | true => exact ⟨he _ (c.2.2.2.2 (beq_iff_eq.1 h4)), rfl⟩
  | false =>
    have := ha (nrm x) h
    have e : nrm (af (nrm x)) = af (nrm x) := hn _ this
    refine ⟨?_, e.symm⟩
    show P (nrm (af (nrm x)))
    rw [e]; exact this
theorem oneN {x : List CV} (h : rigR isTx x = true) : IsN (oneF (afN Dq.readR) x) ∧ tellRa isTx (afN Dq.readR) x = oneF (afN Dq.readR) x := one_is (P := IsN) (fun n h => .inr ⟨n, h, rfl⟩) (fun _ h => h.nrm) (fun _ h => afN_is h) h
theorem oneT {x : List CV} (h : rigR isTx x = true) : IsT (oneF (afT decS) x) ∧ tellRa isTx (afT decS) x = oneF (afT decS) x := one_is (P := IsT) (fun n h => .inr ⟨n, h, rfl⟩) (fun _ h => h.nrm) (fun _ h => afT_is h) h
theorem oneB {x : List CV} (h : rigR isTx x = true) : IsB (oneF (afB smallL) x) ∧ tellRa isTx (afB smallL) x = oneF (afB smallL) x := one_is (P := IsB) (fun n h => .inr ⟨n, h, rfl⟩) (fun _ h => h.nrm) (fun x _ => afB_is x) h
theorem twN {y : List CV} (h : IsN y) : oneF (afN Dq.readR) y = y := by rcases h with ⟨m, e, h, rfl⟩ | ⟨n, h, rfl⟩ <;> rfl
theorem twT {y : List CV} (h : IsT y) : oneF (afT decS) y = y := by rcases h with ⟨m, h, rfl⟩ | ⟨n, h, rfl⟩ <;> rfl
theorem twB {y : List CV} (h : IsB y) : oneF (afB smallL) y = y := by rcases h with ⟨m, rfl⟩ | ⟨n, h, rfl⟩ <;> rfl
theorem twNT {y : List CV} (h : IsN y) : oneF (afN Dq.readR) (oneF (afT decS) y) = y := by
  rcases h with ⟨m, e, h, rfl⟩ | ⟨n, h, rfl⟩
  · have e1 : oneF (afT decS) (nmR m e) = txR (decS m e) := rfl
    rw [e1]
    show Go.Proofs.YtdomenmfkbfakaaGreatDoor.nrm (bcond ((Dq.readR (decS m e)).2.2 != 0) (errR 3) (nmR (Dq.readR (decS m e)).1 (Dq.readR (decS m e)).2.1)) = _
    obtain ⟨t, h1, h2, _⟩ := Dq.text_law h
    have : decS m e = t := by unfold decS; rw [h1]
    rw [this, h2]; rfl
  · rfl
theorem twBN {y : List CV} (h : IsB y) : oneF (afB smallL) (oneF (afN Dq.readR) y) = y := by
  rcases h with ⟨b, rfl⟩ | ⟨n, h, rfl⟩
  · cases b <;> rfl
  · rfl
-- plain
section
variable {af : List CV → List CV} {q : List CV → Bool} (ha : afOk af q)
include ha
theorem pq_run {x : List CV} (h : rigR isTx x = true) {X : Ans} {r : Option (AV × List PObj)} (hX : X.run pure2 = r) : (pqT q x X).run pure2 = r := by
  have c := rightF_facts h
  unfold pqT
  rw [chkT (decide_eq_true c.1), chkT (decide_eq_true (by omega)), chkT (q_row ha h)]; exact hX
end
theorem pr_run {x : List CV} (h : rigR isTx x = true) {X : Ans} {r : Option (AV × List PObj)} (hX : X.run pure2 = r) : (prT isTx x X).run pure2 = r := by
  have c := rightF_facts h
  unfold prT
  rw [chkT (decide_eq_true c.1), chkT (decide_eq_true (by omega)), chkT h]; exact hX
theorem ps_run {x y : List CV} (h : x = y) {X : Ans} {r : Option (AV × List PObj)} (hX : X.run pure2 = r) : (psT x y X).run pure2 = r := by
  subst h
  unfold psT
  rw [chkT (sameF_refl ..)]; exact hX
theorem pl_true {x : List CV} (h : rigR isTx x = true) (R : List (List CV)) : (plTw isTx (afN Dq.readR) (afT decS) (afB smallL) qLn qTx qLn x (tellRa isTx (afN Dq.readR) x) (tellRa isTx (afT decS) x) (tellRa isTx (afB smallL) x) R).run pure2 = pure2 (.bool true) [fW R] := by
  obtain ⟨n1, n2⟩ := oneN h
  obtain ⟨t1, t2⟩ := oneT h
  obtain ⟨b1, b2⟩ := oneB h
  rw [n2, t2, b2]
  generalize oneF (afN Dq.readR) x = n at *
  generalize oneF (afT decS) x = t at *
  generalize oneF (afB smallL) x = b at *
  have rn := n1.rig
  have rt := t1.rig
  have rb := b1.rig
  obtain ⟨u1, u2⟩ := oneT rn
  obtain ⟨v1, v2⟩ := oneN rb
  unfold plTw
  rw [(oneN rn).2, (oneT rt).2, (oneB rb).2, u2, v2, (oneN u1.rig).2, (oneB v1.rig).2, twN n1, twT t1, twB b1, twNT n1, twBN b1]
  exact pq_run afN_ok h (pq_run afT_ok h (pq_run afB_ok h (pr_run rn (pr_run rt (pr_run rb (pq_run afN_ok rn (ps_run rfl (pq_run afT_ok rt (ps_run rfl (pq_run afB_ok rb (ps_run rfl (pq_run afT_ok rn (pq_run afN_ok u1.rig (ps_run rfl (pq_run afN_ok rb (pq_run afB_ok v1.rig (ps_run rfl rfl)))))))))))))))))
-- arrays
section
variable {H W : Int} {N : Nat} (h1 : 1 ≤ H ∧ H ≤ 5) (h2 : 1 ≤ W ∧ W ≤ 5) (hN : (N : Int) = H * W) (h25 : N ≤ 25)
/-- Rows that are right. -/
def RigL (N : Nat) (M : List (List CV)) : Prop := N ≤ M.length ∧ ∀ j, j < N → rigR isTx (Sx.rowAt M j) = true
theorem RigL.okRows {M : List (List CV)} (h25 : N ≤ 25) (h : RigL N M) : Go.Proofs.YtdomenmfkbfakaaGreatDoor.okRows N M := ⟨h.1, by omega, fun j hj => plR_of (h.2 j hj)⟩
theorem RigL.rig {M : List (List CV)} (h : RigL N M) : rigFrom isTx M N 0 = true := rigFrom_of N 0 fun j _ hj => h.2 j (by omega)
theorem RigL.tld {M : List (List CV)} (h : RigL N M) {P : List CV → Prop} {af : List CV → List CV} (hp : ∀ x, rigR isTx x = true → P (oneF af x)) (hr : ∀ y, P y → rigR isTx y = true) : RigL N (tldL af N M N) ∧ ∀ j, j < N → P (Sx.rowAt (tldL af N M N) j) :=
  ⟨⟨by rw [tldL_len]; omega, fun j hj => by rw [tldL_at N j hj (Nat.le_refl _)]; exact hr _ (hp _ (h.2 j hj))⟩, fun j hj => by rw [tldL_at N j hj (Nat.le_refl _)]; exact hp _ (h.2 j hj)⟩
include h1 h2 hN h25
open Classical in
theorem aq_run {af : List CV → List CV} {q : List CV → Bool} (ha : afOk af q) {M : List (List CV)} (h : RigL N M) {X : Ans} {r : Option (AV × List PObj)} (hX : X.run pure2 = r) : (aqT isTx H W N q M X).run pure2 = r := by
  unfold aqT
  rw [chkT (decide_eq_true (h.okRows h25)), chkT (grid_ok h1 h2 hN h.rig), chkT (decide_eq_true (okD_ar ha h1 h2 hN h25 (h.okRows h25) h.rig))]; exact hX
open Classical in
theorem ar_run {M : List (List CV)} (h : RigL N M) {X : Ans} {r : Option (AV × List PObj)} (hX : X.run pure2 = r) : (arT isTx H W N M X).run pure2 = r := by
  unfold arT
  rw [chkT (decide_eq_true (h.okRows h25)), chkT (grid_ok h1 h2 hN h.rig)]; exact hX
omit h1 h2 hN in
theorem as_run {M S : List (List CV)} (hM : N ≤ M.length) (hS : N ≤ S.length) (h : ∀ j, j < N → Sx.rowAt M j = Sx.rowAt S j) {X : Ans} {r : Option (AV × List PObj)} (hX : X.run pure2 = r) : (asT H W N M S X).run pure2 = r := by
  unfold asT eqRows
  rw [chkT (decide_eq_true ⟨hM, hS, by omega⟩), sameF_refl, Nat.beq_refl, eqFrom_of N 0 fun j _ hj => by rw [h j (by omega)]; exact sameF_refl ..]
  exact hX
open Classical in
theorem ar_true {L : List (List CV)} (hL : RigL N L) (R : List (List CV)) : (arTw isTx (afN Dq.readR) (afT decS) (afB smallL) qLn qTx qLn H W N L (tldL (afN Dq.readR) N L N) (tldL (afT decS) N L N) (tldL (afB smallL) N L N) R).run pure2 = pure2 (.bool true) [fW R] := by
  obtain ⟨rn, n1⟩ := hL.tld (P := IsN) (fun _ h => (oneN h).1) (fun _ h => h.rig)
  obtain ⟨rt, t1⟩ := hL.tld (P := IsT) (fun _ h => (oneT h).1) (fun _ h => h.rig)
  obtain ⟨rb, b1⟩ := hL.tld (P := IsB) (fun _ h => (oneB h).1) (fun _ h => h.rig)
  generalize tldL (afN Dq.readR) N L N = n at *
  generalize tldL (afT decS) N L N = t at *
  generalize tldL (afB smallL) N L N = b at *
  obtain ⟨ru, u1⟩ := rn.tld (P := IsT) (fun _ h => (oneT h).1) (fun _ h => h.rig)
  obtain ⟨rv, v1⟩ := rb.tld (P := IsN) (fun _ h => (oneN h).1) (fun _ h => h.rig)
  have len : ∀ (af : List CV → List CV) (M : List (List CV)), N ≤ (tldL af N M N).length := fun af M => by rw [tldL_len]; omega
  have at_ : ∀ (af : List CV → List CV) (M : List (List CV)) (j : Nat), j < N → Sx.rowAt (tldL af N M N) j = oneF af (Sx.rowAt M j) := fun af M j hj => tldL_at N j hj (Nat.le_refl _)
  unfold arTw
  refine aq_run h1 h2 hN h25 afN_ok hL (aq_run h1 h2 hN h25 afT_ok hL (aq_run h1 h2 hN h25 afB_ok hL (ar_run h1 h2 hN h25 rn (ar_run h1 h2 hN h25 rt (ar_run h1 h2 hN h25 rb ?_)))))
  refine aq_run h1 h2 hN h25 afN_ok rn (as_run h25 (len _ _) rn.1 (fun j hj => by rw [at_ _ _ j hj, twN (n1 j hj)]) ?_)
  refine aq_run h1 h2 hN h25 afT_ok rt (as_run h25 (len _ _) rt.1 (fun j hj => by rw [at_ _ _ j hj, twT (t1 j hj)]) ?_)
  refine aq_run h1 h2 hN h25 afB_ok rb (as_run h25 (len _ _) rb.1 (fun j hj => by rw [at_ _ _ j hj, twB (b1 j hj)]) ?_)
  refine aq_run h1 h2 hN h25 afT_ok rn (aq_run h1 h2 hN h25 afN_ok ru (as_run h25 (len _ _) rn.1 (fun j hj => by rw [at_ _ _ j hj, at_ _ _ j hj, twNT (n1 j hj)]) ?_))
  refine aq_run h1 h2 hN h25 afN_ok rb (aq_run h1 h2 hN h25 afB_ok rv (as_run h25 (len _ _) rb.1 (fun j hj => by rw [at_ _ _ j hj, at_ _ _ j hj, twBN (b1 j hj)]) ?_))
  rfl
end
theorem tTw_ok (hf : EntOK Tryz.prog 12 (eVal valR)) (ha : EntOK Tryz.prog 11 eTrue) : TabOK Tryz.prog (tTw valR isTx (afN Dq.readR) (afT decS) (afB smallL) qLn qTx qLn) :=
  .cons ha (.cons hf (.cons (eArr_ok hf) (.cons (eToA_ok (eTon_ok eIsT_ok (askN_ok eRdF_ok))) (.cons (eToA_ok (eTot_ok eIsT_ok (askT_ok eDtF_ok))) (.cons (eToA_ok (eTob_ok eIsT_ok (askB_ok eSmF_ok))) (.cons eSamC_ok (.cons (eRigC_ok eIsT_ok) .nil)))))))
open Classical in
theorem tw_meets {k m e : Int} {s : List UInt8} {b c : Bool} {a : Nat} {R : List (List CV)} (hk : inI k = true) (hm : inI m = true) (he : inI e = true) (hs : s.length ≤ 9223372036854775807) (hR : okW a R) (hf : EntOK Tryz.prog 12 (eVal valR)) (ha : EntOK Tryz.prog 11 eTrue) :
    Meets Tryz.prog 7 [.agg [.int .i64 k, .int .i64 m, .int .i64 e, .str s, .bool b], .dsl 0 a, .bool c] [.flatR false shW R] (.bool true) [.flatR false shW R] := by
  cases c with
  | false =>
    refine meets_ent (pre := [fW R]) (post := [fW R]) (tTw_ok hf ha) host ((tw_comes0 valR isTx (afN Dq.readR) (afT decS) (afB smallL) qLn qTx qLn k m e s b a R).trans ?_) nolv_ok
    rw [chkT hk, chkT hm, chkT he, chkT (decide_eq_true hs)]
    exact pl_true (valR_ok k m e s b).2 R
  | true =>
    have b1 := sz5_bd k
    have b2 := sz5_bd e
    obtain ⟨n1, n2, n3⟩ := nA_bd k e
    refine meets_ent (pre := [fW R]) (post := [fW R]) (tTw_ok hf ha) host ((tw_comes1 valR isTx (afN Dq.readR) (afT decS) (afB smallL) qLn qTx qLn k m e s b a R).trans ?_) nolv_ok
    rw [chkT hk, chkT hm, chkT he, chkT (decide_eq_true hs), chkT hk, chkT he, chkT (decide_eq_true hR)]
    exact ar_true b1 b2 n1 n3 ⟨by rw [arL_len]; omega, fun j hj => by rw [arL_at hj]; exact (arJ_ok a R j).2⟩ R
end Go.Proofs.YtdomenmfkbfakaaGreatDoor
