/- Layer 26: pieces in any turn: the list turned. -/
import Derived.Test.YtoekeplljjaehaaGr07
set_option linter.unusedVariables false
set_option linter.unusedSimpArgs false
namespace Go.Proofs.Ytoekeplljjaehaa
open Go Sx
/-- The state of the second loop: what is kept, what of it is turned. -/
def slG (p q : AV) (i : Option AV) : List (Option AV) := none :: none :: none :: none :: none :: none :: none :: some (.bool true) :: some (.ptr 2 0) :: some (.ptr 3 0) :: none :: none :: some p :: some q :: i :: List.replicate 74 none
def meG0 (r1 : List (List CV)) (ks : List Int) (k t : List UInt8) (rows : List (List CV)) (m : Nat) (one : List Int) : List (Option PObj) :=
  some (fr r1) :: some (.flatI false ks) :: cel 5 6 7 320 m :: cel 8 9 10 320 m :: some (.vecI .i64 one 3) :: some (.arrB k 5) :: some (.arrB t 5) :: some (.vecR shP rows pT) :: some (.arrB k 5) :: some (.arrB t 5) :: some (.vecR shP rows pT) :: List.replicate 64 none
def meG (r1 : List (List CV)) (ks : List Int) (k t : List UInt8) (rows : List (List CV)) (m : Nat) (one oth : List Int) : List (Option PObj) :=
  some (fr r1) :: some (.flatI false ks) :: cel 6 7 8 320 m :: cel 9 10 11 320 m :: some (.vecI .i64 one 3) :: some (.vecI .i64 oth 3) :: some (.arrB k 5) :: some (.arrB t 5) :: some (.vecR shP rows pT) :: some (.arrB k 5) :: some (.arrB t 5) :: some (.vecR shP rows pT) :: List.replicate 64 none
def sG0 (r1 : List (List CV)) (ks : List Int) (k t : List UInt8) (rows : List (List CV)) (m : Nat) (one : List Int) (ol : Nat) (i : Int) : PState := ⟨slG (.vec 4 ol) .nilslice (some (.int .i64 i)), meG0 r1 ks k t rows m one⟩
def sG (r1 : List (List CV)) (ks : List Int) (k t : List UInt8) (rows : List (List CV)) (m : Nat) (one : List Int) (ol : Nat) (oth : List Int) (pl : Nat) (i : Int) : PState := ⟨slG (.vec 4 ol) (.vec 5 pl) (some (.int .i64 i)), meG r1 ks k t rows m one oth⟩
def sGx (r1 : List (List CV)) (ks : List Int) (k t : List UInt8) (rows : List (List CV)) (m : Nat) (one : List Int) (ol : Nat) (oth : List Int) (pl : Nat) : PState := ⟨slG (.vec 4 ol) (.vec 5 pl) none, meG r1 ks k t rows m one oth⟩
abbrev knG : Nat → Bool := fun n => hasN [7, 8, 9, 12, 13, 14] n
abbrev kxG : Nat → Bool := fun n => hasN [7, 8, 9, 12, 13] n
def iD (i : Int) : Int := IntKind.i64.wrap (i - 1)
theorem rG0 (r1 : List (List CV)) (ks : List Int) (k t : List UInt8) (rows : List (List CV)) (m : Nat) (one : List Int) (ol : Nat) (i : Int) : code (ent Try.prog [] nolv 64 1 20) Try.prog {} 2 64 1 loopE2 (sG0 r1 ks k t rows m one ol i) (endK 2 64 knG kxG)
  = bcond (decide (i ≥ 0)) (chks (some (.normal, sG r1 ks k t rows m one ol [xK one i] 1 (iD i))) [bF i ol, lnL i one]) (some (.exit 2, ⟨slG (.vec 4 ol) .nilslice none, meG0 r1 ks k t rows m one⟩)) := by kernel_rfl
theorem rG (r1 : List (List CV)) (ks : List Int) (k t : List UInt8) (rows : List (List CV)) (m : Nat) (one : List Int) (ol : Nat) (oth : List Int) (pl : Nat) (i : Int) : code (ent Try.prog [] nolv 64 1 20) Try.prog {} 2 64 1 loopE2 (sG r1 ks k t rows m one ol oth pl i) (endK 2 64 knG kxG)
  = bcond (decide (i ≥ 0)) (chks (some (.normal, sG r1 ks k t rows m one ol (oth ++ [xK one i]) (pl + 1) (iD i))) [bF i ol, lnL i one, decide (oth.length = pl * 1) && roomB (pl + 1) 8]) (some (.exit 2, sGx r1 ks k t rows m one ol oth pl)) := by kernel_rfl
theorem take_rev {l : List Int} {j : Nat} (h : j < l.length) : (l.take (j + 1)).reverse = l.getD j 0 :: (l.take j).reverse := by
  rw [List.take_succ_eq_append_getElem h, List.reverse_append, List.getD_eq_getElem?_getD, List.getElem?_eq_getElem h]; rfl
theorem loopG {r1 : List (List CV)} {ks : List Int} {k t : List UInt8} {rows : List (List CV)} {m : Nat} {one : List Int} (h0 : 0 < one.length) (hl : one.length ≤ 1000) :
    Tri Try.prog (.loop loopE2) (sG0 r1 ks k t rows m one one.length ((one.length : Int) - 1)).toA (.exit 2) (sGx r1 ks k t rows m one one.length one.reverse one.length).toA 2 := by
  refine loop_rounds (ent_sound (T := []) .nil host nolv_ok (NF := 64) (m := 1) 20) (NF := 64) (m := 1) loops_none knG kxG (ι := { w : Nat × List Int // w.1 ≤ one.length ∧ w.2 ++ (one.take w.1).reverse = one.reverse ∧ w.2.length + w.1 = one.length })
    (fun w => match w.1.2 with | [] => sG0 r1 ks k t rows m one one.length ((w.1.1 : Int) - 1) | c :: o => sG r1 ks k t rows m one one.length (c :: o) (c :: o).length ((w.1.1 : Int) - 1)) (fun w => w.1.1) (fun _ => (.exit 2, sGx r1 ks k t rows m one one.length one.reverse one.length)) ?_ (fun _ => by simp) ⟨(one.length, []), Nat.le_refl _, by simp, by simp⟩
  rintro ⟨⟨j, o⟩, h1, h2, h3⟩
  simp only at h1 h2 h3
  cases j with
  | succ j =>
    left
    have e1 : bF (((j + 1 : Nat) : Int) - 1) one.length = true := decide_eq_true (by omega)
    have ej : ((j + 1 : Nat) : Int) - 1 = (j : Int) := by omega
    have e2 : lnL (j : Int) one = true := decide_eq_true (by simp only [Int.toNat_natCast]; omega)
    have ed : iD (j : Int) = (j : Int) - 1 := by unfold iD; rw [i64_in (by omega) (by omega)]
    rw [ej] at e1
    refine ⟨⟨(j, o ++ [one.getD j 0]), by simp only; omega, by simp only; rw [← h2, take_rev (by omega), List.append_assoc]; rfl, by simp only [List.length_append, List.length_singleton]; omega⟩, by simp only; omega, rfl, ?_⟩
    cases o with
    | nil =>
      simp only [ej]
      refine (rG0 r1 ks k t rows m one one.length j).trans ?_
      rw [bcT (b := decide _) (decide_eq_true (by omega)), chks_true (bs := [_, _]) (by
        intro b hb
        simp only [List.mem_cons, List.not_mem_nil, or_false] at hb
        rcases hb with rfl | rfl <;> assumption), xK_nat, ed]
      rfl
    | cons c o =>
      simp only [ej]
      refine (rG r1 ks k t rows m one one.length (c :: o) (c :: o).length j).trans ?_
      rw [bcT (b := decide _) (decide_eq_true (by omega)), chks_true (bs := [_, _, _]) (by
        intro b hb
        simp only [List.mem_cons, List.not_mem_nil, or_false] at hb
        rcases hb with rfl | rfl | rfl
        · exact e1
        · exact e2
        · rw [decide_eq_true (by omega), Bool.true_and]; exact decide_eq_true (by omega)), xK_nat, ed]
      simp only [List.cons_append, List.length_cons, List.length_append]; rfl
  | zero =>
    right
    cases o with
    | nil => simp at h3; omega
    | cons c o =>
      simp only [List.take_zero, List.reverse_nil, List.append_nil] at h2
      refine (rG r1 ks k t rows m one one.length (c :: o) (c :: o).length _).trans ?_
      rw [bcF (b := decide _) (decide_eq_false (by simp)), h2]
      have : (one.reverse).length = one.length := List.length_reverse
      rw [this]
end Go.Proofs.Ytoekeplljjaehaa

/- Layer 26: pieces that are torn: the law is true. -/
set_option linter.unusedVariables false
set_option linter.unusedSimpArgs false
namespace Go.Proofs.Ytoekeplljjaehaa
open Go Sx
theorem endT_true {r1 : List (List CV)} {ks : List Int} {k' : List UInt8} {c : List Bool} (hk : k'.length = 320) (hc : ∀ b ∈ c, b = true) : (endT r1 ks k' c).run pure2 = some (.bool true, pT2 r1 ks) := by
  have e1 := sT1_len r1
  unfold endT
  rw [allS_eq e1, allS_eq hk]
  simp only [Ans.run, Ans.chk]
  rw [bcT (smN_t hk hk), bcF (by rw [hk]; rfl), bcF (by rw [e1]; rfl)]
  exact ansChks_run (r := some (.bool true, pT2 r1 ks)) rfl hc
theorem askT_ok {l1 : Nat} {r1 : List (List CV)} {at_ : Int} {s : List UInt8} {e1 e2 : Bool} (hl : okA l1 r1 = true) (ha : i64B at_ = true) (h1 : e1 = true) (h2 : e2 = true) : ∀ b ∈ askT l1 r1 at_ s e1 e2, b = true := by
  have hp := pk_lt (c := at_) (n := 320) (by omega)
  have ep : pkI at_ 320 = (pk at_ 320 : Nat) := pkI_nat (n := 320) ha
  have et := tS_nat (s := s) ha
  have hs := smN_t (sT1_len r1) (sT1_len r1)
  have c1 : slB (minL (pkI at_ 320) s) s = true := by rw [ep, minL_nat (by omega)]; exact decide_eq_true ⟨by omega, by simp only [Int.toNat_natCast, List.length_take]; omega⟩
  have c2 : i64B (pkI at_ 320) = true := by rw [ep]; exact i64B_to (by omega)
  have c3 : inD 320 (pkI at_ 320) (tS at_ s).length = true := by rw [ep, et]; exact decide_eq_true ⟨by omega, by simp only [Int.toNat_natCast, List.length_take]; omega⟩
  unfold askT
  intro b hb
  simp only [List.mem_cons, List.not_mem_nil, or_false] at hb
  rcases hb with rfl | rfl | rfl | rfl | rfl | rfl | rfl | rfl | rfl | rfl <;> assumption
theorem torn_true {l1 lk : Nat} {r1 : List (List CV)} {ks : List Int} {at_ : Int} {s : List UInt8} (hl : okA l1 r1 = true) (ha : i64B at_ = true) (hk : ks.length = lk) (hi : ks.all i64B = true) :
    ((tS at_ s).isEmpty = true → (xT0 l1 r1 ks at_ s).run pure2 = some (.bool true, pT2 r1 ks)) ∧
    ((tS at_ s).isEmpty = false → (keepS (pTs at_ s).length ks).isEmpty = true → (xTE l1 lk r1 ks at_ s).run pure2 = some (.bool true, pT2 r1 ks)) ∧
    ((tS at_ s).isEmpty = false → (keepS (pTs at_ s).length ks).isEmpty = false → (xTV l1 lk r1 ks at_ s).run pure2 = some (.bool true, pT2 r1 ks)) := by
  have e1 := sT1_len r1
  have hs1 := smN_t e1 e1
  have hp := pk_lt (c := at_) (n := 320) (by omega)
  have ep : (pkI at_ 320).toNat = pk at_ 320 := by rw [show pkI at_ 320 = (pk at_ 320 : Nat) from pkI_nat (n := 320) ha, Int.toNat_natCast]
  have et := tS_nat (s := s) ha
  have hle : pk at_ 320 + (tS at_ s).length ≤ 320 := by rw [et, List.length_take]; omega
  have ePs : pTs at_ s = parts (pk at_ 320) (tS at_ s) := by unfold pTs; rw [ep]
  have hin : ∀ p ∈ pTs at_ s, p.1 + p.2.length ≤ 320 := fun p hp => by
    rw [ePs] at hp
    have := parts_in _ _ _ (Nat.le_refl _) p hp
    omega
  have hap : (pTs at_ s).Pairwise fun p q => p.1 + p.2.length ≤ q.1 := by rw [ePs]; exact parts_apart _ _ _ (Nat.le_refl _)
  have hlen : (pTs at_ s).length ≤ 320 := by
    rw [ePs]
    have := parts_len _ (pk at_ 320) (tS at_ s) (Nat.le_refl _)
    omega
  have hrows := rowsB_of hin
  have hv : vB ((pTs at_ s).map rowOf) (pTs at_ s).length = true := decide_eq_true ⟨by rw [List.length_map], by omega⟩
  have esp : (splice (pkI at_ 320).toNat (tS at_ s) (sT1 r1)).length = 320 := by rw [ep, splice_len (by omega)]; exact e1
  have hs2 := smN_t e1 esp
  have ne : (tS at_ s).isEmpty = false → pTs at_ s ≠ [] := fun h => by
    rw [ePs]; exact parts_ne (fun e => by rw [e] at h; cases h)
  have nb : (tS at_ s).isEmpty = false → (!(tS at_ s).isEmpty) = true ∧ (!(pTs at_ s).isEmpty) = true := fun h => by
    refine ⟨by rw [h]; rfl, ?_⟩
    have := ne h
    cases hq : pTs at_ s with
    | nil => exact absurd hq this
    | cons p ps => rfl
  have hask : pTs at_ s ≠ [] → askKp ks lk ((pTs at_ s).length : Nat) = true := fun h => askKp_to hk (List.length_pos_iff.2 h) (by omega) hi
  refine ⟨fun h => ?_, fun h h2 => ?_, fun h h2 => ?_⟩
  · unfold xT0
    have he : (pTs at_ s).isEmpty = true := by rw [ePs, List.isEmpty_iff.1 h, parts_nil]; rfl
    refine ansChks_run (endT_true e1 (by simp)) (all_app (askT_ok hl ha h he) (all_one hs1))
  · obtain ⟨n1, n2⟩ := nb h
    have a1 := hask (ne h)
    unfold xTE
    refine ansChks_run (endT_true e1 ?_) (all_app (askT_ok hl ha n1 n2) ?_)
    · intro b hb
      simp only [List.mem_cons, List.not_mem_nil, or_false] at hb
      rcases hb with rfl | rfl
      · exact eqSt_refl _
      · rw [allS_eq e1]; exact clB_to ⟨by rw [List.length_map], torn_0 hin (by omega) e1⟩
    · intro b hb
      simp only [List.mem_cons, List.not_mem_nil, or_false] at hb
      rcases hb with rfl | rfl | rfl | rfl <;> assumption
  · obtain ⟨n1, n2⟩ := nb h
    have a1 := hask (ne h)
    have hpos : 0 < (pTs at_ s).length := List.length_pos_iff.2 (ne h)
    have hok : okK (pTs at_ s).length (tk (pTs at_ s).length) (keepS (pTs at_ s).length ks) = true := keepL_ok hpos (by omega) _ _
    have ht := torn_V (l := ks) hin hap (by omega) hpos e1
    have hkl : (keepS (pTs at_ s).length ks).length ≤ 20 := by
      unfold keepS
      have := keepL_len (pTs at_ s).length (ks.take 20) (tk (pTs at_ s).length)
      rw [List.length_take] at this; omega
    have hne : (!(keepS (pTs at_ s).length ks).isEmpty) = true := by rw [h2]; rfl
    have hc : askC (keepS (pTs at_ s).length ks) (keepS (pTs at_ s).length ks).length 320 320 320 320 (pTs at_ s).length (sT1 r1) (splice (pkI at_ 320).toNat (tS at_ s) (sT1 r1)) ((pTs at_ s).map rowOf) = true := decide_eq_true ⟨rfl, by omega, rfl, rfl, rfl, by rw [List.length_map], by omega, e1, esp, by omega⟩
    have hkt : (kT r1 ks at_ s).length = 320 := ht.1
    unfold xTV
    refine ansChks_run (endT_true hkt ?_) (all_app (askT_ok hl ha n1 n2) ?_)
    · intro b hb
      simp only [List.mem_cons, List.not_mem_nil, or_false] at hb
      rcases hb with rfl | rfl
      · exact eqSt_refl _
      · rw [allS_eq e1, allS_eq hkt]; exact clB_to ⟨by rw [List.length_map], by trivial, by omega, ht⟩
    · intro b hb
      simp only [List.mem_cons, List.not_mem_nil, or_false] at hb
      rcases hb with rfl | rfl | rfl | rfl | rfl <;> assumption
end Go.Proofs.Ytoekeplljjaehaa

/- Layer 26: pieces in any turn: the law, evaluated. -/
set_option linter.unusedVariables false
set_option linter.unusedSimpArgs false
namespace Go.Proofs.Ytoekeplljjaehaa
open Go Sx
def tSe (ek : Ent) : Tab := [(21, eCrashV), (13, eReadI), (20, eFilled), (22, ek), (10, eTrue)]
theorem tSe_ok {ek : Ent} (h : EntOK Try.prog 22 ek) : TabOK Try.prog (tSe ek) := .cons eCrashV_ok (.cons eReadI_ok (.cons eFilled_ok (.cons h (.cons awake_ok .nil))))
noncomputable def eEN (r1 : List (List CV)) (ks : List Int) (lk : Nat) (l : List (List UInt8)) (k t : List UInt8) : Nat → PState → LAns := fun K st =>
  .chk (Nat.beq K 2) (.chk (eqSt st (sEN r1 ks lk l k t 0)) (.chk (smN 320 k t) (.chk (pE l 5 0).isEmpty (.out (.exit 0) (sENx r1 ks lk k (tE l 5 0 t))))))
noncomputable def eEV (r1 : List (List CV)) (ks : List Int) (lk : Nat) (l : List (List UInt8)) (k t : List UInt8) : Nat → PState → LAns := fun K st =>
  .chk (Nat.beq K 2) (.chk (eqSt st (sEN r1 ks lk l k t 0)) (.chk (smN 320 k t) (.chk (!(pE l 5 0).isEmpty) (.out (.exit 0) (sEVx r1 ks lk k (tE l 5 0 t) ((pE l 5 0).map rowOf) (pE l 5 0).length)))))
theorem eEN_ok (r1 : List (List CV)) (ks : List Int) (lk : Nat) (l : List (List UInt8)) (k t : List UInt8) (K : Nat) (st : PState) : LAnsOK Try.prog loopE1 K st (eEN r1 ks lk l k t K st) := by
  unfold eEN
  refine ⟨fun g1 => ⟨fun g2 => ⟨fun g3 => ⟨fun g4 => ?_, fun _ => trivial⟩, fun _ => trivial⟩, fun _ => trivial⟩, fun _ => trivial⟩
  obtain rfl := beqT.1 g1
  obtain rfl := eqSt_of g2
  obtain ⟨h1, h2, _⟩ := smN_of g3
  have := loopE (r1 := r1) (ks := ks) (lk := lk) (l := l) h1 h2
  rw [List.isEmpty_iff.1 g4] at this
  exact this
theorem eEV_ok (r1 : List (List CV)) (ks : List Int) (lk : Nat) (l : List (List UInt8)) (k t : List UInt8) (K : Nat) (st : PState) : LAnsOK Try.prog loopE1 K st (eEV r1 ks lk l k t K st) := by
  unfold eEV
  refine ⟨fun g1 => ⟨fun g2 => ⟨fun g3 => ⟨fun g4 => ?_, fun _ => trivial⟩, fun _ => trivial⟩, fun _ => trivial⟩, fun _ => trivial⟩
  obtain rfl := beqT.1 g1
  obtain rfl := eqSt_of g2
  obtain ⟨h1, h2, _⟩ := smN_of g3
  have := loopE (r1 := r1) (ks := ks) (lk := lk) (l := l) h1 h2
  have hx : sEXx r1 ks lk k (tE l 5 0 t) (pE l 5 0) = sEVx r1 ks lk k (tE l 5 0 t) ((pE l 5 0).map rowOf) (pE l 5 0).length := by
    cases hq : pE l 5 0 with
    | nil => rw [hq] at g4; cases g4
    | cons p ps => rfl
  rw [hx] at this
  exact this
noncomputable def eGL (r1 : List (List CV)) (ks : List Int) (k t : List UInt8) (rows : List (List CV)) (m : Nat) (one : List Int) : Nat → PState → LAns := fun K st =>
  .chk (Nat.beq K 2) (.chk (eqSt st (sG0 r1 ks k t rows m one one.length (IntKind.i64.wrap ((one.length : Int) - 1)))) (.chk (clB (0 < one.length ∧ one.length ≤ 1000)) (.out (.exit 2) (sGx r1 ks k t rows m one one.length one.reverse one.length))))
theorem eGL_ok (r1 : List (List CV)) (ks : List Int) (k t : List UInt8) (rows : List (List CV)) (m : Nat) (one : List Int) (K : Nat) (st : PState) : LAnsOK Try.prog loopE2 K st (eGL r1 ks k t rows m one K st) := by
  unfold eGL
  refine ⟨fun g1 => ⟨fun g2 => ⟨fun g3 => ?_, fun _ => trivial⟩, fun _ => trivial⟩, fun _ => trivial⟩
  obtain rfl := beqT.1 g1
  obtain rfl := eqSt_of g2
  obtain ⟨h1, h2⟩ := clB_of g3
  rw [i64_in (by omega) (by omega)]
  exact loopG h1 h2
noncomputable def lvSe (a : Option (Nat → PState → LAns)) (b : Option (Nat → PState → LAns)) : FuncId → Lv := fun f => match f with
  | 6 => { keep := fun i => match i with | 5 => some [2, 4, 7, 8, 9, 10] | 13 => some [7, 8, 9, 12, 13, 14] | _ => none, ent := fun i => match i with | 5 => a | 13 => b | _ => none }
  | _ => {}
theorem lvSe_ok {a b : Option (Nat → PState → LAns)} (ha : ∀ e, a = some e → ∀ K st, LAnsOK Try.prog loopE1 K st (e K st)) (hb : ∀ e, b = some e → ∀ K st, LAnsOK Try.prog loopE2 K st (e K st)) : LvOK Try.prog (lvSe a b) := by
  intro f fn body hf hb' K x hx id e hid he st
  by_cases h : f = 6
  · subst h
    obtain rfl : fn = Try.f6 := (Option.some.inj (Try.func6.symm.trans hf)).symm
    have hbody : body = bodyOf Try.f6 := by unfold bodyOf; rw [hb']; rfl
    subst hbody
    have h1 : loopBodies (bodyOf Try.f6) = [loopE1, loopE2] := by kernel_rfl
    rw [h1] at hx
    rcases List.mem_cons.1 hx with hx' | hx'
    · have h3 : headReg loopE1 = some 5 := by kernel_rfl
      rw [hx', h3] at hid
      obtain rfl := (Option.some.inj hid).symm
      rw [hx']
      exact ha e he K st
    · have hx' := List.mem_singleton.1 hx'
      have h3 : headReg loopE2 = some 13 := by kernel_rfl
      rw [hx', h3] at hid
      obtain rfl := (Option.some.inj hid).symm
      rw [hx']
      exact hb e he K st
  · exfalso
    have : (lvSe a b f).ent id = none := by
      unfold lvSe
      split
      · exact absurd rfl h
      · rfl
    rw [this] at he; cases he
def tL (r1 : List (List CV)) (l : List (List UInt8)) : List UInt8 := tE l 5 0 (sT1 r1)
def endE' (r1 : List (List CV)) (ks : List Int) (a b : List UInt8) : Ans := ansChks (.ret (.bool (allS a == allS b)) (pT2 r1 ks)) [smN 320 a a, smN 320 b b]
noncomputable def askE' (l1 lk : Nat) (r1 : List (List CV)) (ks : List Int) (l : List (List UInt8)) (e : Bool) : List Bool :=
  [okA l1 r1, okA l1 r1, eqSt (sEN r1 ks lk l (sT1 r1) (sT1 r1) 0) (sEN r1 ks lk l (sT1 r1) (sT1 r1) 0), smN 320 (sT1 r1) (sT1 r1), e]
noncomputable def xE'0 (l1 lk : Nat) (r1 : List (List CV)) (ks : List Int) (l : List (List UInt8)) : Ans :=
  ansChks (endE' r1 ks (sT1 r1) (sT1 r1)) (askE' l1 lk r1 ks l (pE l 5 0).isEmpty ++ [smN 320 (sT1 r1) (tL r1 l), smN 320 (sT1 r1) (tL r1 l)])
noncomputable def xE'E (l1 lk : Nat) (r1 : List (List CV)) (ks : List Int) (l : List (List UInt8)) : Ans :=
  ansChks (endE' r1 ks (sT1 r1) (sT1 r1)) (askE' l1 lk r1 ks l (!(pE l 5 0).isEmpty) ++ [askKp ks lk (pE l 5 0).length, (keepS (pE l 5 0).length ks).isEmpty, smN 320 (sT1 r1) (tL r1 l), vB ((pE l 5 0).map rowOf) (pE l 5 0).length, smN 320 (sT1 r1) (tL r1 l), vB ((pE l 5 0).map rowOf) (pE l 5 0).length])
noncomputable def xE'V (l1 lk : Nat) (r1 : List (List CV)) (ks : List Int) (l : List (List UInt8)) (one : List Int) : Ans :=
  ansChks (endE' r1 ks (layAll ((pE l 5 0).map rowOf) one (sT1 r1)) (layAll ((pE l 5 0).map rowOf) one.reverse (sT1 r1))) (askE' l1 lk r1 ks l (!(pE l 5 0).isEmpty) ++ [askKp ks lk (pE l 5 0).length, !one.isEmpty,
    eqSt (sG0 r1 ks (sT1 r1) (tL r1 l) ((pE l 5 0).map rowOf) (pE l 5 0).length one one.length (IntKind.i64.wrap ((one.length : Int) - 1))) (sG0 r1 ks (sT1 r1) (tL r1 l) ((pE l 5 0).map rowOf) (pE l 5 0).length one one.length (IntKind.i64.wrap ((one.length : Int) - 1))), clB (0 < one.length ∧ one.length ≤ 1000),
    askC one one.length 320 320 320 320 (pE l 5 0).length (sT1 r1) (tL r1 l) ((pE l 5 0).map rowOf), okK (pE l 5 0).length (tk (pE l 5 0).length) one, rowsB 320 ((pE l 5 0).map rowOf),
    askC one.reverse one.length 320 320 320 320 (pE l 5 0).length (sT1 r1) (tL r1 l) ((pE l 5 0).map rowOf), okK (pE l 5 0).length (tk (pE l 5 0).length) one.reverse, rowsB 320 ((pE l 5 0).map rowOf)])
end Go.Proofs.Ytoekeplljjaehaa
