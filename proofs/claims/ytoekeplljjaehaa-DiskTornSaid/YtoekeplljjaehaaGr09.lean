/- Layer 26: what was synced stays: the outer loop. -/
import Derived.Test.YtoekeplljjaehaaGr07
import Derived.Test.YtoekeplljjaehaaGr06
set_option linter.unusedVariables false
set_option linter.unusedSimpArgs false
namespace Go.Proofs.Ytoekeplljjaehaa
open Go Sx
noncomputable def lvI (l2 : Nat) (r1 r2 : List (List CV)) (ks : List Int) (w v k t : List UInt8) : Lv := { keep := fun i => match i with | 13 => some [1, 7, 8, 9, 11, 12, 13, 14] | _ => none, ent := fun i => match i with | 13 => some (eInL l2 r1 r2 ks w v k t) | _ => none }
def sOX (r1 r2 : List (List CV)) (ks : List Int) (k t : List UInt8) : PState := ⟨none :: none :: none :: none :: none :: none :: none :: some (.bool true) :: some (.ptr 3 0) :: List.replicate 89 none, meS r1 r2 ks k t⟩
def sOF (r1 r2 : List (List CV)) (ks : List Int) (k t : List UInt8) : PState := ⟨none :: none :: none :: none :: none :: none :: some (.bool false) :: some (.bool true) :: some (.ptr 3 0) :: List.replicate 89 none, meS r1 r2 ks k t⟩
def ixS (i : Int) (s : List UInt8) : Bool := decide (0 ≤ i ∧ i.toNat < s.length)
theorem rOut (l2 : Nat) (r1 r2 : List (List CV)) (ks : List Int) (w v k t : List UInt8) (i : Int) : code (ent Try.prog tPk nolv 64 1 20) Try.prog (lvI l2 r1 r2 ks w v k t) 3 64 1 loopS1 (sOut l2 r1 r2 ks w v k t i) (endK 3 64 (fun n => hasN [1, 7, 8, 9, 11, 12] n) (fun n => hasN [6, 7, 8] n))
  = bcond (decide (i < 320)) (chks (bcond (!anyB r2 i) (chks (bcond (byteAt v i.toNat != byteAt w i.toNat) (some (.ret, sOF r1 r2 ks k t)) (some (.normal, sOut l2 r1 r2 ks w v k t (iN i)))) [ixS i v, ixS i w]) (some (.normal, sOut l2 r1 r2 ks w v k t (iN i))))
      [eqSt (sIn l2 r1 r2 ks w v k t i false 0) (sIn l2 r1 r2 ks w v k t i false 0), rng i, okA l2 r2]) (some (.exit 0, sOX r1 r2 ks k t)) := by kernel_rfl
theorem loopS1_in : loopBodies loopS1 = [loopS2] := by kernel_rfl
theorem lvI_ok (l2 : Nat) (r1 r2 : List (List CV)) (ks : List Int) (w v k t : List UInt8) (K : Nat) : LoopsOK Try.prog (lvI l2 r1 r2 ks w v k t) K loopS1 := by
  intro x hx id e hid he st
  rw [loopS1_in] at hx
  have hx' := List.mem_singleton.1 hx
  have h2 : id = 13 := by
    have h3 : headReg loopS2 = some 13 := by kernel_rfl
    rw [hx', h3] at hid; exact (Option.some.inj hid).symm
  subst h2
  have he' : eInL l2 r1 r2 ks w v k t = e := Option.some.inj he
  subst he'
  rw [hx']
  exact eInL_ok l2 r1 r2 ks w v k t K st
/-- Where nothing was written, nothing has changed. -/
def NoLoss (r2 : List (List CV)) (w v : List UInt8) : Prop := v.length = 320 ∧ w.length = 320 ∧ ∀ i : Nat, i < 320 → anyB r2 i = false → byteAt v i = byteAt w i
theorem loopOut {l2 : Nat} {r1 r2 : List (List CV)} {ks : List Int} {w v k t : List UInt8} (ho : okA l2 r2 = true) (hn : NoLoss r2 w v) :
    Tri Try.prog (.loop loopS1) (sOut l2 r1 r2 ks w v k t 0).toA (.exit 0) (sOX r1 r2 ks k t).toA 3 := by
  refine loop_rounds (ent_sound (T := tPk) tPk_ok host nolv_ok (NF := 64) (m := 1) 20) (NF := 64) (m := 1) (lvI_ok l2 r1 r2 ks w v k t 3) (fun n => hasN [1, 7, 8, 9, 11, 12] n) (fun n => hasN [6, 7, 8] n) (ι := { j : Nat // j ≤ 320 })
    (fun j => sOut l2 r1 r2 ks w v k t (j.1 : Int)) (fun j => 320 - j.1) (fun _ => (.exit 0, sOX r1 r2 ks k t)) ?_ (fun _ => by simp) ⟨0, Nat.zero_le _⟩
  rintro ⟨j, hj⟩
  obtain ⟨h1, h2, h3⟩ := hn
  by_cases h : j < 320
  · refine .inl ⟨⟨j + 1, h⟩, by simp only; omega, rfl, ?_⟩
    refine (rOut l2 r1 r2 ks w v k t j).trans ?_
    have c1 : ixS (j : Int) v = true := decide_eq_true (by simp only [Int.toNat_natCast]; omega)
    have c2 : ixS (j : Int) w = true := decide_eq_true (by simp only [Int.toNat_natCast]; omega)
    rw [bcT (b := decide _) (decide_eq_true (by omega)), chks_true (bs := [_, _, _]) (by
      intro c hc
      simp only [List.mem_cons, List.not_mem_nil, or_false] at hc
      rcases hc with rfl | rfl | rfl
      · exact eqSt_refl _
      · exact decide_eq_true (by omega)
      · exact ho), chks_true (bs := [_, _]) (by
      intro c hc
      simp only [List.mem_cons, List.not_mem_nil, or_false] at hc
      rcases hc with rfl | rfl
      · exact c1
      · exact c2), iN_nat (by omega)]
    cases ha : anyB r2 (j : Int) with
    | true => rfl
    | false =>
      rw [bcT (b := !false) rfl, Int.toNat_natCast, bcF (by rw [h3 j h ha]; simp)]
  · refine .inr ?_
    refine (rOut l2 r1 r2 ks w v k t j).trans ?_
    rw [bcF (b := decide _) (decide_eq_false (by omega))]
noncomputable def eOuL (l2 : Nat) (r1 r2 : List (List CV)) (ks : List Int) (w v k t : List UInt8) : Nat → PState → LAns := fun K st =>
  .chk (Nat.beq K 3) (.chk (eqSt st (sOut l2 r1 r2 ks w v k t 0)) (.chk (okA l2 r2) (.chk (clB (NoLoss r2 w v)) (.out (.exit 0) (sOX r1 r2 ks k t)))))
theorem eOuL_ok (l2 : Nat) (r1 r2 : List (List CV)) (ks : List Int) (w v k t : List UInt8) (K : Nat) (st : PState) : LAnsOK Try.prog loopS1 K st (eOuL l2 r1 r2 ks w v k t K st) := by
  unfold eOuL
  refine ⟨fun g1 => ⟨fun g2 => ⟨fun g3 => ⟨fun g4 => ?_, fun _ => trivial⟩, fun _ => trivial⟩, fun _ => trivial⟩, fun _ => trivial⟩
  obtain rfl := beqT.1 g1
  obtain rfl := eqSt_of g2
  exact loopOut g3 (clB_of g4)
noncomputable def lvSy (l2 : Nat) (r1 r2 : List (List CV)) (ks : List Int) (w v k t : List UInt8) : FuncId → Lv := fun f => match f with
  | 4 => { keep := fun i => match i with | 9 => some [1, 7, 8, 9, 11, 12] | 13 => some [1, 7, 8, 9, 11, 12, 13, 14] | _ => none, ent := fun i => match i with | 9 => some (eOuL l2 r1 r2 ks w v k t) | 13 => some (eInL l2 r1 r2 ks w v k t) | _ => none }
  | _ => {}
theorem lvSy_ok (l2 : Nat) (r1 r2 : List (List CV)) (ks : List Int) (w v k t : List UInt8) : LvOK Try.prog (lvSy l2 r1 r2 ks w v k t) := by
  intro f fn body hf hb K x hx id e hid he st
  by_cases h : f = 4
  · subst h
    obtain rfl : fn = Try.f4 := (Option.some.inj (Try.func4.symm.trans hf)).symm
    have hbody : body = bodyOf Try.f4 := by unfold bodyOf; rw [hb]; rfl
    subst hbody
    have h1 : loopBodies (bodyOf Try.f4) = [loopS1, loopS2] := by kernel_rfl
    rw [h1] at hx
    rcases List.mem_cons.1 hx with hx' | hx'
    · have h2 : id = 9 := by
        have h3 : headReg loopS1 = some 9 := by kernel_rfl
        rw [hx', h3] at hid; exact (Option.some.inj hid).symm
      subst h2
      have he' : eOuL l2 r1 r2 ks w v k t = e := Option.some.inj he
      subst he'
      rw [hx']
      exact eOuL_ok l2 r1 r2 ks w v k t K st
    · have hx' := List.mem_singleton.1 hx'
      have h2 : id = 13 := by
        have h3 : headReg loopS2 = some 13 := by kernel_rfl
        rw [hx', h3] at hid; exact (Option.some.inj hid).symm
      subst h2
      have he' : eInL l2 r1 r2 ks w v k t = e := Option.some.inj he
      subst he'
      rw [hx']
      exact eInL_ok l2 r1 r2 ks w v k t K st
  · exfalso
    have : (lvSy l2 r1 r2 ks w v k t f).ent id = none := by
      unfold lvSy
      split
      · exact absurd rfl h
      · rfl
    rw [this] at he; cases he
end Go.Proofs.Ytoekeplljjaehaa

/- Layer 26: what was synced stays: the law, evaluated. -/
set_option linter.unusedVariables false
set_option linter.unusedSimpArgs false
namespace Go.Proofs.Ytoekeplljjaehaa
open Go Sx
def tSd (e1 e2 : Ent) : Tab := [(21, eCrashV), (13, eReadI), (20, e1), (22, e2), (23, ePick), (10, eTrue)]
theorem tSd_ok {e1 e2 : Ent} (h1 : EntOK Try.prog 20 e1) (h2 : EntOK Try.prog 22 e2) : TabOK Try.prog (tSd e1 e2) := .cons eCrashV_ok (.cons eReadI_ok (.cons h1 (.cons h2 (.cons ePick_ok (.cons awake_ok .nil)))))
def pS (r1 r2 : List (List CV)) (ks : List Int) : List PObj := [fr r1, fr r2, .flatI false ks]
noncomputable def endS (l2 : Nat) (r1 r2 : List (List CV)) (ks : List Int) (k' : List UInt8) : Ans :=
  .chk (smN 320 k' k') (.br (((allS k').length : Int) != 320) (.ret (.bool false) (pS r1 r2 ks)) (.br (((allS (sT1 r1)).length : Int) != 320) (.ret (.bool false) (pS r1 r2 ks))
    (ansChks (.ret (.bool true) (pS r1 r2 ks)) [eqSt (sOut l2 r1 r2 ks (allS (sT1 r1)) (allS k') k' k' 0) (sOut l2 r1 r2 ks (allS (sT1 r1)) (allS k') k' k' 0), okA l2 r2, clB (NoLoss r2 (allS (sT1 r1)) (allS k'))])))
noncomputable def xS0 (l1 l2 : Nat) (r1 r2 : List (List CV)) (ks : List Int) : Ans :=
  ansChks (endS l2 r1 r2 ks (sT1 r1)) [okA l1 r1, okA l2 r2, (fillP (r2.take 8)).isEmpty, okA l1 r1, smN 320 (sT1 r1) (sT1 r1), smN 320 (sT1 r1) (sT2 r1 r2)]
noncomputable def xSE (l1 l2 lk : Nat) (r1 r2 : List (List CV)) (ks : List Int) (rows : List (List CV)) (m : Nat) : Ans :=
  ansChks (endS l2 r1 r2 ks (sT1 r1)) [okA l1 r1, okA l2 r2, !(fillP (r2.take 8)).isEmpty, okA l1 r1, smN 320 (sT1 r1) (sT1 r1), askKp ks lk m, (keepS m ks).isEmpty, smN 320 (sT1 r1) (sT2 r1 r2), vB rows m]
noncomputable def xSV (l1 l2 lk : Nat) (r1 r2 : List (List CV)) (ks : List Int) (rows : List (List CV)) (m : Nat) : Ans :=
  ansChks (endS l2 r1 r2 ks (layAll rows (keepS m ks) (sT1 r1))) [okA l1 r1, okA l2 r2, !(fillP (r2.take 8)).isEmpty, okA l1 r1, smN 320 (sT1 r1) (sT1 r1), askKp ks lk m, !(keepS m ks).isEmpty, askC (keepS m ks) (keepS m ks).length 320 320 320 320 m (sT1 r1) (sT2 r1 r2) rows, okK m (tk m) (keepS m ks), rowsB 320 rows]
end Go.Proofs.Ytoekeplljjaehaa

/- Layer 26: what can't be done changes nothing: the law, evaluated. -/
set_option linter.unusedVariables false
set_option linter.unusedSimpArgs false
namespace Go.Proofs.Ytoekeplljjaehaa
open Go Sx
/-- Reads of all, and reads that are refused; writes that are refused. -/
def rE (n : Nat) (t : List UInt8) (a c : Int) (post : List PObj) : Ans :=
  if c = 320 then .chk (i64B a) (.chk (decide (0 ≤ c) && inD n a c.toNat) (.ret (.tuple [.str ((t.drop a.toNat).take c.toNat), .int .i64 0]) post))
  else .chk (i64B a) (.chk (i64B c) (.chk (!(decide (0 ≤ c) && inD n a c.toNat)) (.ret (.tuple [.str [], .int .i64 260]) post)))
def eReadE : Ent := onDisk (fun vs => match vs with | [.int .i64 a, .int .i64 c] => .ret (.tuple [.str [], .int .i64 1]) [] | _ => .fail)
  (fun n k t vs => match vs with | [.int .i64 a, .int .i64 c] => rE n t a c (dk0 n k t) | _ => .fail)
  (fun n k t rows m vs => match vs with | [.int .i64 a, .int .i64 c] => rE n t a c (dk1 n k t rows m) | _ => .fail)
theorem rE_run {n : Nat} {t : List UInt8} {a c : Int} {post : List PObj} {r : AV × List PObj} (h : (rE n t a c post).run pure2 = some r) : i64B a = true ∧ i64B c = true ∧ (rRd n t a c post).run pure2 = some r := by
  unfold rE at h
  unfold rRd
  simp only [Ans.run]
  split at h
  · rename_i e
    obtain ⟨h1, h⟩ := chk_run h
    obtain ⟨h2, h⟩ := chk_run h
    exact ⟨h1, by rw [e]; rfl, by rw [bcT h2]; exact h⟩
  · obtain ⟨h1, h⟩ := chk_run h
    obtain ⟨h2, h⟩ := chk_run h
    obtain ⟨h3, h⟩ := chk_run h
    exact ⟨h1, h2, by rw [bcF ((Bool.not_eq_true' _).mp h3)]; exact h⟩
theorem eReadE_ok : EntOK Try.prog 13 eReadE := fun args pre => by
  refine of_run (eRead_ok args pre) fun r hr => ?_
  unfold eReadE onDisk at hr
  unfold eRead onDisk
  split at hr
  · exact hr
  · obtain ⟨c1, hr⟩ := chk_run hr
    obtain ⟨c2, hr⟩ := chk_run hr
    simp only [Ans.run, Ans.chk] at hr ⊢
    rw [bcT c1, bcT c2]
    split at hr
    · obtain ⟨c3, c4, hr⟩ := rE_run hr
      simp only [Ans.run]
      rw [bcT c3, bcT c4]; exact hr
    · cases hr
  · obtain ⟨c1, hr⟩ := chk_run hr
    obtain ⟨c2, hr⟩ := chk_run hr
    obtain ⟨c6, hr⟩ := chk_run hr
    obtain ⟨c7, hr⟩ := chk_run hr
    simp only [Ans.run, Ans.chk] at hr ⊢
    rw [bcT c1, bcT c2, bcT c6, bcT c7]
    split at hr
    · obtain ⟨c3, c4, hr⟩ := rE_run hr
      simp only [Ans.run]
      rw [bcT c3, bcT c4]; exact hr
    · cases hr
  · cases hr
def eWriteE : Ent := onDisk (fun vs => match vs with | [.int .i64 a, .str s] => .ret (.int .i64 1) [] | _ => .fail)
  (fun n k t vs => match vs with | [.int .i64 a, .str s] => .chk (i64B a) (.chk (!inD n a s.length) (.ret (.int .i64 260) (dk0 n k t))) | _ => .fail)
  (fun n k t rows m vs => match vs with | [.int .i64 a, .str s] => .chk (i64B a) (.chk (!inD n a s.length) (.ret (.int .i64 260) (dk1 n k t rows m))) | _ => .fail)
theorem eWriteE_ok : EntOK Try.prog 25 eWriteE := fun args pre => by
  refine of_run (eWrite_ok args pre) fun r hr => ?_
  unfold eWriteE onDisk at hr
  unfold eWrite onDisk
  split at hr
  · exact hr
  · obtain ⟨c1, hr⟩ := chk_run hr
    obtain ⟨c2, hr⟩ := chk_run hr
    simp only [Ans.run, Ans.chk] at hr ⊢
    rw [bcT c1, bcT c2]
    split at hr
    · obtain ⟨c3, hr⟩ := chk_run hr
      obtain ⟨c4, hr⟩ := chk_run hr
      unfold rW0
      simp only [Ans.run]
      rw [bcT c3, bcF ((Bool.not_eq_true' _).mp c4)]; exact hr
    · cases hr
  · obtain ⟨c1, hr⟩ := chk_run hr
    obtain ⟨c2, hr⟩ := chk_run hr
    obtain ⟨c5, hr⟩ := chk_run hr
    obtain ⟨c6, hr⟩ := chk_run hr
    simp only [Ans.run, Ans.chk] at hr ⊢
    rw [bcT c1, bcT c2, bcT c5, bcT c6]
    split at hr
    · obtain ⟨c3, hr⟩ := chk_run hr
      obtain ⟨c4, hr⟩ := chk_run hr
      unfold rW1
      simp only [Ans.run]
      rw [bcT c3, bcF ((Bool.not_eq_true' _).mp c4)]; exact hr
    · cases hr
  · cases hr
def tEr : Tab := [(25, eWriteE), (24, eSync), (13, eReadE), (23, ePick), (20, eFilled), (10, eTrue), (32, eAre)]
theorem tEr_ok : TabOK Try.prog tEr := .cons eWriteE_ok (.cons eSync_ok (.cons eReadE_ok (.cons ePick_ok (.cons eFilled_ok (.cons awake_ok (.cons eAre_ok .nil))))))
def rdX (d : DD) (a c : Int) : List Bool := d.chk ++ [i64B a, i64B c, !(decide (0 ≤ c) && inD 320 a c.toNat)]
def wrX (d : DD) (a : Int) (l : Nat) : List Bool := d.chk ++ [i64B a, !inD 320 a l]
def crX (d : DD) (x : Int) : List Bool := match d.p with
  | none => [bad1 0 x]
  | some (_, m) => [mkB m, bad1 m x]
/-- What is asked ahead of the pieces that are named twice. -/
def askE (d : DD) (m : Nat) (at_ n : Int) : List Bool :=
  d.chk ++ ([i64B at_] ++ (rdX d (IntKind.i64.wrap (321 + pkI at_ 1000)) 0 ++ ([i64B at_] ++ (rdX d (pkI at_ 321) 321 ++ ([i64B at_] ++ (rdX d (IntKind.i64.wrap (-1 - pkI at_ 1000)) 1 ++ (wrX d (IntKind.i64.wrap (321 + pkI at_ 1000)) 0 ++
    ([i64B n] ++ (wrX d (IntKind.i64.wrap (pkI n 320 + 1)) 320 ++ ([i64B n] ++ (crX d (IntKind.i64.wrap ((m : Int) + pkI n 1000)) ++ ([i64B n] ++ crX d (IntKind.i64.wrap (IntKind.i64.wrap (-1 - (m : Int)) - pkI n 1000))))))))))))))
def xE0 (r1 r2 : List (List CV)) (at_ n : Int) : Ans :=
  ansChks (ansChks (.br (((sT2 r1 r2).drop 0).take 320 == ((sT2 r1 r2).drop 0).take 320) (.ret (.bool true) [fr r1, fr r2]) (.ret (.bool false) [fr r1, fr r2])) (DD.chk ⟨sT1 r1, sT2 r1 r2, none⟩)) (askE ⟨sT1 r1, sT2 r1 r2, none⟩ 0 at_ n)
def endE (r1 r2 : List (List CV)) (rows : List (List CV)) (m : Nat) : Ans :=
  ansChks (.br (((sT2 r1 r2).drop 0).take 320 == ((sT2 r1 r2).drop 0).take 320) (.br ((m : Int) == (m : Int)) (.ret (.bool true) [fr r1, fr r2]) (.ret (.bool false) [fr r1, fr r2])) (.ret (.bool false) [fr r1, fr r2])) (DD.chk ⟨sT1 r1, sT2 r1 r2, some (rows, m)⟩)
def xE1 (r1 r2 : List (List CV)) (rows : List (List CV)) (m : Nat) (at_ n : Int) : Ans :=
  ansChks (.br (decide ((m : Int) > 0)) (ansChks (endE r1 r2 rows m) [i64B n, posB m, i64B n, posB m, mkB m, bad2 m (pkI n m) (IntKind.i64.wrap (-1 - pkI n m))]) (endE r1 r2 rows m)) (askE ⟨sT1 r1, sT2 r1 r2, some (rows, m)⟩ m at_ n)
def xErrors (l1 l2 : Nat) (r1 r2 : List (List CV)) (at_ n : Int) : Ans :=
  ansChks (.br (fillP (r2.take 8)).isEmpty (xE0 r1 r2 at_ n) (xE1 r1 r2 ((fillP (r2.take 8)).map rowOf) (fillP (r2.take 8)).length at_ n)) [okA l1 r1, okA l2 r2]
end Go.Proofs.Ytoekeplljjaehaa

/- Layer 26: what can't be done changes nothing: it is so. -/
set_option linter.unusedVariables false
set_option linter.unusedSimpArgs false
namespace Go.Proofs.Ytoekeplljjaehaa
open Go Sx
theorem out_ge {a : Int} {l : Nat} (h : 320 < a.toNat + l ∨ a < 0) : inD 320 a l = false := decide_eq_false (by omega)
theorem rdX_ok {d : DD} {a c : Int} (hd : d.ok) (ha : i64B a = true) (hc : i64B c = true) (h : inD 320 a c.toNat = false) : ∀ b ∈ rdX d a c, b = true := by
  intro b hb
  rcases List.mem_append.1 hb with hb | hb
  · exact DD.chk_ok hd b hb
  · simp only [List.mem_cons, List.not_mem_nil, or_false] at hb
    rcases hb with rfl | rfl | rfl
    · exact ha
    · exact hc
    · rw [h, Bool.and_false]; rfl
theorem wrX_ok {d : DD} {a : Int} {l : Nat} (hd : d.ok) (ha : i64B a = true) (h : inD 320 a l = false) : ∀ b ∈ wrX d a l, b = true := by
  intro b hb
  rcases List.mem_append.1 hb with hb | hb
  · exact DD.chk_ok hd b hb
  · simp only [List.mem_cons, List.not_mem_nil, or_false] at hb
    rcases hb with rfl | rfl
    · exact ha
    · rw [h]; rfl
theorem all_app {a b : List Bool} (ha : ∀ x ∈ a, x = true) (hb : ∀ x ∈ b, x = true) : ∀ x ∈ a ++ b, x = true := fun x hx => (List.mem_append.1 hx).elim (ha x) (hb x)
theorem all_one {a : Bool} (ha : a = true) : ∀ x ∈ [a], x = true := fun x hx => by rw [List.mem_singleton.1 hx]; exact ha
theorem mkB_ok {m : Nat} (h : m ≤ 1000000) : mkB m = true := decide_eq_true (by omega)
theorem nmI_pos {x : Int} (h : 0 ≤ x) : nmI x = x := by unfold nmI; rw [if_neg (by omega)]
theorem nmI_neg {x : Int} (h : x < 0) (h2 : -9223372036854775808 ≤ x) : nmI x = -1 - x := by unfold nmI; rw [if_pos h, i64_in (by omega) (by omega)]
theorem crX_ok {d : DD} {m : Nat} {x : Int} (hp : (d.p = none ∧ m = 0) ∨ ∃ rows, d.p = some (rows, m)) (hm : m ≤ 1000000) (hx : (m : Int) ≤ nmI x) : ∀ b ∈ crX d x, b = true := by
  unfold crX
  rcases hp with ⟨hp, rfl⟩ | ⟨rows, hp⟩
  · rw [hp]; exact all_one (decide_eq_true hx)
  · rw [hp]
    intro b hb
    simp only [List.mem_cons, List.not_mem_nil, or_false] at hb
    rcases hb with rfl | rfl
    · exact mkB_ok hm
    · exact decide_eq_true hx
theorem askE_ok {d : DD} {m : Nat} {at_ n : Int} (hd : d.ok) (ha : i64B at_ = true) (hn : i64B n = true) (hm : m ≤ 1000000) (hp : (d.p = none ∧ m = 0) ∨ ∃ rows, d.p = some (rows, m)) : ∀ b ∈ askE d m at_ n, b = true := by
  have a1 : pkI at_ 1000 = (pk at_ 1000 : Nat) := pkI_nat (n := 1000) ha
  have a2 : pkI at_ 321 = (pk at_ 321 : Nat) := pkI_nat (n := 321) ha
  have n1 : pkI n 320 = (pk n 320 : Nat) := pkI_nat (n := 320) hn
  have n2 : pkI n 1000 = (pk n 1000 : Nat) := pkI_nat (n := 1000) hn
  have b1 := pk_lt (c := at_) (n := 1000) (by omega)
  have b2 := pk_lt (c := at_) (n := 321) (by omega)
  have b3 := pk_lt (c := n) (n := 320) (by omega)
  have b4 := pk_lt (c := n) (n := 1000) (by omega)
  unfold askE
  rw [a1, a2, n1, n2, i64_in (n := 321 + (pk at_ 1000 : Nat)) (by omega) (by omega), i64_in (n := -1 - (pk at_ 1000 : Nat)) (by omega) (by omega), i64_in (n := (pk n 320 : Nat) + 1) (by omega) (by omega), i64_in (n := (m : Int) + (pk n 1000 : Nat)) (by omega) (by omega), i64_in (n := -1 - (m : Int)) (by omega) (by omega), i64_in (n := -1 - (m : Int) - (pk n 1000 : Nat)) (by omega) (by omega)]
  refine all_app (DD.chk_ok hd) (all_app (all_one ha) (all_app (rdX_ok hd (i64B_to (by omega)) rfl (out_ge (by omega))) (all_app (all_one ha) (all_app (rdX_ok hd (i64B_to (by omega)) rfl (out_ge ?_)) (all_app (all_one ha) (all_app (rdX_ok hd (i64B_to (by omega)) rfl (out_ge (by omega)))
    (all_app (wrX_ok hd (i64B_to (by omega)) (out_ge (by omega))) (all_app (all_one hn) (all_app (wrX_ok hd (i64B_to (by omega)) (out_ge (by omega))) (all_app (all_one hn) (all_app (crX_ok hp hm ?_) (all_app (all_one hn) (crX_ok hp hm ?_)))))))))))))
  · left; show 320 < _ + 321; omega
  · rw [nmI_pos (by omega)]; omega
  · rw [nmI_neg (by omega) (by omega)]; omega
theorem errors_true {l1 l2 : Nat} {r1 r2 : List (List CV)} {at_ n : Int} (h1 : okA l1 r1 = true) (h2 : okA l2 r2 = true) (ha : i64B at_ = true) (hn : i64B n = true) : (xErrors l1 l2 r1 r2 at_ n).run pure2 = some (.bool true, [fr r1, fr r2]) := by
  have e1 := sT1_len r1
  have e2 := sT2_len r1 r2
  have hP := fillP_len (r2.take 8)
  have hP2 : (fillP (r2.take 8)).length ≤ 2560 := by rw [List.length_take] at hP; omega
  unfold xErrors
  refine ansChks_run ?_ (by intro b hb; simp only [List.mem_cons, List.not_mem_nil, or_false] at hb; rcases hb with rfl | rfl; exact h1; exact h2)
  simp only [Ans.run]
  cases hP0 : (fillP (r2.take 8)).isEmpty with
  | true =>
    rw [bcT rfl]
    have hd : DD.ok ⟨sT1 r1, sT2 r1 r2, none⟩ := ⟨e1, e2, fun rows m h => by cases h⟩
    unfold xE0
    refine ansChks_run ?_ (askE_ok hd ha hn (by omega) (.inl ⟨rfl, rfl⟩))
    refine ansChks_run ?_ (DD.chk_ok hd)
    simp only [Ans.run]
    rw [bcT (by simp)]; rfl
  | false =>
    rw [bcF rfl]
    have hd : DD.ok ⟨sT1 r1, sT2 r1 r2, some ((fillP (r2.take 8)).map rowOf, (fillP (r2.take 8)).length)⟩ := ⟨e1, e2, fun rows m h => by cases h; exact ⟨by rw [List.length_map], by omega⟩⟩
    have hend : (endE r1 r2 ((fillP (r2.take 8)).map rowOf) (fillP (r2.take 8)).length).run pure2 = some (.bool true, [fr r1, fr r2]) := by
      unfold endE
      refine ansChks_run ?_ (DD.chk_ok hd)
      simp only [Ans.run]
      rw [bcT (by simp), bcT (by simp)]; rfl
    generalize hm : (fillP (r2.take 8)).length = m at hd hend hP2
    unfold xE1
    refine ansChks_run ?_ (askE_ok hd ha hn (by omega) (.inr ⟨_, rfl⟩))
    simp only [Ans.run]
    by_cases hm0 : 0 < m
    · rw [bcT (decide_eq_true (by omega))]
      refine ansChks_run hend ?_
      have b1 := pk_lt (c := n) (n := m) hm0
      have ep : pkI n (m : Int) = (pk n m : Nat) := pkI_nat (n := m) hn
      intro b hb
      simp only [List.mem_cons, List.not_mem_nil, or_false] at hb
      rcases hb with rfl | rfl | rfl | rfl | rfl | rfl
      · exact hn
      · exact posB_to (by omega)
      · exact hn
      · exact posB_to (by omega)
      · exact mkB_ok (by omega)
      · rw [ep, i64_in (by omega) (by omega)]
        unfold bad2
        rw [nmI_pos (x := ((pk n m : Nat) : Int)) (by omega), nmI_neg (by omega) (by omega)]
        exact decide_eq_true (by omega)
    · rw [bcF (decide_eq_false (by omega))]
      exact hend
end Go.Proofs.Ytoekeplljjaehaa

/- Layer 26: all pieces are kept, or none: it is so. -/
set_option linter.unusedVariables false
set_option linter.unusedSimpArgs false
namespace Go.Proofs.Ytoekeplljjaehaa
open Go Sx
/-- Pieces laid, one behind the other. -/
def layP : List (Nat × List UInt8) → List UInt8 → List UInt8
  | [], k => k
  | p :: ps, k => layP ps (splice p.1 p.2 k)
theorem layP_app : ∀ (a b : List (Nat × List UInt8)) (k : List UInt8), layP (a ++ b) k = layP b (layP a k)
  | [], b, k => rfl
  | p :: a, b, k => layP_app a b (splice p.1 p.2 k)
theorem layP_parts : ∀ (f a : Nat) (s k : List UInt8), s.length ≤ f → a + s.length ≤ k.length → layP (parts a s) k = splice a s k
  | _, a, [], k, _, h => by rw [parts_nil, splice_nil (by simpa using h)]; rfl
  | 0, a, c :: s, k, h, _ => by simp at h
  | f + 1, a, c :: s, k, h, h2 => by
    have h3 : 1 ≤ hd a (c :: s) := hd_pos (by simp)
    have h4 := hd_le a (c :: s)
    rw [parts_cons (by simp)]
    show layP (parts _ _) (splice a _ k) = _
    have hl : (splice a ((c :: s).take (hd a (c :: s))) k).length = k.length := splice_len (by rw [List.length_take]; omega)
    rw [layP_parts f _ _ _ (by rw [List.length_drop]; simp only [List.length_cons] at *; omega) (by rw [hl, List.length_drop]; omega)]
    exact splice_two h2 h4
theorem layP_fill : ∀ (rs : List (List CV)) (t : List UInt8), t.length = 320 → layP (fillP rs) t = fillT rs t
  | [], t, h => rfl
  | r :: rs, t, h => by
    have h1 := sN_le r
    rw [fillP, layP_app, layP_parts _ _ _ _ (Nat.le_refl _) (by omega), fillT]
    exact layP_fill rs _ (by rw [splice_len (by omega)]; exact h)
/-- Each piece lies within the disk. -/
theorem parts_in : ∀ (f a : Nat) (s : List UInt8), s.length ≤ f → ∀ p ∈ parts a s, a ≤ p.1 ∧ p.1 + p.2.length ≤ a + s.length
  | _, a, [], _, p, hp => by rw [parts_nil] at hp; cases hp
  | 0, a, c :: s, h, p, hp => by simp at h
  | f + 1, a, c :: s, h, p, hp => by
    have h3 : 1 ≤ hd a (c :: s) := hd_pos (by simp)
    have h4 := hd_le a (c :: s)
    rw [parts_cons (by simp)] at hp
    rcases List.mem_cons.1 hp with rfl | hp
    · simp only [List.length_take]; omega
    · have := parts_in f _ _ (by rw [List.length_drop]; simp only [List.length_cons] at *; omega) p hp
      rw [List.length_drop] at this
      omega
theorem fillP_in : ∀ (rs : List (List CV)), ∀ p ∈ fillP rs, p.1 + p.2.length ≤ 320
  | [], p, hp => by cases hp
  | r :: rs, p, hp => by
    rcases List.mem_append.1 hp with hp | hp
    · have := parts_in _ _ _ (Nat.le_refl _) p hp
      have := sN_le r
      omega
    · exact fillP_in rs p hp
theorem rows_fill (rs : List (List CV)) : rowsB 320 ((fillP rs).map rowOf) = true := by
  refine List.all_eq_true.2 fun r hr => ?_
  obtain ⟨p, hp, rfl⟩ := List.mem_map.1 hr
  have := fillP_in rs p hp
  show (decide (0 ≤ ((p.1 : Nat) : Int)) && decide (((p.1 : Nat) : Int).toNat + p.2.length ≤ 320)) = true
  rw [decide_eq_true (by omega), decide_eq_true (by simpa using this)]; rfl
theorem layX_at {P : List (Nat × List UInt8)} {j : Nat} (hj : j < P.length) (k : List UInt8) : layX (P.map rowOf) (j : Int) k = splice P[j].1 P[j].2 k := by
  have e : Sx.rowAt (P.map rowOf) j = rowOf P[j] := by unfold Sx.rowAt; rw [List.getD_eq_getElem?_getD, List.getElem?_map, List.getElem?_eq_getElem hj]; rfl
  unfold layX
  rw [nmI_pos (by omega), if_neg (by omega), Int.toNat_natCast, e]
  show splice (((P[j]).1 : Nat) : Int).toNat _ k = _
  rw [Int.toNat_natCast]; rfl
theorem layAll_app (rows : List (List CV)) : ∀ (a b : List Int) (k : List UInt8), layAll rows (a ++ b) k = layAll rows b (layAll rows a k)
  | [], b, k => rfl
  | x :: a, b, k => layAll_app rows a b (layX rows x k)
theorem layAll_upto (P : List (Nat × List UInt8)) (k : List UInt8) : ∀ j, j ≤ P.length → layAll (P.map rowOf) (upto j) k = layP (P.take j) k
  | 0, _ => by simp [upto, layAll, layP]
  | j + 1, h => by
    have hj : j < P.length := h
    rw [upto_succ, layAll_app, layAll_upto P k j (by omega), List.take_succ_eq_append_getElem hj, layP_app]
    show layX _ _ _ = _
    rw [layX_at hj]; rfl
theorem okK_upto {m : Nat} : ∀ (d j : Nat) (tk : List Bool), m - j = d → j ≤ m → tk.length = m → (∀ i, j ≤ i → tk.getD i false = false) → okK m tk ((upto m).drop j) = true
  | 0, j, tk, hd, hj, hl, ht => by rw [List.drop_of_length_le (by rw [upto_len]; omega)]; rfl
  | d + 1, j, tk, hd, hj, hl, ht => by
    have hj' : j < (upto m).length := by rw [upto_len]; omega
    rw [getD_drop hj']
    have e : (upto m).getD j 0 = (j : Int) := by unfold upto; rw [List.getD_eq_getElem?_getD, List.getElem?_map, List.getElem?_range (by omega)]; rfl
    rw [e]
    simp only [okK, Bool.and_eq_true]
    rw [nmI_pos (by omega)]
    refine ⟨decide_eq_true (by omega), ?_, ?_⟩
    · unfold gtB; simp only [Int.toNat_natCast]; rw [ht _ (by omega)]; rfl
    · refine okK_upto d (j + 1) _ (by omega) (by omega) (by rw [List.length_set]; exact hl) fun i hi => ?_
      simp only [Int.toNat_natCast]
      rw [List.getD_eq_getElem?_getD, List.getElem?_set_ne (by omega), ← List.getD_eq_getElem?_getD]
      exact ht i (by omega)
theorem endN_true {l1 : Nat} {r1 r2 : List (List CV)} {k t : List UInt8} (hl : okA l1 r1 = true) (hk : k.length = 320) (ht : t.length = 320) : (endN l1 r1 r2 k t t).run pure2 = some (.bool true, [fr r1, fr r2]) := by
  unfold endN
  simp only [Ans.run, Ans.chk]
  simp [bcond, pure2, smN_t ht ht, smN_t hk hk, hl]
theorem allNone_N {l1 l2 : Nat} {r1 r2 : List (List CV)} (h1 : okA l1 r1 = true) (h2 : okA l2 r2 = true) (h0 : (fillP (r2.take 8)).isEmpty = true) : (xN0 l1 l2 r1 r2).run pure2 = some (.bool true, [fr r1, fr r2]) := by
  have e1 := sT1_len r1
  have e2 := sT2_len r1 r2
  have e : sT2 r1 r2 = sT1 r1 := by
    have := layP_fill (r2.take 8) (sT1 r1) e1
    rw [List.isEmpty_iff.1 h0] at this
    exact this.symm
  unfold xN0
  have hs := smN_t e1 e2
  have hs2 := smN_t e2 e2
  refine ansChks_run ?_ (by
    intro b hb
    simp only [List.mem_cons, List.not_mem_nil, or_false] at hb
    rcases hb with rfl | rfl | rfl | rfl | rfl | rfl | rfl | rfl | rfl | rfl | rfl | rfl | rfl | rfl <;> assumption)
  rw [e]
  exact endN_true h1 e1 e1
theorem allNone_V {l1 l2 : Nat} {r1 r2 : List (List CV)} (h1 : okA l1 r1 = true) (h2 : okA l2 r2 = true) (h0 : (fillP (r2.take 8)).isEmpty = false) : (xNV l1 l2 r1 r2 ((fillP (r2.take 8)).map rowOf) (fillP (r2.take 8)).length).run pure2 = some (.bool true, [fr r1, fr r2]) := by
  have e1 := sT1_len r1
  have e2 := sT2_len r1 r2
  have hP := fillP_len (r2.take 8)
  have hP2 : (fillP (r2.take 8)).length ≤ 2560 := by rw [List.length_take] at hP; omega
  have hpos : 0 < (fillP (r2.take 8)).length := List.length_pos_iff.2 (fun e => by rw [e] at h0; cases h0)
  have hlay : layAll ((fillP (r2.take 8)).map rowOf) (upto (fillP (r2.take 8)).length) (sT1 r1) = sT2 r1 r2 := by
    rw [layAll_upto _ _ _ (Nat.le_refl _), List.take_length]
    exact layP_fill _ _ e1
  have hrows := rows_fill (r2.take 8)
  have hv : vB ((fillP (r2.take 8)).map rowOf) (fillP (r2.take 8)).length = true := decide_eq_true ⟨by rw [List.length_map], by omega⟩
  have hn : (!(fillP (r2.take 8)).isEmpty) = true := by rw [h0]; rfl
  unfold xNV
  rw [hlay]
  have hs := smN_t e1 e2
  have hs2 := smN_t e2 e2
  have hm : posM (fillP (r2.take 8)).length = true := decide_eq_true (by omega)
  have ha : askC (upto (fillP (r2.take 8)).length) (fillP (r2.take 8)).length 320 320 320 320 (fillP (r2.take 8)).length (sT1 r1) (sT2 r1 r2) ((fillP (r2.take 8)).map rowOf) = true := decide_eq_true ⟨upto_len _, by omega, rfl, rfl, rfl, by rw [List.length_map], by omega, e1, e2, by omega⟩
  have hk : okK (fillP (r2.take 8)).length (tk (fillP (r2.take 8)).length) (upto (fillP (r2.take 8)).length) = true := by
    refine okK_upto _ 0 _ rfl (Nat.zero_le _) (by unfold tk; simp) fun i _ => ?_
    unfold tk
    rw [List.getD_eq_getElem?_getD, List.getElem?_replicate]; split <;> rfl
  have hq := eqSt_refl (sN0 l1 r1 r2 (allS (sT2 r1 r2)) (sT1 r1) (sT2 r1 r2) ((fillP (r2.take 8)).map rowOf) (fillP (r2.take 8)).length)
  refine ansChks_run (endN_true h1 e1 e2) (by
    intro b hb
    simp only [List.mem_cons, List.not_mem_nil, or_false] at hb
    rcases hb with rfl | rfl | rfl | rfl | rfl | rfl | rfl | rfl | rfl | rfl | rfl | rfl | rfl | rfl | rfl | rfl | rfl | rfl | rfl | rfl | rfl <;> assumption)
end Go.Proofs.Ytoekeplljjaehaa

/- Layer 26: what was synced stays: it is so. -/
set_option linter.unusedVariables false
set_option linter.unusedSimpArgs false
namespace Go.Proofs.Ytoekeplljjaehaa
open Go Sx
theorem splice_get {a i : Nat} {s k : List UInt8} (h : a + s.length ≤ k.length) (hi : i < a ∨ a + s.length ≤ i) : (splice a s k)[i]? = k[i]? := by
  unfold splice
  have h1 : (k.take a).length = a := by rw [List.length_take]; omega
  have h2 : (k.take a ++ s).length = a + s.length := by rw [List.length_append, h1]
  rcases hi with hi | hi
  · rw [List.append_assoc, List.getElem?_append_left (by omega), List.getElem?_take_of_lt hi]
  · rw [List.getElem?_append_right (by omega), h2, List.getElem?_drop]
    congr 1; omega
theorem out_rows {i : Nat} : ∀ (rs : List (List CV)), rs.any (hit (i : Int)) = false → ∀ p ∈ fillP rs, i < p.1 ∨ p.1 + p.2.length ≤ i
  | [], _, p, hp => by cases hp
  | r :: rs, h, p, hp => by
    rw [List.any_cons, Bool.or_eq_false_iff] at h
    rcases List.mem_append.1 hp with hp | hp
    · have h1 := of_decide_eq_false h.1
      have h2 := parts_in _ _ _ (Nat.le_refl _) p hp
      have h3 : (sN r).length ≤ (sC r).length := by unfold sN; rw [List.length_take]; omega
      omega
    · exact out_rows rs h.2 p hp
theorem layX_get {P : List (Nat × List UInt8)} {i : Nat} {x : Int} {k : List UInt8} (hx : ixm (nmI x) P.length = true) (hk : k.length = 320) (hP : ∀ p ∈ P, p.1 + p.2.length ≤ 320) (ho : ∀ p ∈ P, i < p.1 ∨ p.1 + p.2.length ≤ i) : (layX (P.map rowOf) x k)[i]? = k[i]? := by
  have hx := of_decide_eq_true hx
  have hj : (nmI x).toNat < P.length := by omega
  have e : Sx.rowAt (P.map rowOf) (nmI x).toNat = rowOf P[(nmI x).toNat] := by unfold Sx.rowAt; rw [List.getD_eq_getElem?_getD, List.getElem?_map, List.getElem?_eq_getElem hj]; rfl
  have h1 := hP _ (List.getElem_mem hj)
  have h2 := ho _ (List.getElem_mem hj)
  generalize P[(nmI x).toNat] = q at e h1 h2
  unfold layX
  rw [e]
  show (splice ((q.1 : Nat) : Int).toNat (if x < 0 then q.2.take (q.2.length / 2) else q.2) k)[i]? = _
  rw [Int.toNat_natCast]
  split
  · exact splice_get (by rw [List.length_take]; omega) (by rw [List.length_take]; omega)
  · exact splice_get (by omega) h2
theorem layAll_get {P : List (Nat × List UInt8)} {i : Nat} (hP : ∀ p ∈ P, p.1 + p.2.length ≤ 320) (hR : rowsB 320 (P.map rowOf) = true) (ho : ∀ p ∈ P, i < p.1 ∨ p.1 + p.2.length ≤ i) : ∀ (l : List Int) (k : List UInt8), (∀ x ∈ l, ixm (nmI x) P.length = true) → k.length = 320 → (layAll (P.map rowOf) l k)[i]? = k[i]?
  | [], k, _, _ => rfl
  | x :: l, k, h, hk => by
    have hx := h x (List.mem_cons_self ..)
    show (layAll (P.map rowOf) l (layX (P.map rowOf) x k))[i]? = _
    rw [layAll_get hP hR ho l _ (fun y hy => h y (List.mem_cons_of_mem _ hy)) (layX_len hR (by rw [List.length_map]; exact hx) hk)]
    exact layX_get hx hk hP ho
theorem allS_eq {t : List UInt8} (h : t.length = 320) : allS t = t := by
  show (t.drop 0).take 320 = t
  rw [List.drop_zero, List.take_of_length_le (by omega)]
theorem noLoss_refl {r2 : List (List CV)} {t : List UInt8} (h : t.length = 320) : NoLoss r2 t t := ⟨h, h, fun _ _ _ => rfl⟩
theorem noLoss_lay {r2 : List (List CV)} {l : List Int} {k : List UInt8} (hk : k.length = 320) (hl : ∀ x ∈ l, ixm (nmI x) (fillP (r2.take 8)).length = true) : NoLoss r2 k (layAll ((fillP (r2.take 8)).map rowOf) l k) := by
  have hR := rows_fill (r2.take 8)
  refine ⟨layAll_len hR (by rw [List.length_map]; exact hl) hk, hk, fun i hi ha => ?_⟩
  have := layAll_get (i := i) (fillP_in (r2.take 8)) hR (out_rows _ ha) l k hl hk
  unfold byteAt
  simp only [List.getD_eq_getElem?_getD, this]
theorem endS_true {l2 : Nat} {r1 r2 : List (List CV)} {ks : List Int} {k' : List UInt8} (h2 : okA l2 r2 = true) (hk : k'.length = 320) (hn : NoLoss r2 (sT1 r1) k') : (endS l2 r1 r2 ks k').run pure2 = some (.bool true, pS r1 r2 ks) := by
  have e1 := sT1_len r1
  unfold endS
  rw [allS_eq e1, allS_eq hk]
  simp only [Ans.run, Ans.chk]
  rw [bcT (smN_t hk hk), bcF (by rw [hk]; rfl), bcF (by rw [e1]; rfl)]
  refine ansChks_run (r := some (.bool true, pS r1 r2 ks)) rfl ?_
  intro b hb
  simp only [List.mem_cons, List.not_mem_nil, or_false] at hb
  rcases hb with rfl | rfl | rfl
  · exact eqSt_refl _
  · exact h2
  · exact clB_to hn
theorem synced_0 {l1 l2 : Nat} {r1 r2 : List (List CV)} {ks : List Int} (h1 : okA l1 r1 = true) (h2 : okA l2 r2 = true) (h0 : (fillP (r2.take 8)).isEmpty = true) : (xS0 l1 l2 r1 r2 ks).run pure2 = some (.bool true, pS r1 r2 ks) := by
  have e1 := sT1_len r1
  have e2 := sT2_len r1 r2
  have hs := smN_t e1 e2
  have hs1 := smN_t e1 e1
  unfold xS0
  refine ansChks_run (endS_true h2 e1 (noLoss_refl e1)) ?_
  intro b hb
  simp only [List.mem_cons, List.not_mem_nil, or_false] at hb
  rcases hb with rfl | rfl | rfl | rfl | rfl | rfl <;> assumption
theorem askKp_to {l : List Int} {len m : Nat} (h1 : l.length = len) (h2 : 0 < m) (h3 : m ≤ 1099511627776) (h4 : l.all i64B = true) : askKp l len (m : Int) = true := by
  unfold askKp; rw [h4, Bool.and_true]; exact decide_eq_true (by omega)
theorem keepL_len (m : Nat) : ∀ (l : List Int) (tk : List Bool), (keepL m tk l).length ≤ l.length
  | [], _ => Nat.le_refl _
  | x :: xs, tk => by
    have h1 := keepL_len m xs tk
    have h2 := keepL_len m xs (tkS tk ((pk x (2 * m) / 2 : Nat) : Int))
    simp only [keepL]
    split <;> simp only [List.length_cons] <;> omega
theorem synced_V {l1 l2 lk : Nat} {r1 r2 : List (List CV)} {ks : List Int} (h1 : okA l1 r1 = true) (h2 : okA l2 r2 = true) (hk : ks.length = lk) (hi : ks.all i64B = true) (h0 : (fillP (r2.take 8)).isEmpty = false) :
    ((keepS (fillP (r2.take 8)).length ks).isEmpty = true → (xSE l1 l2 lk r1 r2 ks ((fillP (r2.take 8)).map rowOf) (fillP (r2.take 8)).length).run pure2 = some (.bool true, pS r1 r2 ks)) ∧
    ((keepS (fillP (r2.take 8)).length ks).isEmpty = false → (xSV l1 l2 lk r1 r2 ks ((fillP (r2.take 8)).map rowOf) (fillP (r2.take 8)).length).run pure2 = some (.bool true, pS r1 r2 ks)) := by
  have e1 := sT1_len r1
  have e2 := sT2_len r1 r2
  have hs := smN_t e1 e2
  have hs1 := smN_t e1 e1
  have hP := fillP_len (r2.take 8)
  have hP2 : (fillP (r2.take 8)).length ≤ 2560 := by rw [List.length_take] at hP; omega
  have hpos : 0 < (fillP (r2.take 8)).length := List.length_pos_iff.2 (fun e => by rw [e] at h0; cases h0)
  have hv : vB ((fillP (r2.take 8)).map rowOf) (fillP (r2.take 8)).length = true := decide_eq_true ⟨by rw [List.length_map], by omega⟩
  have hn : (!(fillP (r2.take 8)).isEmpty) = true := by rw [h0]; rfl
  have ha := askKp_to hk hpos (show (fillP (r2.take 8)).length ≤ 1099511627776 by omega) hi
  have hrows := rows_fill (r2.take 8)
  refine ⟨fun he => ?_, fun he => ?_⟩
  · unfold xSE
    refine ansChks_run (endS_true h2 e1 (noLoss_refl e1)) ?_
    intro b hb
    simp only [List.mem_cons, List.not_mem_nil, or_false] at hb
    rcases hb with rfl | rfl | rfl | rfl | rfl | rfl | rfl | rfl | rfl <;> assumption
  · have hok : okK (fillP (r2.take 8)).length (tk (fillP (r2.take 8)).length) (keepS (fillP (r2.take 8)).length ks) = true := keepL_ok hpos (by omega) _ _
    have hin := okK_in hok
    have hl := noLoss_lay (r2 := r2) (l := keepS (fillP (r2.take 8)).length ks) e1 hin
    have hkl : (keepS (fillP (r2.take 8)).length ks).length ≤ 20 := by
      unfold keepS
      have := keepL_len (fillP (r2.take 8)).length (ks.take 20) (tk (fillP (r2.take 8)).length)
      rw [List.length_take] at this; omega
    have hne : (!(keepS (fillP (r2.take 8)).length ks).isEmpty) = true := by rw [he]; rfl
    have hc : askC (keepS (fillP (r2.take 8)).length ks) (keepS (fillP (r2.take 8)).length ks).length 320 320 320 320 (fillP (r2.take 8)).length (sT1 r1) (sT2 r1 r2) ((fillP (r2.take 8)).map rowOf) = true := decide_eq_true ⟨rfl, by omega, rfl, rfl, rfl, by rw [List.length_map], by omega, e1, e2, by omega⟩
    unfold xSV
    refine ansChks_run (endS_true h2 hl.1 hl) ?_
    intro b hb
    simp only [List.mem_cons, List.not_mem_nil, or_false] at hb
    rcases hb with rfl | rfl | rfl | rfl | rfl | rfl | rfl | rfl | rfl | rfl <;> assumption
end Go.Proofs.Ytoekeplljjaehaa

/- Layer 26: pieces that are torn: it is so. -/
set_option linter.unusedVariables false
set_option linter.unusedSimpArgs false
namespace Go.Proofs.Ytoekeplljjaehaa
open Go Sx
def seg (a L : Nat) (u : List UInt8) : List UInt8 := (u.drop a).take L
theorem seg_self {a L : Nat} {S u : List UInt8} (h1 : S.length ≤ L) (h2 : a + L ≤ u.length) : seg a L (splice a S u) = S ++ (seg a L u).drop S.length := by
  unfold seg splice
  have h3 : (u.take a).length = a := by rw [List.length_take]; omega
  rw [List.append_assoc, List.drop_append, h3, Nat.sub_self, List.drop_zero, List.drop_of_length_le (by omega), List.nil_append, List.take_append, List.take_of_length_le h1, List.drop_take, List.drop_drop]
theorem seg_other {a L a' : Nat} {S u : List UInt8} (h : a' + S.length ≤ a ∨ a + L ≤ a') (h1 : a' + S.length ≤ u.length) : seg a L (splice a' S u) = seg a L u := by
  unfold seg
  refine List.ext_getElem? fun i => ?_
  rw [List.getElem?_take, List.getElem?_take]
  split
  · rw [List.getElem?_drop, List.getElem?_drop]
    exact splice_get h1 (by omega)
  · rfl
theorem parts_apart : ∀ (f a : Nat) (s : List UInt8), s.length ≤ f → (parts a s).Pairwise fun p q => p.1 + p.2.length ≤ q.1
  | _, a, [], _ => by rw [parts_nil]; exact .nil
  | 0, a, c :: s, h => by simp at h
  | f + 1, a, c :: s, h => by
    have h3 : 1 ≤ hd a (c :: s) := hd_pos (by simp)
    have h4 := hd_le a (c :: s)
    rw [parts_cons (by simp)]
    refine List.pairwise_cons.2 ⟨fun q hq => ?_, parts_apart f _ _ (by rw [List.length_drop]; simp only [List.length_cons] at *; omega)⟩
    have := parts_in _ _ _ (Nat.le_refl _) q hq
    simp only [List.length_take]; omega
theorem keepL_form {m : Nat} (h0 : 0 < m) : ∀ (l : List Int) (tk : List Bool), ∀ x ∈ keepL m tk l, ∃ h : Nat, h < m ∧ (x = -1 - (h : Int) ∨ x = (h : Int))
  | [], _, x, hx => by cases hx
  | y :: ys, tk, x, hx => by
    have hk := pk_lt (c := y) (n := 2 * m) (by omega)
    simp only [keepL] at hx
    split at hx
    · exact keepL_form h0 ys tk x hx
    · rcases List.mem_cons.1 hx with rfl | hx
      · refine ⟨pk y (2 * m) / 2, by omega, ?_⟩
        split
        · exact .inl rfl
        · exact .inr rfl
      · exact keepL_form h0 ys _ x hx
theorem gt_set {tk : List Bool} {h k : Nat} (hl : h < tk.length) : gtB (k : Int) (tk.set (0 + (h : Int).toNat * 1) true) = if k = h then true else gtB (k : Int) tk := by
  unfold gtB
  simp only [Int.toNat_natCast, Nat.zero_add, Nat.mul_one, List.getD_eq_getElem?_getD]
  by_cases e : k = h
  · subst e; rw [if_pos rfl, List.getElem?_set_self hl]; rfl
  · rw [if_neg e, List.getElem?_set_ne (fun e2 => e e2.symm)]
/-- What comes of one piece. -/
theorem lay_seg {P : List (Nat × List UInt8)} (hP : ∀ p ∈ P, p.1 + p.2.length ≤ 320) (hR : rowsB 320 (P.map rowOf) = true) (hA : P.Pairwise fun p q => p.1 + p.2.length ≤ q.1) (hm : P.length ≤ 1000000) {k : Nat} (hk : k < P.length) :
    ∀ (l : List Int) (tk : List Bool) (u : List UInt8), okK P.length tk l = true → tk.length = P.length → (∀ x ∈ l, ∃ h : Nat, h < P.length ∧ (x = -1 - (h : Int) ∨ x = (h : Int))) → u.length = 320 →
      (gtB (k : Int) tk = true → seg P[k].1 P[k].2.length (layAll (P.map rowOf) l u) = seg P[k].1 P[k].2.length u ∧ ∀ n, nT k P[k].2.length l n = n) ∧
      (gtB (k : Int) tk = false → seg P[k].1 P[k].2.length (layAll (P.map rowOf) l u) = P[k].2.take (nT k P[k].2.length l 0) ++ (seg P[k].1 P[k].2.length u).drop (nT k P[k].2.length l 0))
  | [], tk, u, _, _, _, _ => ⟨fun _ => ⟨rfl, fun _ => rfl⟩, fun _ => by simp [layAll, nT]⟩
  | x :: xs, tk, u, ho, ht, hf, hu => by
    obtain ⟨h, hh, hx⟩ := hf x (List.mem_cons_self ..)
    have hn : nmI x = (h : Int) := nm_kept (by omega) hx
    simp only [okK, Bool.and_eq_true, hn] at ho
    obtain ⟨o1, o2, o3⟩ := ho
    have o2 := (Bool.not_eq_true' _).mp o2
    have hix : ixm (nmI x) (P.map rowOf).length = true := by rw [hn, List.length_map]; exact o1
    have hu' := layX_len hR hix hu
    have ih := lay_seg hP hR hA hm hk xs (tk.set (0 + (h : Int).toNat * 1) true) (layX (P.map rowOf) x u) o3 (by rw [List.length_set]; exact ht) (fun y hy => hf y (List.mem_cons_of_mem _ hy)) hu'
    rw [gt_set (by omega)] at ih
    have e : Sx.rowAt (P.map rowOf) (nmI x).toNat = rowOf P[h] := by rw [hn, Int.toNat_natCast]; unfold Sx.rowAt; rw [List.getD_eq_getElem?_getD, List.getElem?_map, List.getElem?_eq_getElem hh]; rfl
    have hlx : layX (P.map rowOf) x u = splice P[h].1 (if x < 0 then P[h].2.take (P[h].2.length / 2) else P[h].2) u := by
      unfold layX; rw [e]
      show splice (((P[h]).1 : Nat) : Int).toNat _ u = _
      rw [Int.toNat_natCast]; rfl
    have hq := hP _ (List.getElem_mem hh)
    have hq2 := hP _ (List.getElem_mem hk)
    show (_ → seg _ _ (layAll (P.map rowOf) xs (layX (P.map rowOf) x u)) = _ ∧ _) ∧ (_ → seg _ _ (layAll (P.map rowOf) xs (layX (P.map rowOf) x u)) = _)
    by_cases c : k = h
    · subst c
      rw [if_pos rfl] at ih
      refine ⟨fun g => absurd (g.symm.trans o2) (by simp), fun _ => ?_⟩
      obtain ⟨i1, i2⟩ := ih.1 rfl
      have hN : nT k P[k].2.length (x :: xs) 0 = if x < 0 then P[k].2.length / 2 else P[k].2.length := by
        show nT k P[k].2.length xs _ = _
        rw [i2]
        rcases hx with rfl | rfl
        · rw [if_pos rfl, if_pos (by omega)]
        · rw [if_neg (by omega), if_pos rfl, if_neg (by omega)]
      rw [i1, hN, hlx]
      split
      · rw [seg_self (by rw [List.length_take]; omega) (by omega), List.length_take, Nat.min_eq_left (by omega)]
      · rw [seg_self (Nat.le_refl _) (by omega), List.take_length]
    · rw [if_neg c] at ih
      have hx1 : ¬ x = -1 - (k : Int) := fun e => by rcases hx with e2 | e2 <;> omega
      have hx2 : ¬ x = (k : Int) := fun e => by rcases hx with e2 | e2 <;> omega
      have hN : ∀ n, nT k P[k].2.length (x :: xs) n = nT k P[k].2.length xs n := fun n => by
        show nT k P[k].2.length xs _ = _
        rw [if_neg hx1, if_neg hx2]
      have hap : P[h].1 + P[h].2.length ≤ P[k].1 ∨ P[k].1 + P[k].2.length ≤ P[h].1 := by
        have := List.pairwise_iff_getElem.1 hA
        rcases Nat.lt_or_ge h k with c2 | c2
        · exact .inl (this h k hh hk c2)
        · exact .inr (this k h hk hh (by omega))
      have hseg : seg P[k].1 P[k].2.length (layX (P.map rowOf) x u) = seg P[k].1 P[k].2.length u := by
        rw [hlx]
        split
        · exact seg_other (by rw [List.length_take]; omega) (by rw [List.length_take]; omega)
        · exact seg_other hap (by omega)
      rw [hseg] at ih
      refine ⟨fun g => ⟨(ih.1 g).1, fun n => by rw [hN]; exact (ih.1 g).2 n⟩, fun g => ?_⟩
      rw [hN]; exact ih.2 g
theorem sP_at {P : List (Nat × List UInt8)} {k : Nat} (hk : k < P.length) : sP (P.map rowOf) (k : Int) = P[k].2 ∧ fP (P.map rowOf) (k : Int) = (P[k].1 : Int) := by
  have e : Sx.rowAt (P.map rowOf) k = rowOf P[k] := by unfold Sx.rowAt; rw [List.getD_eq_getElem?_getD, List.getElem?_map, List.getElem?_eq_getElem hk]; rfl
  unfold sP fP
  rw [Int.toNat_natCast, e]
  exact ⟨rfl, rfl⟩
theorem rowsB_of {P : List (Nat × List UInt8)} (hP : ∀ p ∈ P, p.1 + p.2.length ≤ 320) : rowsB 320 (P.map rowOf) = true := by
  refine List.all_eq_true.2 fun r hr => ?_
  obtain ⟨p, hp, rfl⟩ := List.mem_map.1 hr
  have := hP p hp
  show (decide (0 ≤ ((p.1 : Nat) : Int)) && decide (((p.1 : Nat) : Int).toNat + p.2.length ≤ 320)) = true
  rw [decide_eq_true (by omega), decide_eq_true (by simpa using this)]; rfl
theorem torn_0 {P : List (Nat × List UInt8)} (hP : ∀ p ∈ P, p.1 + p.2.length ≤ 320) (hm : P.length ≤ 1000) {w : List UInt8} (hw : w.length = 320) : Torn (P.map rowOf) (fun _ => 0) w w :=
  ⟨hw, hw, rowsB_of hP, by rw [List.length_map]; exact hm, fun k hk => ⟨Nat.zero_le _, by simp, rfl⟩⟩
theorem torn_V {P : List (Nat × List UInt8)} (hP : ∀ p ∈ P, p.1 + p.2.length ≤ 320) (hA : P.Pairwise fun p q => p.1 + p.2.length ≤ q.1) (hm : P.length ≤ 1000) {l : List Int} (h0 : 0 < P.length) {w : List UInt8} (hw : w.length = 320) :
    Torn (P.map rowOf) (fun k => nT k (sP (P.map rowOf) k).length (keepS P.length l) 0) w (layAll (P.map rowOf) (keepS P.length l) w) := by
  have hR := rowsB_of hP
  have hok : okK P.length (tk P.length) (keepS P.length l) = true := keepL_ok h0 (by omega) _ _
  refine ⟨layAll_len hR (by rw [List.length_map]; exact okK_in hok) hw, hw, hR, by rw [List.length_map]; exact hm, fun k hk => ?_⟩
  rw [List.length_map] at hk
  obtain ⟨s1, s2⟩ := sP_at hk
  simp only
  rw [s1, s2, Int.toNat_natCast]
  have htk : gtB (k : Int) (tk P.length) = false := by
    unfold gtB tk; simp only [Int.toNat_natCast]
    rw [List.getD_eq_getElem?_getD, List.getElem?_replicate]; split <;> rfl
  have hl := (lay_seg hP hR hA (by omega) hk (keepS P.length l) (tk P.length) w hok (by unfold tk; simp) (keepL_form h0 _ _) hw).2 htk
  have hn := nT_le (k := k) (L := P[k].2.length) (keepS P.length l) 0 (Nat.zero_le _)
  generalize nT k P[k].2.length (keepS P.length l) 0 = n at hl hn
  unfold seg at hl
  have hq := hP _ (List.getElem_mem hk)
  have hv := layAll_len hR (l := keepS P.length l) (k := w) (by rw [List.length_map]; exact okK_in hok) hw
  generalize layAll (P.map rowOf) (keepS P.length l) w = v at hl hv
  generalize P[k].1 = a at hl hq
  generalize P[k].2 = S at hl hn hq
  have hS : (S.take n).length = n := by rw [List.length_take]; omega
  refine ⟨hn, ?_, ?_⟩
  · have := congrArg (List.take n) hl
    rw [List.take_take, Nat.min_eq_left hn, List.take_left' hS] at this
    exact this
  · have := congrArg (List.drop n) hl
    rw [List.drop_left' hS, List.drop_take, List.drop_take, List.drop_drop, List.drop_drop] at this
    exact this
end Go.Proofs.Ytoekeplljjaehaa

/- Layer 26: pieces that are torn: the law is true. -/
set_option linter.unusedVariables false
set_option linter.unusedSimpArgs false
namespace Go.Proofs.Ytoekeplljjaehaa
open Go Sx
theorem endT_true {r1 : List (List CV)} {ks : List Int} {k' : List UInt8} {c : List Bool} (hk : k'.length = 320) (hc : ∀ b ∈ c, b = true) : (endT r1 ks k' c).run pure2 = some (.bool true, pT2 r1 ks) := by
  have e1 := sT1_len r1
  unfold endT
  rw [allS_eq e1, allS_eq hk]
  simp only [Ans.run, Ans.chk]
  rw [bcT (smN_t hk hk), bcF (by rw [hk]; rfl), bcF (by rw [e1]; rfl)]
  exact ansChks_run (r := some (.bool true, pT2 r1 ks)) rfl hc
theorem askT_ok {l1 : Nat} {r1 : List (List CV)} {at_ : Int} {s : List UInt8} {e1 e2 : Bool} (hl : okA l1 r1 = true) (ha : i64B at_ = true) (h1 : e1 = true) (h2 : e2 = true) : ∀ b ∈ askT l1 r1 at_ s e1 e2, b = true := by
  have hp := pk_lt (c := at_) (n := 320) (by omega)
  have ep : pkI at_ 320 = (pk at_ 320 : Nat) := pkI_nat (n := 320) ha
  have et := tS_nat (s := s) ha
  have hs := smN_t (sT1_len r1) (sT1_len r1)
  have c1 : slB (minL (pkI at_ 320) s) s = true := by rw [ep, minL_nat (by omega)]; exact decide_eq_true ⟨by omega, by simp only [Int.toNat_natCast, List.length_take]; omega⟩
  have c2 : i64B (pkI at_ 320) = true := by rw [ep]; exact i64B_to (by omega)
  have c3 : inD 320 (pkI at_ 320) (tS at_ s).length = true := by rw [ep, et]; exact decide_eq_true ⟨by omega, by simp only [Int.toNat_natCast, List.length_take]; omega⟩
  unfold askT
  intro b hb
  simp only [List.mem_cons, List.not_mem_nil, or_false] at hb
  rcases hb with rfl | rfl | rfl | rfl | rfl | rfl | rfl | rfl | rfl | rfl <;> assumption
theorem torn_true {l1 lk : Nat} {r1 : List (List CV)} {ks : List Int} {at_ : Int} {s : List UInt8} (hl : okA l1 r1 = true) (ha : i64B at_ = true) (hk : ks.length = lk) (hi : ks.all i64B = true) :
    ((tS at_ s).isEmpty = true → (xT0 l1 r1 ks at_ s).run pure2 = some (.bool true, pT2 r1 ks)) ∧
    ((tS at_ s).isEmpty = false → (keepS (pTs at_ s).length ks).isEmpty = true → (xTE l1 lk r1 ks at_ s).run pure2 = some (.bool true, pT2 r1 ks)) ∧
    ((tS at_ s).isEmpty = false → (keepS (pTs at_ s).length ks).isEmpty = false → (xTV l1 lk r1 ks at_ s).run pure2 = some (.bool true, pT2 r1 ks)) := by
  have e1 := sT1_len r1
  have hs1 := smN_t e1 e1
  have hp := pk_lt (c := at_) (n := 320) (by omega)
  have ep : (pkI at_ 320).toNat = pk at_ 320 := by rw [show pkI at_ 320 = (pk at_ 320 : Nat) from pkI_nat (n := 320) ha, Int.toNat_natCast]
  have et := tS_nat (s := s) ha
  have hle : pk at_ 320 + (tS at_ s).length ≤ 320 := by rw [et, List.length_take]; omega
  have ePs : pTs at_ s = parts (pk at_ 320) (tS at_ s) := by unfold pTs; rw [ep]
  have hin : ∀ p ∈ pTs at_ s, p.1 + p.2.length ≤ 320 := fun p hp => by
    rw [ePs] at hp
    have := parts_in _ _ _ (Nat.le_refl _) p hp
    omega
  have hap : (pTs at_ s).Pairwise fun p q => p.1 + p.2.length ≤ q.1 := by rw [ePs]; exact parts_apart _ _ _ (Nat.le_refl _)
  have hlen : (pTs at_ s).length ≤ 320 := by
    rw [ePs]
    have := parts_len _ (pk at_ 320) (tS at_ s) (Nat.le_refl _)
    omega
  have hrows := rowsB_of hin
  have hv : vB ((pTs at_ s).map rowOf) (pTs at_ s).length = true := decide_eq_true ⟨by rw [List.length_map], by omega⟩
  have esp : (splice (pkI at_ 320).toNat (tS at_ s) (sT1 r1)).length = 320 := by rw [ep, splice_len (by omega)]; exact e1
  have hs2 := smN_t e1 esp
  have ne : (tS at_ s).isEmpty = false → pTs at_ s ≠ [] := fun h => by
    rw [ePs]; exact parts_ne (fun e => by rw [e] at h; cases h)
  have nb : (tS at_ s).isEmpty = false → (!(tS at_ s).isEmpty) = true ∧ (!(pTs at_ s).isEmpty) = true := fun h => by
    refine ⟨by rw [h]; rfl, ?_⟩
    have := ne h
    cases hq : pTs at_ s with
    | nil => exact absurd hq this
    | cons p ps => rfl
  have hask : pTs at_ s ≠ [] → askKp ks lk ((pTs at_ s).length : Nat) = true := fun h => askKp_to hk (List.length_pos_iff.2 h) (by omega) hi
  refine ⟨fun h => ?_, fun h h2 => ?_, fun h h2 => ?_⟩
  · unfold xT0
    have he : (pTs at_ s).isEmpty = true := by rw [ePs, List.isEmpty_iff.1 h, parts_nil]; rfl
    refine ansChks_run (endT_true e1 (by simp)) (all_app (askT_ok hl ha h he) (all_one hs1))
  · obtain ⟨n1, n2⟩ := nb h
    have a1 := hask (ne h)
    unfold xTE
    refine ansChks_run (endT_true e1 ?_) (all_app (askT_ok hl ha n1 n2) ?_)
    · intro b hb
      simp only [List.mem_cons, List.not_mem_nil, or_false] at hb
      rcases hb with rfl | rfl
      · exact eqSt_refl _
      · rw [allS_eq e1]; exact clB_to ⟨by rw [List.length_map], torn_0 hin (by omega) e1⟩
    · intro b hb
      simp only [List.mem_cons, List.not_mem_nil, or_false] at hb
      rcases hb with rfl | rfl | rfl | rfl <;> assumption
  · obtain ⟨n1, n2⟩ := nb h
    have a1 := hask (ne h)
    have hpos : 0 < (pTs at_ s).length := List.length_pos_iff.2 (ne h)
    have hok : okK (pTs at_ s).length (tk (pTs at_ s).length) (keepS (pTs at_ s).length ks) = true := keepL_ok hpos (by omega) _ _
    have ht := torn_V (l := ks) hin hap (by omega) hpos e1
    have hkl : (keepS (pTs at_ s).length ks).length ≤ 20 := by
      unfold keepS
      have := keepL_len (pTs at_ s).length (ks.take 20) (tk (pTs at_ s).length)
      rw [List.length_take] at this; omega
    have hne : (!(keepS (pTs at_ s).length ks).isEmpty) = true := by rw [h2]; rfl
    have hc : askC (keepS (pTs at_ s).length ks) (keepS (pTs at_ s).length ks).length 320 320 320 320 (pTs at_ s).length (sT1 r1) (splice (pkI at_ 320).toNat (tS at_ s) (sT1 r1)) ((pTs at_ s).map rowOf) = true := decide_eq_true ⟨rfl, by omega, rfl, rfl, rfl, by rw [List.length_map], by omega, e1, esp, by omega⟩
    have hkt : (kT r1 ks at_ s).length = 320 := ht.1
    unfold xTV
    refine ansChks_run (endT_true hkt ?_) (all_app (askT_ok hl ha n1 n2) ?_)
    · intro b hb
      simp only [List.mem_cons, List.not_mem_nil, or_false] at hb
      rcases hb with rfl | rfl
      · exact eqSt_refl _
      · rw [allS_eq e1, allS_eq hkt]; exact clB_to ⟨by rw [List.length_map], by trivial, by omega, ht⟩
    · intro b hb
      simp only [List.mem_cons, List.not_mem_nil, or_false] at hb
      rcases hb with rfl | rfl | rfl | rfl | rfl <;> assumption
end Go.Proofs.Ytoekeplljjaehaa
