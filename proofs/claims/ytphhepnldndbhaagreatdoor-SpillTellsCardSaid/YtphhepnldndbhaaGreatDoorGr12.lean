import Derived.Test.YtphhepnldndbhaaGreatDoorGr11
set_option linter.unusedVariables false
set_option linter.unusedSimpArgs false
set_option linter.unusedSectionVars false
namespace Go.Proofs.YtphhepnldndbhaaGreatDoor.Dp
open Go Sx Go.Proofs.YtphhepnldndbhaaGreatDoor
abbrev kT2 : Nat → Bool := fun n => hasN [4, 11, 13, 14, 15, 16] n
abbrev vwT2 : List (Nat × List CK) := [(15, shS), (16, shS)]
section
variable (R Z S W U X Y : List (List CV)) (n m k u : Nat) (wh o0 o1 o2 o3 o4 a0 a1 a2 : Int) (tl : List (Option PObj))
def sT2 : qzw := ⟨nn 4 ++ (some (.dsl 2 n) :: nn 6 ++ (some (.ptr 3 0) :: none :: some (.bool true) :: some (.ptr 4 0) :: some (.dsl 5 m) :: some (.dsl 6 u) :: nn 129)),
  [some (fA R), some (fZ Z), some (fSp S), some (oA3 a0 a1 a2), some (oB4 (.slice 7 0 2 2)), some (fSp W), some (fSp U)] ++ (tl ++ nn 64)⟩
def tuA (W : List (List CV)) (m k : Nat) (o0 o1 o2 o3 o4 : Int) : List (List CV) := (List.take m W).set k (mkS o0 o1 o2 o3 o4)
def tuB (W : List (List CV)) (m k : Nat) (o0 o1 o2 o3 o4 : Int) : List (List CV) := (tuA W m k o0 o1 o2 o3 o4).set k (mkS (c0 (Sx.rowAt W k)) (c1 (Sx.rowAt W k)) (c2 (Sx.rowAt W k)) (c3 (Sx.rowAt (tuA W m k o0 o1 o2 o3 o4) k)) (c4 (Sx.rowAt (tuA W m k o0 o1 o2 o3 o4) k)))
abbrev pk16 (wh : Int) : Int := qyv (w64 (Int.tdiv wh 16)) 2
def ckU (W : List (List CV)) (m : Nat) (k : Int) (U : List (List CV)) : List Bool := [decide (0 ≤ k ∧ k < (m : Int)), decide (k.toNat < W.length) && true && true, decide (0 ≤ k ∧ k < (m : Int)), decide (k.toNat < U.length) && true && true && true]
theorem t2n_0 : runsC (ent Tryz.prog tTe nolv 64 1 20) Tryz.prog {} 3 64 1 (endV 3 64 kT2 vwT2) 2 (restC 4 bTe) (sT1 R Z S n wh o0 o1 o2 o3 o4 a0 a1 a2 .qzz 6 [] ((fun _ => tl0) 7)) = some (.normal, sT2 R Z S [] [] n 0 0 a0 a1 a2 ((fun _ => tl0) 8)) := by kernel_rfl
theorem t2v_0 : runsC (ent Tryz.prog tTe nolv 64 1 20) Tryz.prog {} 3 64 1 (endV 3 64 kT2 vwT2) 2 (restC 4 bTe) (sT1 R Z S n wh o0 o1 o2 o3 o4 a0 a1 a2 (.vec 6 m) 7 [some (vS W)] ((fun _ => tl0) 8))
  = qyw (decide (0 < m)) (chks (qyw (decide ((m : Int) > 0)) (chks (qyw (pk16 wh == 0) (chks (some (.normal, sT2 R Z S W (tuB W m (qyv wh m).toNat o0 o1 o2 o3 o4) n m m a0 a1 a2 ((fun _ => tl0) 8))) (ckU W m (qyv wh m) (tuA W m (qyv wh m).toNat o0 o1 o2 o3 o4))) (some (.normal, sT2 R Z S W (tuA W m (qyv wh m).toNat o0 o1 o2 o3 o4) n m m a0 a1 a2 ((fun _ => tl0) 8))))
      [inI wh, decide (0 < (m : Int) ∧ (m : Int) < 1000000000), decide (0 ≤ qyv wh m ∧ qyv wh m < (m : Int)), decide ((qyv wh m).toNat < (List.take m W).length) && true && true && true, inI (w64 (Int.tdiv wh 16))])
      (some (.normal, sT2 R Z S W (List.take m W) n m m a0 a1 a2 ((fun _ => tl0) 8)))) [decide (m ≤ W.length) && roomB m 40])
    (chks (some (.normal, sT2 R Z S W [] n m 0 a0 a1 a2 ((fun _ => tl0) 8))) [decide (m ≤ W.length)]) := by kernel_rfl
theorem t2n_x : runsC (ent Tryz.prog tTe nolv 64 1 20) Tryz.prog {} 3 64 1 (endV 3 64 kT2 vwT2) 2 (restC 4 bTe) (sT1 R Z S n wh o0 o1 o2 o3 o4 a0 a1 a2 .qzz 6 [] ((fun b => tlX b X) 7)) = some (.normal, sT2 R Z S [] [] n 0 0 a0 a1 a2 ((fun b => tlX b X) 8)) := by kernel_rfl
theorem t2v_x : runsC (ent Tryz.prog tTe nolv 64 1 20) Tryz.prog {} 3 64 1 (endV 3 64 kT2 vwT2) 2 (restC 4 bTe) (sT1 R Z S n wh o0 o1 o2 o3 o4 a0 a1 a2 (.vec 6 m) 7 [some (vS W)] ((fun b => tlX b X) 8))
  = qyw (decide (0 < m)) (chks (qyw (decide ((m : Int) > 0)) (chks (qyw (pk16 wh == 0) (chks (some (.normal, sT2 R Z S W (tuB W m (qyv wh m).toNat o0 o1 o2 o3 o4) n m m a0 a1 a2 ((fun b => tlX b X) 8))) (ckU W m (qyv wh m) (tuA W m (qyv wh m).toNat o0 o1 o2 o3 o4))) (some (.normal, sT2 R Z S W (tuA W m (qyv wh m).toNat o0 o1 o2 o3 o4) n m m a0 a1 a2 ((fun b => tlX b X) 8))))
      [inI wh, decide (0 < (m : Int) ∧ (m : Int) < 1000000000), decide (0 ≤ qyv wh m ∧ qyv wh m < (m : Int)), decide ((qyv wh m).toNat < (List.take m W).length) && true && true && true, inI (w64 (Int.tdiv wh 16))])
      (some (.normal, sT2 R Z S W (List.take m W) n m m a0 a1 a2 ((fun b => tlX b X) 8)))) [decide (m ≤ W.length) && roomB m 40])
    (chks (some (.normal, sT2 R Z S W [] n m 0 a0 a1 a2 ((fun b => tlX b X) 8))) [decide (m ≤ W.length)]) := by kernel_rfl
theorem t2n_y : runsC (ent Tryz.prog tTe nolv 64 1 20) Tryz.prog {} 3 64 1 (endV 3 64 kT2 vwT2) 2 (restC 4 bTe) (sT1 R Z S n wh o0 o1 o2 o3 o4 a0 a1 a2 .qzz 6 [] ((fun b => tlY b Y) 7)) = some (.normal, sT2 R Z S [] [] n 0 0 a0 a1 a2 ((fun b => tlY b Y) 8)) := by kernel_rfl
theorem t2v_y : runsC (ent Tryz.prog tTe nolv 64 1 20) Tryz.prog {} 3 64 1 (endV 3 64 kT2 vwT2) 2 (restC 4 bTe) (sT1 R Z S n wh o0 o1 o2 o3 o4 a0 a1 a2 (.vec 6 m) 7 [some (vS W)] ((fun b => tlY b Y) 8))
  = qyw (decide (0 < m)) (chks (qyw (decide ((m : Int) > 0)) (chks (qyw (pk16 wh == 0) (chks (some (.normal, sT2 R Z S W (tuB W m (qyv wh m).toNat o0 o1 o2 o3 o4) n m m a0 a1 a2 ((fun b => tlY b Y) 8))) (ckU W m (qyv wh m) (tuA W m (qyv wh m).toNat o0 o1 o2 o3 o4))) (some (.normal, sT2 R Z S W (tuA W m (qyv wh m).toNat o0 o1 o2 o3 o4) n m m a0 a1 a2 ((fun b => tlY b Y) 8))))
      [inI wh, decide (0 < (m : Int) ∧ (m : Int) < 1000000000), decide (0 ≤ qyv wh m ∧ qyv wh m < (m : Int)), decide ((qyv wh m).toNat < (List.take m W).length) && true && true && true, inI (w64 (Int.tdiv wh 16))])
      (some (.normal, sT2 R Z S W (List.take m W) n m m a0 a1 a2 ((fun b => tlY b Y) 8)))) [decide (m ≤ W.length) && roomB m 40])
    (chks (some (.normal, sT2 R Z S W [] n m 0 a0 a1 a2 ((fun b => tlY b Y) 8))) [decide (m ≤ W.length)]) := by kernel_rfl
theorem t2n_b : runsC (ent Tryz.prog tTe nolv 64 1 20) Tryz.prog {} 3 64 1 (endV 3 64 kT2 vwT2) 2 (restC 4 bTe) (sT1 R Z S n wh o0 o1 o2 o3 o4 a0 a1 a2 .qzz 6 [] ((fun b => tlB b X Y) 7)) = some (.normal, sT2 R Z S [] [] n 0 0 a0 a1 a2 ((fun b => tlB b X Y) 8)) := by kernel_rfl
theorem t2v_b : runsC (ent Tryz.prog tTe nolv 64 1 20) Tryz.prog {} 3 64 1 (endV 3 64 kT2 vwT2) 2 (restC 4 bTe) (sT1 R Z S n wh o0 o1 o2 o3 o4 a0 a1 a2 (.vec 6 m) 7 [some (vS W)] ((fun b => tlB b X Y) 8))
  = qyw (decide (0 < m)) (chks (qyw (decide ((m : Int) > 0)) (chks (qyw (pk16 wh == 0) (chks (some (.normal, sT2 R Z S W (tuB W m (qyv wh m).toNat o0 o1 o2 o3 o4) n m m a0 a1 a2 ((fun b => tlB b X Y) 8))) (ckU W m (qyv wh m) (tuA W m (qyv wh m).toNat o0 o1 o2 o3 o4))) (some (.normal, sT2 R Z S W (tuA W m (qyv wh m).toNat o0 o1 o2 o3 o4) n m m a0 a1 a2 ((fun b => tlB b X Y) 8))))
      [inI wh, decide (0 < (m : Int) ∧ (m : Int) < 1000000000), decide (0 ≤ qyv wh m ∧ qyv wh m < (m : Int)), decide ((qyv wh m).toNat < (List.take m W).length) && true && true && true, inI (w64 (Int.tdiv wh 16))])
      (some (.normal, sT2 R Z S W (List.take m W) n m m a0 a1 a2 ((fun b => tlB b X Y) 8)))) [decide (m ≤ W.length) && roomB m 40])
    (chks (some (.normal, sT2 R Z S W [] n m 0 a0 a1 a2 ((fun b => tlB b X Y) 8))) [decide (m ≤ W.length)]) := by kernel_rfl
end
end Go.Proofs.YtphhepnldndbhaaGreatDoor.Dp
namespace Go.Proofs.YtphhepnldndbhaaGreatDoor.Dp
open Go Sx Go.Proofs.YtphhepnldndbhaaGreatDoor
open Classical in
noncomputable def eTold (f : FuncId) (v : AV) (ob : List PObj) : Ent := fun args pre => .chk (decide (Meets Tryz.prog f args (pre.map PObj.toA) v ((pre ++ ob).map PObj.toA))) (.ret v (pre ++ ob))
open Classical in
theorem eTold_ok (f : FuncId) (v : AV) (ob : List PObj) : EntOK Tryz.prog f (eTold f v ob) := fun args pre => by
  unfold eTold
  exact ⟨fun g => of_decide_eq_true g, fun _ => trivial⟩
open Classical in
noncomputable def ckTd (f : FuncId) (args : List AV) (pre : List PObj) (v : AV) (ob : List PObj) : Bool := decide (Meets Tryz.prog f args (pre.map PObj.toA) v ((pre ++ ob).map PObj.toA))
def cvX (L : List (List CV)) (n : Nat) (s r c : Int) : List CV := qyw (decide (covM L n s r c < n)) (Sx.rowAt L (covM L n s r c)) (mkS 0 0 0 0 0)
abbrev cvA (L : List (List CV)) (n : Nat) (s r c : Int) : AV := .tuple [.agg [.int .i64 (c0 (cvX L n s r c)), .int .i64 (c1 (cvX L n s r c)), .int .i64 (c2 (cvX L n s r c)), .int .i64 (c3 (cvX L n s r c)), .int .i64 (c4 (cvX L n s r c))], .bool (decide (covM L n s r c < n))]
open Classical in
noncomputable def eC1 (f : FuncId) : Ent := fun args pre => match args, pre with
  | [.dsl j n, .agg [.int .i64 s, .int .i64 r, .int .i64 c]], [.raw (.flatR fl sh L)] => .chk (Nat.beq j 0 && !fl && shEq sh shS) (.chk (decide (okCv L n r c)) (.ret (cvA L n s r c) [.raw (.flatR fl sh L)]))
  | _, _ => .fail
theorem cov_one {f : FuncId} {L : List (List CV)} {n : Nat} {s r c : Int} (h : (decide (covM L n s r c < n) = true → Meets Tryz.prog f [.dsl 0 n, aP s r c] ([fSp L].map PObj.toA) (cvV (Sx.rowAt L (covM L n s r c))) ([fSp L].map PObj.toA)) ∧ (decide (covM L n s r c < n) = false → Meets Tryz.prog f [.dsl 0 n, aP s r c] ([fSp L].map PObj.toA) cvN ([fSp L].map PObj.toA))) : Meets Tryz.prog f [.dsl 0 n, aP s r c] ([fSp L].map PObj.toA) (cvA L n s r c) ([fSp L].map PObj.toA) := by
  unfold cvA cvX
  cases hb : decide (covM L n s r c < n) with
  | true => exact h.1 hb
  | false => exact h.2 hb
open Classical in
theorem eC1_ok {f : FuncId} (h : ∀ L n s r c, okCv L n r c → (decide (covM L n s r c < n) = true → Meets Tryz.prog f [.dsl 0 n, aP s r c] ([fSp L].map PObj.toA) (cvV (Sx.rowAt L (covM L n s r c))) ([fSp L].map PObj.toA)) ∧ (decide (covM L n s r c < n) = false → Meets Tryz.prog f [.dsl 0 n, aP s r c] ([fSp L].map PObj.toA) cvN ([fSp L].map PObj.toA))) : EntOK Tryz.prog f (eC1 f) := fun args pre => by
  unfold eC1
  split
  · rename_i j n s r c fl sh L
    refine ⟨fun g0 => ⟨fun g1 => ?_, fun _ => trivial⟩, fun _ => trivial⟩
    simp only [Bool.and_eq_true, beqT, Bool.not_eq_true'] at g0
    obtain ⟨⟨rfl, rfl⟩, g⟩ := g0
    obtain rfl := shEq_of g
    exact cov_one (h L n s r c (of_decide_eq_true g1))
  · trivial
open Classical in
theorem eC1_cv : EntOK Tryz.prog 18 (eC1 18) := eC1_ok fun L n s r c hk => by
  have := eCv_ok [.dsl 0 n, aP s r c] [fSp L]
  unfold eCv at this
  exact (this.1 rfl).1 (decide_eq_true hk)
open Classical in
theorem eC1_cd : EntOK Tryz.prog 19 (eC1 19) := eC1_ok fun L n s r c hk => by
  have := eCd_ok [.dsl 0 n, aP s r c] [fSp L]
  unfold eCd at this
  exact (this.1 rfl).1 (decide_eq_true hk)
noncomputable def tIn : Tab := [(18, eC1 18), (19, eC1 19)]
theorem tIn_ok : TabOK Tryz.prog tIn := .cons eC1_cv (.cons eC1_cd .nil)
noncomputable def tRo (v : AV) (ob : List PObj) : Tab := [(fP, eTold fP v ob), (fPd, eTold fPd v ob), (16, eLSv), (17, eLAv), (13, ePick)]
theorem tRo_ok (v : AV) (ob : List PObj) : TabOK Tryz.prog (tRo v ob) := .cons (eTold_ok _ v ob) (.cons (eTold_ok _ v ob) (.cons eLSv_ok (.cons eLAv_ok (.cons ePick_ok .nil))))
end Go.Proofs.YtphhepnldndbhaaGreatDoor.Dp
namespace Go.Proofs.YtphhepnldndbhaaGreatDoor.Dp
open Go Sx Go.Proofs.YtphhepnldndbhaaGreatDoor
noncomputable abbrev loopT : Code := (qyu bTe).headD .skip
noncomputable abbrev loopI : Code := ((qyu loopT)).headD .skip
abbrev kL : Nat → Bool := fun n => hasN [11, 13, 14, 71, 72, 73] n
abbrev kLX : Nat → Bool := fun n => hasN [13] n
abbrev kI : Nat → Bool := fun n => hasN [11, 13, 14, 19, 71, 72, 73, 117, 118, 119] n
section
variable (R Z S W U X Y P B : List (List CV)) (m u v a b : Nat) (a0 a1 a2 : Int) (o : Bool) (sh : PObj) (vcs : List (Option PObj))
def sL (sh : PObj) (vcs : List (Option PObj)) (i : Int) : qzw := ⟨nn 11 ++ (some (.ptr 3 0) :: none :: some (.bool true) :: some (.ptr 4 0) :: nn 56 ++ (some (.slice 5 0 3 3) :: some (.int .i64 3) :: some (.int .i64 i) :: nn 72)), [some (fA R), some (fZ Z), some (fSp S), some (oA3 a0 a1 a2), some (oB4 (.slice 6 0 2 2)), some (.raw (.cells [.dsl 7 m, .dsl 8 u, .dsl 2 v] 28)), some sh, some (fSp W), some (fSp U)] ++ (vcs ++ nn 64)⟩
def sLX : qzw := ⟨nn 13 ++ (some (.bool true) :: nn 132), some (fA R) :: some (fZ Z) :: some (fSp S) :: nn 64⟩
def sI (p n q k : Nat) (i j : Int) (mem : List (Option PObj)) : qzw := ⟨nn 11 ++ (some (.ptr 3 0) :: none :: some (.bool true) :: some (.ptr 4 0) :: nn 4 ++ (some (.dsl p n) :: nn 51 ++ (some (.slice q 0 3 3) :: some (.int .i64 3) :: some (.int .i64 i) :: nn 43 ++ (some (.slice k 0 2 2) :: some (.int .i64 2) :: some (.int .i64 j) :: nn 26)))), mem ++ nn 64⟩
abbrev oPl (a0 a1 a2 : Int) : PObj := .raw (.cells [.int .i64 a0, .int .i64 a1, .int .i64 a2, .int .i64 (qyv a0 2), .int .i64 (qyv a1 9), .int .i64 (qyv a2 9)] 25)
def sI0 (sh : PObj) (vcs : List (Option PObj)) (j : Int) : qzw := sI 5 m 6 7 0 j ([some (fA R), some (fZ Z), some (fSp S), some (oA3 a0 a1 a2), some (oB4 (.slice 8 0 2 2)), some (fSp W), some (.raw (.cells [.dsl 5 m, .dsl 9 u, .dsl 2 v] 28)), some (oPl a0 a1 a2), some sh, some (fSp U)] ++ vcs)
def sI1 (sh : PObj) (vcs : List (Option PObj)) (j : Int) : qzw := sI 5 u 6 7 1 j ([some (fA R), some (fZ Z), some (fSp S), some (oA3 a0 a1 a2), some (oB4 (.slice 8 0 2 2)), some (fSp U), some (.raw (.cells [.dsl 9 m, .dsl 5 u, .dsl 2 v] 28)), some (oPl a0 a1 a2), some sh, some (fSp W)] ++ vcs)
def sI2 (sh : PObj) (vcs : List (Option PObj)) (j : Int) : qzw := sI 2 v 5 6 2 j ([some (fA R), some (fZ Z), some (fSp S), some (oA3 a0 a1 a2), some (oB4 (.slice 7 0 2 2)), some (.raw (.cells [.dsl 8 m, .dsl 9 u, .dsl 2 v] 28)), some (oPl a0 a1 a2), some sh, some (fSp W), some (fSp U)] ++ vcs)
end
end Go.Proofs.YtphhepnldndbhaaGreatDoor.Dp
namespace Go.Proofs.YtphhepnldndbhaaGreatDoor.Dp
open Go Sx Go.Proofs.YtphhepnldndbhaaGreatDoor
section
variable (R Z S W U X Y P B : List (List CV)) (m u v a b : Nat) (a0 a1 a2 : Int) (o : Bool) (sh : PObj) (vcs : List (Option PObj))
noncomputable def lvI_00 : Lv := { keep := fun i => if i = 18 then some [11, 13, 14, 19, 71, 72, 73, 117, 118, 119] else none, ent := oneL 18 (eAt 3 (sI0 R Z S W U m u v a0 a1 a2 (oSh .qzz .qzz) [] 0) (outC o (.exit 2) (sL R Z S W U m u v a0 a1 a2 (oSh .qzz .qzz) [] 0))) }
noncomputable def lvI_01 : Lv := { keep := fun i => if i = 18 then some [11, 13, 14, 19, 71, 72, 73, 117, 118, 119] else none, ent := oneL 18 (eAt 3 (sI1 R Z S W U m u v a0 a1 a2 (oSh .qzz .qzz) [] 0) (outC o (.exit 2) (sL R Z S W U m u v a0 a1 a2 (oSh .qzz .qzz) [] 1))) }
noncomputable def lvI_02 : Lv := { keep := fun i => if i = 18 then some [11, 13, 14, 19, 71, 72, 73, 117, 118, 119] else none, ent := oneL 18 (eAt 3 (sI2 R Z S W U m u v a0 a1 a2 (oSh .qzz .qzz) [] 0) (outC o (.exit 2) (sL R Z S W U m u v a0 a1 a2 (oSh .qzz .qzz) [] 2))) }
noncomputable def lvT_0 (n : Nat) : Lv := { keep := fun i => if i = 11 then some [11, 13, 14, 71, 72, 73] else none, ent := oneL 11 (eAt 3 (sL R Z S W U m u (mnI (n : Int) 12).toNat a0 a1 a2 (oSh .qzz .qzz) [] 0) (outC o (.exit 0) (sLX R Z S))) }
variable {R Z S W U X Y P B} {m u v a b} {a0 a1 a2}
open Classical in
theorem rT_00E : code (ent Tryz.prog (tRo plE []) nolv 64 1 20) Tryz.prog (lvI_00 R Z S W U m u v a0 a1 a2 o) 3 64 1 loopT (sL R Z S W U m u v a0 a1 a2 (oSh .qzz .qzz) [] 0) (endK 3 64 kL kLX)
  = chks (some (.normal, (sL R Z S W U m u v a0 a1 a2 (oSh .qzz .qzz) [] 1))) [ckTd fP [bkW, .dsl 1 m] [oSh .qzz .qzz, fSp W] plE [], ckTd fPd [bkW, .dsl 1 m] [oSh .qzz .qzz, fSp W] plE [], inI a0, inI a1, inI a2, eqSt (sI0 R Z S W U m u v a0 a1 a2 (oSh .qzz .qzz) [] 0) (sI0 R Z S W U m u v a0 a1 a2 (oSh .qzz .qzz) [] 0), o] := by kernel_rfl
open Classical in
theorem rT_0000 : code (ent Tryz.prog (tRo (plV .qzz .qzz) []) nolv 64 1 20) Tryz.prog (lvI_00 R Z S W U m u v a0 a1 a2 o) 3 64 1 loopT (sL R Z S W U m u v a0 a1 a2 (oSh .qzz .qzz) [] 0) (endK 3 64 kL kLX)
  = chks (some (.normal, (sL R Z S W U m u v a0 a1 a2 (oSh .qzz .qzz) [] 1))) [ckTd fP [bkW, .dsl 1 m] [oSh .qzz .qzz, fSp W] (plV .qzz .qzz) [], ckTd fPd [bkW, .dsl 1 m] [oSh .qzz .qzz, fSp W] (plV .qzz .qzz) [], inI a0, inI a1, inI a2, eqSt (sI0 R Z S W U m u v a0 a1 a2 (oSh .qzz .qzz) [] 0) (sI0 R Z S W U m u v a0 a1 a2 (oSh .qzz .qzz) [] 0), o] := by kernel_rfl
open Classical in
theorem rI_000 : code (ent Tryz.prog tIn nolv 64 1 20) Tryz.prog {} 3 64 1 loopI (sI0 R Z S W U m u v a0 a1 a2 (oSh .qzz .qzz) [] 0) (endK 3 64 kI kL)
  = chks (qyw (!eq5 (cvX W m a0 a1 a2) (cvX W m a0 a1 a2)) (some (.ret, (sL R Z S W U m u v a0 a1 a2 (oSh .qzz .qzz) [] 0))) (qyw ((decide (covM W m a0 a1 a2 < m)) != (decide (covM W m a0 a1 a2 < m))) (some (.ret, (sL R Z S W U m u v a0 a1 a2 (oSh .qzz .qzz) [] 0))) (some (.normal, sI0 R Z S W U m u v a0 a1 a2 (oSh .qzz .qzz) [] 1)))) [decide (okCv W m a1 a2), decide (okCv W m a1 a2)] := by kernel_rfl
open Classical in
theorem rI_001 : code (ent Tryz.prog tIn nolv 64 1 20) Tryz.prog {} 3 64 1 loopI (sI0 R Z S W U m u v a0 a1 a2 (oSh .qzz .qzz) [] 1) (endK 3 64 kI kL)
  = chks (qyw (!eq5 (cvX W m (qyv a0 2) (qyv a1 9) (qyv a2 9)) (cvX W m (qyv a0 2) (qyv a1 9) (qyv a2 9))) (some (.ret, (sL R Z S W U m u v a0 a1 a2 (oSh .qzz .qzz) [] 0))) (qyw ((decide (covM W m (qyv a0 2) (qyv a1 9) (qyv a2 9) < m)) != (decide (covM W m (qyv a0 2) (qyv a1 9) (qyv a2 9) < m))) (some (.ret, (sL R Z S W U m u v a0 a1 a2 (oSh .qzz .qzz) [] 0))) (some (.normal, sI0 R Z S W U m u v a0 a1 a2 (oSh .qzz .qzz) [] 2)))) [decide (okCv W m (qyv a1 9) (qyv a2 9)), decide (okCv W m (qyv a1 9) (qyv a2 9))] := by kernel_rfl
theorem rI_002 : code (ent Tryz.prog tIn nolv 64 1 20) Tryz.prog {} 3 64 1 loopI (sI0 R Z S W U m u v a0 a1 a2 (oSh .qzz .qzz) [] 2) (endK 3 64 kI kL) = some (.exit 2, (sL R Z S W U m u v a0 a1 a2 (oSh .qzz .qzz) [] 0)) := by kernel_rfl
open Classical in
theorem rT_01E : code (ent Tryz.prog (tRo plE []) nolv 64 1 20) Tryz.prog (lvI_01 R Z S W U m u v a0 a1 a2 o) 3 64 1 loopT (sL R Z S W U m u v a0 a1 a2 (oSh .qzz .qzz) [] 1) (endK 3 64 kL kLX)
  = chks (some (.normal, (sL R Z S W U m u v a0 a1 a2 (oSh .qzz .qzz) [] 2))) [ckTd fP [bkW, .dsl 1 u] [oSh .qzz .qzz, fSp U] plE [], ckTd fPd [bkW, .dsl 1 u] [oSh .qzz .qzz, fSp U] plE [], inI a0, inI a1, inI a2, eqSt (sI1 R Z S W U m u v a0 a1 a2 (oSh .qzz .qzz) [] 0) (sI1 R Z S W U m u v a0 a1 a2 (oSh .qzz .qzz) [] 0), o] := by kernel_rfl
open Classical in
theorem rT_0100 : code (ent Tryz.prog (tRo (plV .qzz .qzz) []) nolv 64 1 20) Tryz.prog (lvI_01 R Z S W U m u v a0 a1 a2 o) 3 64 1 loopT (sL R Z S W U m u v a0 a1 a2 (oSh .qzz .qzz) [] 1) (endK 3 64 kL kLX)
  = chks (some (.normal, (sL R Z S W U m u v a0 a1 a2 (oSh .qzz .qzz) [] 2))) [ckTd fP [bkW, .dsl 1 u] [oSh .qzz .qzz, fSp U] (plV .qzz .qzz) [], ckTd fPd [bkW, .dsl 1 u] [oSh .qzz .qzz, fSp U] (plV .qzz .qzz) [], inI a0, inI a1, inI a2, eqSt (sI1 R Z S W U m u v a0 a1 a2 (oSh .qzz .qzz) [] 0) (sI1 R Z S W U m u v a0 a1 a2 (oSh .qzz .qzz) [] 0), o] := by kernel_rfl
open Classical in
theorem rI_010 : code (ent Tryz.prog tIn nolv 64 1 20) Tryz.prog {} 3 64 1 loopI (sI1 R Z S W U m u v a0 a1 a2 (oSh .qzz .qzz) [] 0) (endK 3 64 kI kL)
  = chks (qyw (!eq5 (cvX U u a0 a1 a2) (cvX U u a0 a1 a2)) (some (.ret, (sL R Z S W U m u v a0 a1 a2 (oSh .qzz .qzz) [] 1))) (qyw ((decide (covM U u a0 a1 a2 < u)) != (decide (covM U u a0 a1 a2 < u))) (some (.ret, (sL R Z S W U m u v a0 a1 a2 (oSh .qzz .qzz) [] 1))) (some (.normal, sI1 R Z S W U m u v a0 a1 a2 (oSh .qzz .qzz) [] 1)))) [decide (okCv U u a1 a2), decide (okCv U u a1 a2)] := by kernel_rfl
open Classical in
theorem rI_011 : code (ent Tryz.prog tIn nolv 64 1 20) Tryz.prog {} 3 64 1 loopI (sI1 R Z S W U m u v a0 a1 a2 (oSh .qzz .qzz) [] 1) (endK 3 64 kI kL)
  = chks (qyw (!eq5 (cvX U u (qyv a0 2) (qyv a1 9) (qyv a2 9)) (cvX U u (qyv a0 2) (qyv a1 9) (qyv a2 9))) (some (.ret, (sL R Z S W U m u v a0 a1 a2 (oSh .qzz .qzz) [] 1))) (qyw ((decide (covM U u (qyv a0 2) (qyv a1 9) (qyv a2 9) < u)) != (decide (covM U u (qyv a0 2) (qyv a1 9) (qyv a2 9) < u))) (some (.ret, (sL R Z S W U m u v a0 a1 a2 (oSh .qzz .qzz) [] 1))) (some (.normal, sI1 R Z S W U m u v a0 a1 a2 (oSh .qzz .qzz) [] 2)))) [decide (okCv U u (qyv a1 9) (qyv a2 9)), decide (okCv U u (qyv a1 9) (qyv a2 9))] := by kernel_rfl
theorem rI_012 : code (ent Tryz.prog tIn nolv 64 1 20) Tryz.prog {} 3 64 1 loopI (sI1 R Z S W U m u v a0 a1 a2 (oSh .qzz .qzz) [] 2) (endK 3 64 kI kL) = some (.exit 2, (sL R Z S W U m u v a0 a1 a2 (oSh .qzz .qzz) [] 1)) := by kernel_rfl
open Classical in
theorem rT_02E : code (ent Tryz.prog (tRo plE []) nolv 64 1 20) Tryz.prog (lvI_02 R Z S W U m u v a0 a1 a2 o) 3 64 1 loopT (sL R Z S W U m u v a0 a1 a2 (oSh .qzz .qzz) [] 2) (endK 3 64 kL kLX)
  = chks (some (.normal, (sL R Z S W U m u v a0 a1 a2 (oSh .qzz .qzz) [] 3))) [ckTd fP [bkW, .dsl 1 v] [oSh .qzz .qzz, fSp S] plE [], ckTd fPd [bkW, .dsl 1 v] [oSh .qzz .qzz, fSp S] plE [], inI a0, inI a1, inI a2, eqSt (sI2 R Z S W U m u v a0 a1 a2 (oSh .qzz .qzz) [] 0) (sI2 R Z S W U m u v a0 a1 a2 (oSh .qzz .qzz) [] 0), o] := by kernel_rfl
open Classical in
theorem rT_0200 : code (ent Tryz.prog (tRo (plV .qzz .qzz) []) nolv 64 1 20) Tryz.prog (lvI_02 R Z S W U m u v a0 a1 a2 o) 3 64 1 loopT (sL R Z S W U m u v a0 a1 a2 (oSh .qzz .qzz) [] 2) (endK 3 64 kL kLX)
  = chks (some (.normal, (sL R Z S W U m u v a0 a1 a2 (oSh .qzz .qzz) [] 3))) [ckTd fP [bkW, .dsl 1 v] [oSh .qzz .qzz, fSp S] (plV .qzz .qzz) [], ckTd fPd [bkW, .dsl 1 v] [oSh .qzz .qzz, fSp S] (plV .qzz .qzz) [], inI a0, inI a1, inI a2, eqSt (sI2 R Z S W U m u v a0 a1 a2 (oSh .qzz .qzz) [] 0) (sI2 R Z S W U m u v a0 a1 a2 (oSh .qzz .qzz) [] 0), o] := by kernel_rfl
open Classical in
theorem rI_020 : code (ent Tryz.prog tIn nolv 64 1 20) Tryz.prog {} 3 64 1 loopI (sI2 R Z S W U m u v a0 a1 a2 (oSh .qzz .qzz) [] 0) (endK 3 64 kI kL)
  = chks (qyw (!eq5 (cvX S v a0 a1 a2) (cvX S v a0 a1 a2)) (some (.ret, (sL R Z S W U m u v a0 a1 a2 (oSh .qzz .qzz) [] 2))) (qyw ((decide (covM S v a0 a1 a2 < v)) != (decide (covM S v a0 a1 a2 < v))) (some (.ret, (sL R Z S W U m u v a0 a1 a2 (oSh .qzz .qzz) [] 2))) (some (.normal, sI2 R Z S W U m u v a0 a1 a2 (oSh .qzz .qzz) [] 1)))) [decide (okCv S v a1 a2), decide (okCv S v a1 a2)] := by kernel_rfl
open Classical in
theorem rI_021 : code (ent Tryz.prog tIn nolv 64 1 20) Tryz.prog {} 3 64 1 loopI (sI2 R Z S W U m u v a0 a1 a2 (oSh .qzz .qzz) [] 1) (endK 3 64 kI kL)
  = chks (qyw (!eq5 (cvX S v (qyv a0 2) (qyv a1 9) (qyv a2 9)) (cvX S v (qyv a0 2) (qyv a1 9) (qyv a2 9))) (some (.ret, (sL R Z S W U m u v a0 a1 a2 (oSh .qzz .qzz) [] 2))) (qyw ((decide (covM S v (qyv a0 2) (qyv a1 9) (qyv a2 9) < v)) != (decide (covM S v (qyv a0 2) (qyv a1 9) (qyv a2 9) < v))) (some (.ret, (sL R Z S W U m u v a0 a1 a2 (oSh .qzz .qzz) [] 2))) (some (.normal, sI2 R Z S W U m u v a0 a1 a2 (oSh .qzz .qzz) [] 2)))) [decide (okCv S v (qyv a1 9) (qyv a2 9)), decide (okCv S v (qyv a1 9) (qyv a2 9))] := by kernel_rfl
theorem rI_022 : code (ent Tryz.prog tIn nolv 64 1 20) Tryz.prog {} 3 64 1 loopI (sI2 R Z S W U m u v a0 a1 a2 (oSh .qzz .qzz) [] 2) (endK 3 64 kI kL) = some (.exit 2, (sL R Z S W U m u v a0 a1 a2 (oSh .qzz .qzz) [] 2)) := by kernel_rfl
theorem rT_03 : code (ent Tryz.prog [] nolv 64 1 20) Tryz.prog {} 3 64 1 loopT (sL R Z S W U m u v a0 a1 a2 (oSh .qzz .qzz) [] 3) (endK 3 64 kL kLX) = some (.exit 0, sLX R Z S) := by kernel_rfl
theorem re_0 (n : Nat) : code (ent (R := AV × List PObj) Tryz.prog tTe nolv 64 1 20) Tryz.prog (lvT_0 R Z S W U m u a0 a1 a2 o n) 3 64 1 (restC 6 bTe) (sT2 R Z S W U n m u a0 a1 a2 (tl0)) (finP Tryz.prog Tryz.f3 3 [fA R, fZ Z, fSp S] pure2)
  = chks (pure2 (.bool true) [fA R, fZ Z, fSp S]) [decide (0 ≤ mnI (n : Int) 12) && decide ((mnI (n : Int) 12).toNat ≤ n), eqSt (sL R Z S W U m u (mnI (n : Int) 12).toNat a0 a1 a2 (oSh .qzz .qzz) [] 0) (sL R Z S W U m u (mnI (n : Int) 12).toNat a0 a1 a2 (oSh .qzz .qzz) [] 0), o] := by kernel_rfl
end
end Go.Proofs.YtphhepnldndbhaaGreatDoor.Dp
namespace Go.Proofs.YtphhepnldndbhaaGreatDoor.Dp
open Go Sx Go.Proofs.YtphhepnldndbhaaGreatDoor
structure OkL (L : List (List CV)) (n : Nat) : Prop where
  le : n ≤ L.length
  few : n ≤ 400
  ints : ∀ j, j < n → inI (c1 (Sx.rowAt L j)) = true ∧ inI (c2 (Sx.rowAt L j)) = true
theorem qxx {a n : Int} (h0 : 0 < n) (h1 : n < 1000) : inI (qyv a n) = true := by
  have := pickS_bd (a := a) h0
  exact inI_iff.2 ⟨by omega, by omega⟩
theorem OkL.cv {L : List (List CV)} {n : Nat} (h : OkL L n) {r c : Int} (hr : inI r = true) (hc : inI c = true) : okCv L n r c := ⟨⟨hr, hc⟩, ⟨h.le, by have := h.few; omega⟩, h.ints⟩
theorem eq5_self (x : List CV) : eq5 x x = true := eq5_iff.2 ⟨⟨rfl, rfl, rfl⟩, rfl, rfl⟩
theorem sameS_self {P : List (List CV)} (h : P.length ≤ 1000) : SameS P P P.length P.length := ⟨rfl, Nat.le_refl _, Nat.le_refl _, h, fun j _ => eq5_self _⟩
theorem sameA_self {B : List (List CV)} (h : B.length ≤ 1000) : SameA B B B.length B.length := ⟨rfl, Nat.le_refl _, Nat.le_refl _, h, fun j _ => eq3_iff.2 ⟨rfl, rfl, rfl⟩⟩
theorem plPB_len (C L : List (List CV)) (n : Nat) : (plP C L n).length + (plB C L n).length = n := plN_len L (tkN C C.length) n
theorem it_loops : qyu loopT = [loopI] := by kernel_rfl
theorem it_head : headReg loopI = some 18 := by kernel_rfl
theorem it_loopsOK {lv : Lv} {K : Nat} (h : ∀ e, lv.ent 18 = some e → ∀ t, LAnsOK Tryz.prog loopI K t (e K t)) : LoopsOK Tryz.prog lv K loopT := by
  refine loops_at [(loopI, 18)] it_loops (fun p hp => ?_) fun p hp e he t => ?_
  · obtain rfl := List.mem_singleton.1 hp; exact it_head
  · obtain rfl := List.mem_singleton.1 hp; exact h e he t
theorem te_loops : qyu (restC 6 bTe) = [loopT, loopI] := by kernel_rfl
theorem te_head : headReg loopT = some 11 := by kernel_rfl
theorem te_loopsOK {lv : Lv} {K : Nat} (h : ∀ e, lv.ent 11 = some e → ∀ t, LAnsOK Tryz.prog loopT K t (e K t)) (h' : lv.ent 18 = none) : LoopsOK Tryz.prog lv K (restC 6 bTe) := by
  refine loops_at [(loopT, 11), (loopI, 18)] te_loops (fun p hp => ?_) fun p hp e he t => ?_
  · simp only [List.mem_cons, List.not_mem_nil, or_false] at hp
    rcases hp with rfl | rfl
    · exact te_head
    · exact it_head
  · simp only [List.mem_cons, List.not_mem_nil, or_false] at hp
    rcases hp with rfl | rfl
    · exact h e he t
    · rw [h'] at he; cases he
end Go.Proofs.YtphhepnldndbhaaGreatDoor.Dp
namespace Go.Proofs.YtphhepnldndbhaaGreatDoor.Dp
open Go Sx Go.Proofs.YtphhepnldndbhaaGreatDoor
section
variable {R Z S W U : List (List CV)} {m u v : Nat} {a0 a1 a2 : Int}
open Classical in
theorem inner_00 (hl : OkL W m) (h1 : inI a1 = true) (h2 : inI a2 = true) : Tri Tryz.prog (.loop loopI) (sI0 R Z S W U m u v a0 a1 a2 (oSh .qzz .qzz) [] 0).toA (.exit 2) (sL R Z S W U m u v a0 a1 a2 (oSh .qzz .qzz) [] 0).toA 3 := by
  refine tri_up (body := loopI) (fun j => (sI0 R Z S W U m u v a0 a1 a2 (oSh .qzz .qzz) [] (j : Int)).toA) (fun e => by cases e) 2 (fun j hj => ?_) ?_ 0 (Nat.zero_le _)
  · rcases (show j = 0 ∨ j = 1 by omega) with rfl | rfl
    · exact qzx tIn_ok ((rI_000 ).trans (by rw [qzy (all2 (decide_eq_true (hl.cv h1 h2)) (decide_eq_true (hl.cv h1 h2))), eq5_self, bcF (b := !true) rfl, bcF (by simp)]; rfl))
    · exact qzx tIn_ok ((rI_001 ).trans (by rw [qzy (all2 (decide_eq_true (hl.cv (qxx (by decide) (by decide)) (qxx (by decide) (by decide)))) (decide_eq_true (hl.cv (qxx (by decide) (by decide)) (qxx (by decide) (by decide))))), eq5_self, bcF (b := !true) rfl, bcF (by simp)]; rfl))
  · exact qzx tIn_ok (rI_002 )
open Classical in
theorem round_00 (hb : okBk [] []) (hl : OkL W m) (h0 : inI a0 = true) (h1 : inI a1 = true) (h2 : inI a2 = true) : Tri Tryz.prog loopT (sL R Z S W U m u v a0 a1 a2 (oSh .qzz .qzz) [] 0).toA .normal (sL R Z S W U m u v a0 a1 a2 (oSh .qzz .qzz) [] 1).toA 3 := by
  have hL : LoopsOK Tryz.prog (lvI_00 R Z S W U m u v a0 a1 a2 true) 3 loopT := it_loopsOK fun e he t => by cases he; exact eAt_ok (outC_ok fun _ => inner_00 hl h1 h2) 3 t
  have he : eqSt (sI0 R Z S W U m u v a0 a1 a2 (oSh .qzz .qzz) [] 0) (sI0 R Z S W U m u v a0 a1 a2 (oSh .qzz .qzz) [] 0) = true := qzt _
  cases hw : wrgB W (tkN (clL [] []) (clL [] []).length) m with
  | true =>
    have k1 := pe_0 hl.le hl.few hw
    have k2 := pde_0 hb hl.le hl.few hw
    refine qyy (r := (.normal, (sL R Z S W U m u v a0 a1 a2 (oSh .qzz .qzz) [] 1))) (qzv (tRo_ok plE []) host qyz (NF := 64) (m := 1) 20) hL ((rT_00E (o := true)).trans (qzy fun b hb' => ?_))
    simp only [List.mem_cons, List.not_mem_nil, or_false] at hb'
    rcases hb' with rfl | rfl | rfl | rfl | rfl | rfl | rfl
    · exact decide_eq_true k1
    · exact decide_eq_true k2
    · exact h0
    · exact h1
    · exact h2
    · exact he
    · rfl
  | false =>
    have k1 := pm_0 hl.le hl.few hw
    have k2 := pdm_0 hb hl.le hl.few hw
    have hlen := plPB_len (clL [] []) W m
    have hf := hl.few
    obtain rfl : m = 0 := wrg_zero hw
    refine qyy (r := (.normal, (sL R Z S W U 0 u v a0 a1 a2 (oSh .qzz .qzz) [] 1))) (qzv (tRo_ok (plV .qzz .qzz) []) host qyz (NF := 64) (m := 1) 20) hL ((rT_0000 (o := true)).trans (qzy fun b hb' => ?_))
    simp only [List.mem_cons, List.not_mem_nil, or_false] at hb'
    rcases hb' with rfl | rfl | rfl | rfl | rfl | rfl | rfl
    · exact decide_eq_true k1
    · exact decide_eq_true k2
    · exact h0
    · exact h1
    · exact h2
    · exact he
    · rfl
open Classical in
theorem inner_01 (hl : OkL U u) (h1 : inI a1 = true) (h2 : inI a2 = true) : Tri Tryz.prog (.loop loopI) (sI1 R Z S W U m u v a0 a1 a2 (oSh .qzz .qzz) [] 0).toA (.exit 2) (sL R Z S W U m u v a0 a1 a2 (oSh .qzz .qzz) [] 1).toA 3 := by
  refine tri_up (body := loopI) (fun j => (sI1 R Z S W U m u v a0 a1 a2 (oSh .qzz .qzz) [] (j : Int)).toA) (fun e => by cases e) 2 (fun j hj => ?_) ?_ 0 (Nat.zero_le _)
  · rcases (show j = 0 ∨ j = 1 by omega) with rfl | rfl
    · exact qzx tIn_ok ((rI_010 ).trans (by rw [qzy (all2 (decide_eq_true (hl.cv h1 h2)) (decide_eq_true (hl.cv h1 h2))), eq5_self, bcF (b := !true) rfl, bcF (by simp)]; rfl))
    · exact qzx tIn_ok ((rI_011 ).trans (by rw [qzy (all2 (decide_eq_true (hl.cv (qxx (by decide) (by decide)) (qxx (by decide) (by decide)))) (decide_eq_true (hl.cv (qxx (by decide) (by decide)) (qxx (by decide) (by decide))))), eq5_self, bcF (b := !true) rfl, bcF (by simp)]; rfl))
  · exact qzx tIn_ok (rI_012 )
open Classical in
theorem round_01 (hb : okBk [] []) (hl : OkL U u) (h0 : inI a0 = true) (h1 : inI a1 = true) (h2 : inI a2 = true) : Tri Tryz.prog loopT (sL R Z S W U m u v a0 a1 a2 (oSh .qzz .qzz) [] 1).toA .normal (sL R Z S W U m u v a0 a1 a2 (oSh .qzz .qzz) [] 2).toA 3 := by
  have hL : LoopsOK Tryz.prog (lvI_01 R Z S W U m u v a0 a1 a2 true) 3 loopT := it_loopsOK fun e he t => by cases he; exact eAt_ok (outC_ok fun _ => inner_01 hl h1 h2) 3 t
  have he : eqSt (sI1 R Z S W U m u v a0 a1 a2 (oSh .qzz .qzz) [] 0) (sI1 R Z S W U m u v a0 a1 a2 (oSh .qzz .qzz) [] 0) = true := qzt _
  cases hw : wrgB U (tkN (clL [] []) (clL [] []).length) u with
  | true =>
    have k1 := pe_0 hl.le hl.few hw
    have k2 := pde_0 hb hl.le hl.few hw
    refine qyy (r := (.normal, (sL R Z S W U m u v a0 a1 a2 (oSh .qzz .qzz) [] 2))) (qzv (tRo_ok plE []) host qyz (NF := 64) (m := 1) 20) hL ((rT_01E (o := true)).trans (qzy fun b hb' => ?_))
    simp only [List.mem_cons, List.not_mem_nil, or_false] at hb'
    rcases hb' with rfl | rfl | rfl | rfl | rfl | rfl | rfl
    · exact decide_eq_true k1
    · exact decide_eq_true k2
    · exact h0
    · exact h1
    · exact h2
    · exact he
    · rfl
  | false =>
    have k1 := pm_0 hl.le hl.few hw
    have k2 := pdm_0 hb hl.le hl.few hw
    have hlen := plPB_len (clL [] []) U u
    have hf := hl.few
    obtain rfl : u = 0 := wrg_zero hw
    refine qyy (r := (.normal, (sL R Z S W U m 0 v a0 a1 a2 (oSh .qzz .qzz) [] 2))) (qzv (tRo_ok (plV .qzz .qzz) []) host qyz (NF := 64) (m := 1) 20) hL ((rT_0100 (o := true)).trans (qzy fun b hb' => ?_))
    simp only [List.mem_cons, List.not_mem_nil, or_false] at hb'
    rcases hb' with rfl | rfl | rfl | rfl | rfl | rfl | rfl
    · exact decide_eq_true k1
    · exact decide_eq_true k2
    · exact h0
    · exact h1
    · exact h2
    · exact he
    · rfl
open Classical in
theorem inner_02 (hl : OkL S v) (h1 : inI a1 = true) (h2 : inI a2 = true) : Tri Tryz.prog (.loop loopI) (sI2 R Z S W U m u v a0 a1 a2 (oSh .qzz .qzz) [] 0).toA (.exit 2) (sL R Z S W U m u v a0 a1 a2 (oSh .qzz .qzz) [] 2).toA 3 := by
  refine tri_up (body := loopI) (fun j => (sI2 R Z S W U m u v a0 a1 a2 (oSh .qzz .qzz) [] (j : Int)).toA) (fun e => by cases e) 2 (fun j hj => ?_) ?_ 0 (Nat.zero_le _)
  · rcases (show j = 0 ∨ j = 1 by omega) with rfl | rfl
    · exact qzx tIn_ok ((rI_020 ).trans (by rw [qzy (all2 (decide_eq_true (hl.cv h1 h2)) (decide_eq_true (hl.cv h1 h2))), eq5_self, bcF (b := !true) rfl, bcF (by simp)]; rfl))
    · exact qzx tIn_ok ((rI_021 ).trans (by rw [qzy (all2 (decide_eq_true (hl.cv (qxx (by decide) (by decide)) (qxx (by decide) (by decide)))) (decide_eq_true (hl.cv (qxx (by decide) (by decide)) (qxx (by decide) (by decide))))), eq5_self, bcF (b := !true) rfl, bcF (by simp)]; rfl))
  · exact qzx tIn_ok (rI_022 )
open Classical in
theorem round_02 (hb : okBk [] []) (hl : OkL S v) (h0 : inI a0 = true) (h1 : inI a1 = true) (h2 : inI a2 = true) : Tri Tryz.prog loopT (sL R Z S W U m u v a0 a1 a2 (oSh .qzz .qzz) [] 2).toA .normal (sL R Z S W U m u v a0 a1 a2 (oSh .qzz .qzz) [] 3).toA 3 := by
  have hL : LoopsOK Tryz.prog (lvI_02 R Z S W U m u v a0 a1 a2 true) 3 loopT := it_loopsOK fun e he t => by cases he; exact eAt_ok (outC_ok fun _ => inner_02 hl h1 h2) 3 t
  have he : eqSt (sI2 R Z S W U m u v a0 a1 a2 (oSh .qzz .qzz) [] 0) (sI2 R Z S W U m u v a0 a1 a2 (oSh .qzz .qzz) [] 0) = true := qzt _
  cases hw : wrgB S (tkN (clL [] []) (clL [] []).length) v with
  | true =>
    have k1 := pe_0 hl.le hl.few hw
    have k2 := pde_0 hb hl.le hl.few hw
    refine qyy (r := (.normal, (sL R Z S W U m u v a0 a1 a2 (oSh .qzz .qzz) [] 3))) (qzv (tRo_ok plE []) host qyz (NF := 64) (m := 1) 20) hL ((rT_02E (o := true)).trans (qzy fun b hb' => ?_))
    simp only [List.mem_cons, List.not_mem_nil, or_false] at hb'
    rcases hb' with rfl | rfl | rfl | rfl | rfl | rfl | rfl
    · exact decide_eq_true k1
    · exact decide_eq_true k2
    · exact h0
    · exact h1
    · exact h2
    · exact he
    · rfl
  | false =>
    have k1 := pm_0 hl.le hl.few hw
    have k2 := pdm_0 hb hl.le hl.few hw
    have hlen := plPB_len (clL [] []) S v
    have hf := hl.few
    obtain rfl : v = 0 := wrg_zero hw
    refine qyy (r := (.normal, (sL R Z S W U m u 0 a0 a1 a2 (oSh .qzz .qzz) [] 3))) (qzv (tRo_ok (plV .qzz .qzz) []) host qyz (NF := 64) (m := 1) 20) hL ((rT_0200 (o := true)).trans (qzy fun b hb' => ?_))
    simp only [List.mem_cons, List.not_mem_nil, or_false] at hb'
    rcases hb' with rfl | rfl | rfl | rfl | rfl | rfl | rfl
    · exact decide_eq_true k1
    · exact decide_eq_true k2
    · exact h0
    · exact h1
    · exact h2
    · exact he
    · rfl
theorem loopTe_0 (hb : okBk [] []) (hW : OkL W m) (hU : OkL U u) (hS : OkL S v) (h0 : inI a0 = true) (h1 : inI a1 = true) (h2 : inI a2 = true) : Tri Tryz.prog (.loop loopT) (sL R Z S W U m u v a0 a1 a2 (oSh .qzz .qzz) [] 0).toA (.exit 0) (sLX R Z S).toA 3 := by
  refine tri_up (body := loopT) (fun j => (sL R Z S W U m u v a0 a1 a2 (oSh .qzz .qzz) [] (j : Int)).toA) (fun e => by cases e) 3 (fun j hj => ?_) ?_ 0 (Nat.zero_le _)
  · rcases (show j = 0 ∨ j = 1 ∨ j = 2 by omega) with rfl | rfl | rfl
    · exact round_00 hb hW h0 h1 h2
    · exact round_01 hb hU h0 h1 h2
    · exact round_02 hb hS h0 h1 h2
  · exact qzx (T := []) .nil (rT_03 )
theorem goes_0 {n : Nat} (hb : okBk [] []) (hW : OkL W m) (hU : OkL U u) (hS : OkL S (mnI (n : Int) 12).toNat) (h0 : inI a0 = true) (h1 : inI a1 = true) (h2 : inI a2 = true) : GoesTo Tryz.prog Tryz.f3 [fA R, fZ Z, fSp S] pure2 (restC 6 bTe) (sT2 R Z S W U n m u a0 a1 a2 (tl0)) (AV.bool true, [fA R, fZ Z, fSp S]) := by
  have hL : LoopsOK Tryz.prog (lvT_0 R Z S W U m u a0 a1 a2 true n) 3 (restC 6 bTe) := te_loopsOK (fun e he t => by cases he; exact eAt_ok (outC_ok fun _ => loopTe_0 hb hW hU hS h0 h1 h2) 3 t) rfl
  refine goes_code (pre := [fA R, fZ Z, fSp S]) (qzv tTe_ok host qyz 20) hL ((re_0 (o := true) n).trans ?_)
  have hm : 0 ≤ mnI (n : Int) 12 ∧ (mnI (n : Int) 12).toNat ≤ n := by
    show 0 ≤ (if (12 : Int) < (n : Int) then 12 else (n : Int)) ∧ (if (12 : Int) < (n : Int) then 12 else (n : Int)).toNat ≤ n
    split <;> omega
  rw [qzy (fun b hb' => ?_)]
  · rfl
  · simp only [List.mem_cons, List.not_mem_nil, or_false] at hb'
    rcases hb' with rfl | rfl | rfl
    · rw [decide_eq_true hm.1, decide_eq_true hm.2]; rfl
    · exact qzt _
    · rfl
end
end Go.Proofs.YtphhepnldndbhaaGreatDoor.Dp
namespace Go.Proofs.YtphhepnldndbhaaGreatDoor.Dp
open Go Sx Go.Proofs.YtphhepnldndbhaaGreatDoor
section
variable (R Z S W U X Y P B : List (List CV)) (m u v a b : Nat) (a0 a1 a2 : Int) (o : Bool) (sh : PObj) (vcs : List (Option PObj))
noncomputable def lvI_x0 : Lv := { keep := fun i => if i = 18 then some [11, 13, 14, 19, 71, 72, 73, 117, 118, 119] else none, ent := oneL 18 (eAt 3 (sI0 R Z S W U m u v a0 a1 a2 (oSh (.vec 10 X.length) .qzz) [some (vC X)] 0) (outC o (.exit 2) (sL R Z S W U m u v a0 a1 a2 (oSh (.vec 9 X.length) .qzz) [some (vC X)] 0))) }
noncomputable def lvI_x1 : Lv := { keep := fun i => if i = 18 then some [11, 13, 14, 19, 71, 72, 73, 117, 118, 119] else none, ent := oneL 18 (eAt 3 (sI1 R Z S W U m u v a0 a1 a2 (oSh (.vec 10 X.length) .qzz) [some (vC X)] 0) (outC o (.exit 2) (sL R Z S W U m u v a0 a1 a2 (oSh (.vec 9 X.length) .qzz) [some (vC X)] 1))) }
noncomputable def lvI_x2 : Lv := { keep := fun i => if i = 18 then some [11, 13, 14, 19, 71, 72, 73, 117, 118, 119] else none, ent := oneL 18 (eAt 3 (sI2 R Z S W U m u v a0 a1 a2 (oSh (.vec 10 X.length) .qzz) [some (vC X)] 0) (outC o (.exit 2) (sL R Z S W U m u v a0 a1 a2 (oSh (.vec 9 X.length) .qzz) [some (vC X)] 2))) }
noncomputable def lvT_x (n : Nat) : Lv := { keep := fun i => if i = 11 then some [11, 13, 14, 71, 72, 73] else none, ent := oneL 11 (eAt 3 (sL R Z S W U m u (mnI (n : Int) 12).toNat a0 a1 a2 (oSh (.vec 9 X.length) .qzz) [some (vC X)] 0) (outC o (.exit 0) (sLX R Z S))) }
variable {R Z S W U X Y P B} {m u v a b} {a0 a1 a2}
open Classical in
theorem rT_x0E : code (ent Tryz.prog (tRo plE []) nolv 64 1 20) Tryz.prog (lvI_x0 R Z S W U X m u v a0 a1 a2 o) 3 64 1 loopT (sL R Z S W U m u v a0 a1 a2 (oSh (.vec 9 X.length) .qzz) [some (vC X)] 0) (endK 3 64 kL kLX)
  = chks (some (.normal, (sL R Z S W U m u v a0 a1 a2 (oSh (.vec 9 X.length) .qzz) [some (vC X)] 1))) [ckTd fP [bkW, .dsl 1 m] [oSh (.vec 2 X.length) .qzz, fSp W, vC X] plE [], ckTd fPd [bkW, .dsl 1 m] [oSh (.vec 2 X.length) .qzz, fSp W, vC X] plE [], inI a0, inI a1, inI a2, eqSt (sI0 R Z S W U m u v a0 a1 a2 (oSh (.vec 10 X.length) .qzz) [some (vC X)] 0) (sI0 R Z S W U m u v a0 a1 a2 (oSh (.vec 10 X.length) .qzz) [some (vC X)] 0), o] := by kernel_rfl
open Classical in
theorem rT_x000 : code (ent Tryz.prog (tRo (plV .qzz .qzz) []) nolv 64 1 20) Tryz.prog (lvI_x0 R Z S W U X m u v a0 a1 a2 o) 3 64 1 loopT (sL R Z S W U m u v a0 a1 a2 (oSh (.vec 9 X.length) .qzz) [some (vC X)] 0) (endK 3 64 kL kLX)
  = chks (some (.normal, (sL R Z S W U m u v a0 a1 a2 (oSh (.vec 9 X.length) .qzz) [some (vC X)] 1))) [ckTd fP [bkW, .dsl 1 m] [oSh (.vec 2 X.length) .qzz, fSp W, vC X] (plV .qzz .qzz) [], ckTd fPd [bkW, .dsl 1 m] [oSh (.vec 2 X.length) .qzz, fSp W, vC X] (plV .qzz .qzz) [], inI a0, inI a1, inI a2, eqSt (sI0 R Z S W U m u v a0 a1 a2 (oSh (.vec 10 X.length) .qzz) [some (vC X)] 0) (sI0 R Z S W U m u v a0 a1 a2 (oSh (.vec 10 X.length) .qzz) [some (vC X)] 0), o] := by kernel_rfl
open Classical in
theorem rT_x001 : code (ent Tryz.prog (tRo (plV .qzz (.vec 3 b)) [vA B]) nolv 64 1 20) Tryz.prog (lvI_x0 R Z S W U X m u v a0 a1 a2 o) 3 64 1 loopT (sL R Z S W U m u v a0 a1 a2 (oSh (.vec 9 X.length) .qzz) [some (vC X)] 0) (endK 3 64 kL kLX)
  = chks (some (.normal, (sL R Z S W U m u v a0 a1 a2 (oSh (.vec 9 X.length) .qzz) [some (vC X)] 1))) [ckTd fP [bkW, .dsl 1 m] [oSh (.vec 2 X.length) .qzz, fSp W, vC X] (plV .qzz (.vec 3 b)) [vA B], ckTd fPd [bkW, .dsl 1 m] [oSh (.vec 2 X.length) .qzz, fSp W, vC X] (plV .qzz (.vec 3 b)) [vA B], decide (SameA B B b b), inI a0, inI a1, inI a2, eqSt (sI0 R Z S W U m u v a0 a1 a2 (oSh (.vec 10 X.length) .qzz) [some (vC X)] 0) (sI0 R Z S W U m u v a0 a1 a2 (oSh (.vec 10 X.length) .qzz) [some (vC X)] 0), o] := by kernel_rfl
open Classical in
theorem rT_x010 : code (ent Tryz.prog (tRo (plV (.vec 3 a) .qzz) [vS P]) nolv 64 1 20) Tryz.prog (lvI_x0 R Z S W U X m u v a0 a1 a2 o) 3 64 1 loopT (sL R Z S W U m u v a0 a1 a2 (oSh (.vec 9 X.length) .qzz) [some (vC X)] 0) (endK 3 64 kL kLX)
  = chks (some (.normal, (sL R Z S W U m u v a0 a1 a2 (oSh (.vec 9 X.length) .qzz) [some (vC X)] 1))) [ckTd fP [bkW, .dsl 1 m] [oSh (.vec 2 X.length) .qzz, fSp W, vC X] (plV (.vec 3 a) .qzz) [vS P], ckTd fPd [bkW, .dsl 1 m] [oSh (.vec 2 X.length) .qzz, fSp W, vC X] (plV (.vec 3 a) .qzz) [vS P], decide (SameS P P a a), inI a0, inI a1, inI a2, eqSt (sI0 R Z S W U m u v a0 a1 a2 (oSh (.vec 10 X.length) .qzz) [some (vC X)] 0) (sI0 R Z S W U m u v a0 a1 a2 (oSh (.vec 10 X.length) .qzz) [some (vC X)] 0), o] := by kernel_rfl
open Classical in
theorem rT_x011 : code (ent Tryz.prog (tRo (plV (.vec 3 a) (.vec 4 b)) [vS P, vA B]) nolv 64 1 20) Tryz.prog (lvI_x0 R Z S W U X m u v a0 a1 a2 o) 3 64 1 loopT (sL R Z S W U m u v a0 a1 a2 (oSh (.vec 9 X.length) .qzz) [some (vC X)] 0) (endK 3 64 kL kLX)
  = chks (some (.normal, (sL R Z S W U m u v a0 a1 a2 (oSh (.vec 9 X.length) .qzz) [some (vC X)] 1))) [ckTd fP [bkW, .dsl 1 m] [oSh (.vec 2 X.length) .qzz, fSp W, vC X] (plV (.vec 3 a) (.vec 4 b)) [vS P, vA B], ckTd fPd [bkW, .dsl 1 m] [oSh (.vec 2 X.length) .qzz, fSp W, vC X] (plV (.vec 3 a) (.vec 4 b)) [vS P, vA B], decide (SameS P P a a), decide (SameA B B b b), inI a0, inI a1, inI a2, eqSt (sI0 R Z S W U m u v a0 a1 a2 (oSh (.vec 10 X.length) .qzz) [some (vC X)] 0) (sI0 R Z S W U m u v a0 a1 a2 (oSh (.vec 10 X.length) .qzz) [some (vC X)] 0), o] := by kernel_rfl
open Classical in
theorem rI_x00 : code (ent Tryz.prog tIn nolv 64 1 20) Tryz.prog {} 3 64 1 loopI (sI0 R Z S W U m u v a0 a1 a2 (oSh (.vec 10 X.length) .qzz) [some (vC X)] 0) (endK 3 64 kI kL)
  = chks (qyw (!eq5 (cvX W m a0 a1 a2) (cvX W m a0 a1 a2)) (some (.ret, (sL R Z S W U m u v a0 a1 a2 (oSh (.vec 9 X.length) .qzz) [some (vC X)] 0))) (qyw ((decide (covM W m a0 a1 a2 < m)) != (decide (covM W m a0 a1 a2 < m))) (some (.ret, (sL R Z S W U m u v a0 a1 a2 (oSh (.vec 9 X.length) .qzz) [some (vC X)] 0))) (some (.normal, sI0 R Z S W U m u v a0 a1 a2 (oSh (.vec 10 X.length) .qzz) [some (vC X)] 1)))) [decide (okCv W m a1 a2), decide (okCv W m a1 a2)] := by kernel_rfl
open Classical in
theorem rI_x01 : code (ent Tryz.prog tIn nolv 64 1 20) Tryz.prog {} 3 64 1 loopI (sI0 R Z S W U m u v a0 a1 a2 (oSh (.vec 10 X.length) .qzz) [some (vC X)] 1) (endK 3 64 kI kL)
  = chks (qyw (!eq5 (cvX W m (qyv a0 2) (qyv a1 9) (qyv a2 9)) (cvX W m (qyv a0 2) (qyv a1 9) (qyv a2 9))) (some (.ret, (sL R Z S W U m u v a0 a1 a2 (oSh (.vec 9 X.length) .qzz) [some (vC X)] 0))) (qyw ((decide (covM W m (qyv a0 2) (qyv a1 9) (qyv a2 9) < m)) != (decide (covM W m (qyv a0 2) (qyv a1 9) (qyv a2 9) < m))) (some (.ret, (sL R Z S W U m u v a0 a1 a2 (oSh (.vec 9 X.length) .qzz) [some (vC X)] 0))) (some (.normal, sI0 R Z S W U m u v a0 a1 a2 (oSh (.vec 10 X.length) .qzz) [some (vC X)] 2)))) [decide (okCv W m (qyv a1 9) (qyv a2 9)), decide (okCv W m (qyv a1 9) (qyv a2 9))] := by kernel_rfl
theorem rI_x02 : code (ent Tryz.prog tIn nolv 64 1 20) Tryz.prog {} 3 64 1 loopI (sI0 R Z S W U m u v a0 a1 a2 (oSh (.vec 10 X.length) .qzz) [some (vC X)] 2) (endK 3 64 kI kL) = some (.exit 2, (sL R Z S W U m u v a0 a1 a2 (oSh (.vec 9 X.length) .qzz) [some (vC X)] 0)) := by kernel_rfl
open Classical in
theorem rT_x1E : code (ent Tryz.prog (tRo plE []) nolv 64 1 20) Tryz.prog (lvI_x1 R Z S W U X m u v a0 a1 a2 o) 3 64 1 loopT (sL R Z S W U m u v a0 a1 a2 (oSh (.vec 9 X.length) .qzz) [some (vC X)] 1) (endK 3 64 kL kLX)
  = chks (some (.normal, (sL R Z S W U m u v a0 a1 a2 (oSh (.vec 9 X.length) .qzz) [some (vC X)] 2))) [ckTd fP [bkW, .dsl 1 u] [oSh (.vec 2 X.length) .qzz, fSp U, vC X] plE [], ckTd fPd [bkW, .dsl 1 u] [oSh (.vec 2 X.length) .qzz, fSp U, vC X] plE [], inI a0, inI a1, inI a2, eqSt (sI1 R Z S W U m u v a0 a1 a2 (oSh (.vec 10 X.length) .qzz) [some (vC X)] 0) (sI1 R Z S W U m u v a0 a1 a2 (oSh (.vec 10 X.length) .qzz) [some (vC X)] 0), o] := by kernel_rfl
open Classical in
theorem rT_x100 : code (ent Tryz.prog (tRo (plV .qzz .qzz) []) nolv 64 1 20) Tryz.prog (lvI_x1 R Z S W U X m u v a0 a1 a2 o) 3 64 1 loopT (sL R Z S W U m u v a0 a1 a2 (oSh (.vec 9 X.length) .qzz) [some (vC X)] 1) (endK 3 64 kL kLX)
  = chks (some (.normal, (sL R Z S W U m u v a0 a1 a2 (oSh (.vec 9 X.length) .qzz) [some (vC X)] 2))) [ckTd fP [bkW, .dsl 1 u] [oSh (.vec 2 X.length) .qzz, fSp U, vC X] (plV .qzz .qzz) [], ckTd fPd [bkW, .dsl 1 u] [oSh (.vec 2 X.length) .qzz, fSp U, vC X] (plV .qzz .qzz) [], inI a0, inI a1, inI a2, eqSt (sI1 R Z S W U m u v a0 a1 a2 (oSh (.vec 10 X.length) .qzz) [some (vC X)] 0) (sI1 R Z S W U m u v a0 a1 a2 (oSh (.vec 10 X.length) .qzz) [some (vC X)] 0), o] := by kernel_rfl
open Classical in
theorem rT_x101 : code (ent Tryz.prog (tRo (plV .qzz (.vec 3 b)) [vA B]) nolv 64 1 20) Tryz.prog (lvI_x1 R Z S W U X m u v a0 a1 a2 o) 3 64 1 loopT (sL R Z S W U m u v a0 a1 a2 (oSh (.vec 9 X.length) .qzz) [some (vC X)] 1) (endK 3 64 kL kLX)
  = chks (some (.normal, (sL R Z S W U m u v a0 a1 a2 (oSh (.vec 9 X.length) .qzz) [some (vC X)] 2))) [ckTd fP [bkW, .dsl 1 u] [oSh (.vec 2 X.length) .qzz, fSp U, vC X] (plV .qzz (.vec 3 b)) [vA B], ckTd fPd [bkW, .dsl 1 u] [oSh (.vec 2 X.length) .qzz, fSp U, vC X] (plV .qzz (.vec 3 b)) [vA B], decide (SameA B B b b), inI a0, inI a1, inI a2, eqSt (sI1 R Z S W U m u v a0 a1 a2 (oSh (.vec 10 X.length) .qzz) [some (vC X)] 0) (sI1 R Z S W U m u v a0 a1 a2 (oSh (.vec 10 X.length) .qzz) [some (vC X)] 0), o] := by kernel_rfl
open Classical in
theorem rT_x110 : code (ent Tryz.prog (tRo (plV (.vec 3 a) .qzz) [vS P]) nolv 64 1 20) Tryz.prog (lvI_x1 R Z S W U X m u v a0 a1 a2 o) 3 64 1 loopT (sL R Z S W U m u v a0 a1 a2 (oSh (.vec 9 X.length) .qzz) [some (vC X)] 1) (endK 3 64 kL kLX)
  = chks (some (.normal, (sL R Z S W U m u v a0 a1 a2 (oSh (.vec 9 X.length) .qzz) [some (vC X)] 2))) [ckTd fP [bkW, .dsl 1 u] [oSh (.vec 2 X.length) .qzz, fSp U, vC X] (plV (.vec 3 a) .qzz) [vS P], ckTd fPd [bkW, .dsl 1 u] [oSh (.vec 2 X.length) .qzz, fSp U, vC X] (plV (.vec 3 a) .qzz) [vS P], decide (SameS P P a a), inI a0, inI a1, inI a2, eqSt (sI1 R Z S W U m u v a0 a1 a2 (oSh (.vec 10 X.length) .qzz) [some (vC X)] 0) (sI1 R Z S W U m u v a0 a1 a2 (oSh (.vec 10 X.length) .qzz) [some (vC X)] 0), o] := by kernel_rfl
open Classical in
theorem rT_x111 : code (ent Tryz.prog (tRo (plV (.vec 3 a) (.vec 4 b)) [vS P, vA B]) nolv 64 1 20) Tryz.prog (lvI_x1 R Z S W U X m u v a0 a1 a2 o) 3 64 1 loopT (sL R Z S W U m u v a0 a1 a2 (oSh (.vec 9 X.length) .qzz) [some (vC X)] 1) (endK 3 64 kL kLX)
  = chks (some (.normal, (sL R Z S W U m u v a0 a1 a2 (oSh (.vec 9 X.length) .qzz) [some (vC X)] 2))) [ckTd fP [bkW, .dsl 1 u] [oSh (.vec 2 X.length) .qzz, fSp U, vC X] (plV (.vec 3 a) (.vec 4 b)) [vS P, vA B], ckTd fPd [bkW, .dsl 1 u] [oSh (.vec 2 X.length) .qzz, fSp U, vC X] (plV (.vec 3 a) (.vec 4 b)) [vS P, vA B], decide (SameS P P a a), decide (SameA B B b b), inI a0, inI a1, inI a2, eqSt (sI1 R Z S W U m u v a0 a1 a2 (oSh (.vec 10 X.length) .qzz) [some (vC X)] 0) (sI1 R Z S W U m u v a0 a1 a2 (oSh (.vec 10 X.length) .qzz) [some (vC X)] 0), o] := by kernel_rfl
open Classical in
theorem rI_x10 : code (ent Tryz.prog tIn nolv 64 1 20) Tryz.prog {} 3 64 1 loopI (sI1 R Z S W U m u v a0 a1 a2 (oSh (.vec 10 X.length) .qzz) [some (vC X)] 0) (endK 3 64 kI kL)
  = chks (qyw (!eq5 (cvX U u a0 a1 a2) (cvX U u a0 a1 a2)) (some (.ret, (sL R Z S W U m u v a0 a1 a2 (oSh (.vec 9 X.length) .qzz) [some (vC X)] 1))) (qyw ((decide (covM U u a0 a1 a2 < u)) != (decide (covM U u a0 a1 a2 < u))) (some (.ret, (sL R Z S W U m u v a0 a1 a2 (oSh (.vec 9 X.length) .qzz) [some (vC X)] 1))) (some (.normal, sI1 R Z S W U m u v a0 a1 a2 (oSh (.vec 10 X.length) .qzz) [some (vC X)] 1)))) [decide (okCv U u a1 a2), decide (okCv U u a1 a2)] := by kernel_rfl
open Classical in
theorem rI_x11 : code (ent Tryz.prog tIn nolv 64 1 20) Tryz.prog {} 3 64 1 loopI (sI1 R Z S W U m u v a0 a1 a2 (oSh (.vec 10 X.length) .qzz) [some (vC X)] 1) (endK 3 64 kI kL)
  = chks (qyw (!eq5 (cvX U u (qyv a0 2) (qyv a1 9) (qyv a2 9)) (cvX U u (qyv a0 2) (qyv a1 9) (qyv a2 9))) (some (.ret, (sL R Z S W U m u v a0 a1 a2 (oSh (.vec 9 X.length) .qzz) [some (vC X)] 1))) (qyw ((decide (covM U u (qyv a0 2) (qyv a1 9) (qyv a2 9) < u)) != (decide (covM U u (qyv a0 2) (qyv a1 9) (qyv a2 9) < u))) (some (.ret, (sL R Z S W U m u v a0 a1 a2 (oSh (.vec 9 X.length) .qzz) [some (vC X)] 1))) (some (.normal, sI1 R Z S W U m u v a0 a1 a2 (oSh (.vec 10 X.length) .qzz) [some (vC X)] 2)))) [decide (okCv U u (qyv a1 9) (qyv a2 9)), decide (okCv U u (qyv a1 9) (qyv a2 9))] := by kernel_rfl
theorem rI_x12 : code (ent Tryz.prog tIn nolv 64 1 20) Tryz.prog {} 3 64 1 loopI (sI1 R Z S W U m u v a0 a1 a2 (oSh (.vec 10 X.length) .qzz) [some (vC X)] 2) (endK 3 64 kI kL) = some (.exit 2, (sL R Z S W U m u v a0 a1 a2 (oSh (.vec 9 X.length) .qzz) [some (vC X)] 1)) := by kernel_rfl
open Classical in
theorem rT_x2E : code (ent Tryz.prog (tRo plE []) nolv 64 1 20) Tryz.prog (lvI_x2 R Z S W U X m u v a0 a1 a2 o) 3 64 1 loopT (sL R Z S W U m u v a0 a1 a2 (oSh (.vec 9 X.length) .qzz) [some (vC X)] 2) (endK 3 64 kL kLX)
  = chks (some (.normal, (sL R Z S W U m u v a0 a1 a2 (oSh (.vec 9 X.length) .qzz) [some (vC X)] 3))) [ckTd fP [bkW, .dsl 1 v] [oSh (.vec 2 X.length) .qzz, fSp S, vC X] plE [], ckTd fPd [bkW, .dsl 1 v] [oSh (.vec 2 X.length) .qzz, fSp S, vC X] plE [], inI a0, inI a1, inI a2, eqSt (sI2 R Z S W U m u v a0 a1 a2 (oSh (.vec 10 X.length) .qzz) [some (vC X)] 0) (sI2 R Z S W U m u v a0 a1 a2 (oSh (.vec 10 X.length) .qzz) [some (vC X)] 0), o] := by kernel_rfl
open Classical in
theorem rT_x200 : code (ent Tryz.prog (tRo (plV .qzz .qzz) []) nolv 64 1 20) Tryz.prog (lvI_x2 R Z S W U X m u v a0 a1 a2 o) 3 64 1 loopT (sL R Z S W U m u v a0 a1 a2 (oSh (.vec 9 X.length) .qzz) [some (vC X)] 2) (endK 3 64 kL kLX)
  = chks (some (.normal, (sL R Z S W U m u v a0 a1 a2 (oSh (.vec 9 X.length) .qzz) [some (vC X)] 3))) [ckTd fP [bkW, .dsl 1 v] [oSh (.vec 2 X.length) .qzz, fSp S, vC X] (plV .qzz .qzz) [], ckTd fPd [bkW, .dsl 1 v] [oSh (.vec 2 X.length) .qzz, fSp S, vC X] (plV .qzz .qzz) [], inI a0, inI a1, inI a2, eqSt (sI2 R Z S W U m u v a0 a1 a2 (oSh (.vec 10 X.length) .qzz) [some (vC X)] 0) (sI2 R Z S W U m u v a0 a1 a2 (oSh (.vec 10 X.length) .qzz) [some (vC X)] 0), o] := by kernel_rfl
open Classical in
theorem rT_x201 : code (ent Tryz.prog (tRo (plV .qzz (.vec 3 b)) [vA B]) nolv 64 1 20) Tryz.prog (lvI_x2 R Z S W U X m u v a0 a1 a2 o) 3 64 1 loopT (sL R Z S W U m u v a0 a1 a2 (oSh (.vec 9 X.length) .qzz) [some (vC X)] 2) (endK 3 64 kL kLX)
  = chks (some (.normal, (sL R Z S W U m u v a0 a1 a2 (oSh (.vec 9 X.length) .qzz) [some (vC X)] 3))) [ckTd fP [bkW, .dsl 1 v] [oSh (.vec 2 X.length) .qzz, fSp S, vC X] (plV .qzz (.vec 3 b)) [vA B], ckTd fPd [bkW, .dsl 1 v] [oSh (.vec 2 X.length) .qzz, fSp S, vC X] (plV .qzz (.vec 3 b)) [vA B], decide (SameA B B b b), inI a0, inI a1, inI a2, eqSt (sI2 R Z S W U m u v a0 a1 a2 (oSh (.vec 10 X.length) .qzz) [some (vC X)] 0) (sI2 R Z S W U m u v a0 a1 a2 (oSh (.vec 10 X.length) .qzz) [some (vC X)] 0), o] := by kernel_rfl
open Classical in
theorem rT_x210 : code (ent Tryz.prog (tRo (plV (.vec 3 a) .qzz) [vS P]) nolv 64 1 20) Tryz.prog (lvI_x2 R Z S W U X m u v a0 a1 a2 o) 3 64 1 loopT (sL R Z S W U m u v a0 a1 a2 (oSh (.vec 9 X.length) .qzz) [some (vC X)] 2) (endK 3 64 kL kLX)
  = chks (some (.normal, (sL R Z S W U m u v a0 a1 a2 (oSh (.vec 9 X.length) .qzz) [some (vC X)] 3))) [ckTd fP [bkW, .dsl 1 v] [oSh (.vec 2 X.length) .qzz, fSp S, vC X] (plV (.vec 3 a) .qzz) [vS P], ckTd fPd [bkW, .dsl 1 v] [oSh (.vec 2 X.length) .qzz, fSp S, vC X] (plV (.vec 3 a) .qzz) [vS P], decide (SameS P P a a), inI a0, inI a1, inI a2, eqSt (sI2 R Z S W U m u v a0 a1 a2 (oSh (.vec 10 X.length) .qzz) [some (vC X)] 0) (sI2 R Z S W U m u v a0 a1 a2 (oSh (.vec 10 X.length) .qzz) [some (vC X)] 0), o] := by kernel_rfl
open Classical in
theorem rT_x211 : code (ent Tryz.prog (tRo (plV (.vec 3 a) (.vec 4 b)) [vS P, vA B]) nolv 64 1 20) Tryz.prog (lvI_x2 R Z S W U X m u v a0 a1 a2 o) 3 64 1 loopT (sL R Z S W U m u v a0 a1 a2 (oSh (.vec 9 X.length) .qzz) [some (vC X)] 2) (endK 3 64 kL kLX)
  = chks (some (.normal, (sL R Z S W U m u v a0 a1 a2 (oSh (.vec 9 X.length) .qzz) [some (vC X)] 3))) [ckTd fP [bkW, .dsl 1 v] [oSh (.vec 2 X.length) .qzz, fSp S, vC X] (plV (.vec 3 a) (.vec 4 b)) [vS P, vA B], ckTd fPd [bkW, .dsl 1 v] [oSh (.vec 2 X.length) .qzz, fSp S, vC X] (plV (.vec 3 a) (.vec 4 b)) [vS P, vA B], decide (SameS P P a a), decide (SameA B B b b), inI a0, inI a1, inI a2, eqSt (sI2 R Z S W U m u v a0 a1 a2 (oSh (.vec 10 X.length) .qzz) [some (vC X)] 0) (sI2 R Z S W U m u v a0 a1 a2 (oSh (.vec 10 X.length) .qzz) [some (vC X)] 0), o] := by kernel_rfl
open Classical in
theorem rI_x20 : code (ent Tryz.prog tIn nolv 64 1 20) Tryz.prog {} 3 64 1 loopI (sI2 R Z S W U m u v a0 a1 a2 (oSh (.vec 10 X.length) .qzz) [some (vC X)] 0) (endK 3 64 kI kL)
  = chks (qyw (!eq5 (cvX S v a0 a1 a2) (cvX S v a0 a1 a2)) (some (.ret, (sL R Z S W U m u v a0 a1 a2 (oSh (.vec 9 X.length) .qzz) [some (vC X)] 2))) (qyw ((decide (covM S v a0 a1 a2 < v)) != (decide (covM S v a0 a1 a2 < v))) (some (.ret, (sL R Z S W U m u v a0 a1 a2 (oSh (.vec 9 X.length) .qzz) [some (vC X)] 2))) (some (.normal, sI2 R Z S W U m u v a0 a1 a2 (oSh (.vec 10 X.length) .qzz) [some (vC X)] 1)))) [decide (okCv S v a1 a2), decide (okCv S v a1 a2)] := by kernel_rfl
open Classical in
theorem rI_x21 : code (ent Tryz.prog tIn nolv 64 1 20) Tryz.prog {} 3 64 1 loopI (sI2 R Z S W U m u v a0 a1 a2 (oSh (.vec 10 X.length) .qzz) [some (vC X)] 1) (endK 3 64 kI kL)
  = chks (qyw (!eq5 (cvX S v (qyv a0 2) (qyv a1 9) (qyv a2 9)) (cvX S v (qyv a0 2) (qyv a1 9) (qyv a2 9))) (some (.ret, (sL R Z S W U m u v a0 a1 a2 (oSh (.vec 9 X.length) .qzz) [some (vC X)] 2))) (qyw ((decide (covM S v (qyv a0 2) (qyv a1 9) (qyv a2 9) < v)) != (decide (covM S v (qyv a0 2) (qyv a1 9) (qyv a2 9) < v))) (some (.ret, (sL R Z S W U m u v a0 a1 a2 (oSh (.vec 9 X.length) .qzz) [some (vC X)] 2))) (some (.normal, sI2 R Z S W U m u v a0 a1 a2 (oSh (.vec 10 X.length) .qzz) [some (vC X)] 2)))) [decide (okCv S v (qyv a1 9) (qyv a2 9)), decide (okCv S v (qyv a1 9) (qyv a2 9))] := by kernel_rfl
theorem rI_x22 : code (ent Tryz.prog tIn nolv 64 1 20) Tryz.prog {} 3 64 1 loopI (sI2 R Z S W U m u v a0 a1 a2 (oSh (.vec 10 X.length) .qzz) [some (vC X)] 2) (endK 3 64 kI kL) = some (.exit 2, (sL R Z S W U m u v a0 a1 a2 (oSh (.vec 9 X.length) .qzz) [some (vC X)] 2)) := by kernel_rfl
theorem rT_x3 : code (ent Tryz.prog [] nolv 64 1 20) Tryz.prog {} 3 64 1 loopT (sL R Z S W U m u v a0 a1 a2 (oSh (.vec 9 X.length) .qzz) [some (vC X)] 3) (endK 3 64 kL kLX) = some (.exit 0, sLX R Z S) := by kernel_rfl
theorem re_x (n : Nat) : code (ent (R := AV × List PObj) Tryz.prog tTe nolv 64 1 20) Tryz.prog (lvT_x R Z S W U X m u a0 a1 a2 o n) 3 64 1 (restC 6 bTe) (sT2 R Z S W U n m u a0 a1 a2 (tlX 8 X)) (finP Tryz.prog Tryz.f3 3 [fA R, fZ Z, fSp S] pure2)
  = chks (pure2 (.bool true) [fA R, fZ Z, fSp S]) [decide (0 ≤ mnI (n : Int) 12) && decide ((mnI (n : Int) 12).toNat ≤ n), eqSt (sL R Z S W U m u (mnI (n : Int) 12).toNat a0 a1 a2 (oSh (.vec 9 X.length) .qzz) [some (vC X)] 0) (sL R Z S W U m u (mnI (n : Int) 12).toNat a0 a1 a2 (oSh (.vec 9 X.length) .qzz) [some (vC X)] 0), o] := by kernel_rfl
end
end Go.Proofs.YtphhepnldndbhaaGreatDoor.Dp
namespace Go.Proofs.YtphhepnldndbhaaGreatDoor.Dp
open Go Sx Go.Proofs.YtphhepnldndbhaaGreatDoor
section
variable {R Z S W U : List (List CV)} {x : List CV} {X : List (List CV)} {m u v : Nat} {a0 a1 a2 : Int}
open Classical in
theorem inner_x0 (hl : OkL W m) (h1 : inI a1 = true) (h2 : inI a2 = true) : Tri Tryz.prog (.loop loopI) (sI0 R Z S W U m u v a0 a1 a2 (oSh (.vec 10 (x :: X).length) .qzz) [some (vC (x :: X))] 0).toA (.exit 2) (sL R Z S W U m u v a0 a1 a2 (oSh (.vec 9 (x :: X).length) .qzz) [some (vC (x :: X))] 0).toA 3 := by
  refine tri_up (body := loopI) (fun j => (sI0 R Z S W U m u v a0 a1 a2 (oSh (.vec 10 (x :: X).length) .qzz) [some (vC (x :: X))] (j : Int)).toA) (fun e => by cases e) 2 (fun j hj => ?_) ?_ 0 (Nat.zero_le _)
  · rcases (show j = 0 ∨ j = 1 by omega) with rfl | rfl
    · exact qzx tIn_ok ((rI_x00 ).trans (by rw [qzy (all2 (decide_eq_true (hl.cv h1 h2)) (decide_eq_true (hl.cv h1 h2))), eq5_self, bcF (b := !true) rfl, bcF (by simp)]; rfl))
    · exact qzx tIn_ok ((rI_x01 ).trans (by rw [qzy (all2 (decide_eq_true (hl.cv (qxx (by decide) (by decide)) (qxx (by decide) (by decide)))) (decide_eq_true (hl.cv (qxx (by decide) (by decide)) (qxx (by decide) (by decide))))), eq5_self, bcF (b := !true) rfl, bcF (by simp)]; rfl))
  · exact qzx tIn_ok (rI_x02 )
open Classical in
theorem round_x0 (hb : okBk (x :: X) []) (hl : OkL W m) (h0 : inI a0 = true) (h1 : inI a1 = true) (h2 : inI a2 = true) : Tri Tryz.prog loopT (sL R Z S W U m u v a0 a1 a2 (oSh (.vec 9 (x :: X).length) .qzz) [some (vC (x :: X))] 0).toA .normal (sL R Z S W U m u v a0 a1 a2 (oSh (.vec 9 (x :: X).length) .qzz) [some (vC (x :: X))] 1).toA 3 := by
  have hL : LoopsOK Tryz.prog (lvI_x0 R Z S W U (x :: X) m u v a0 a1 a2 true) 3 loopT := it_loopsOK fun e he t => by cases he; exact eAt_ok (outC_ok fun _ => inner_x0 hl h1 h2) 3 t
  have he : eqSt (sI0 R Z S W U m u v a0 a1 a2 (oSh (.vec 10 (x :: X).length) .qzz) [some (vC (x :: X))] 0) (sI0 R Z S W U m u v a0 a1 a2 (oSh (.vec 10 (x :: X).length) .qzz) [some (vC (x :: X))] 0) = true := qzt _
  cases hw : wrgB W (tkN (clL (x :: X) []) (clL (x :: X) []).length) m with
  | true =>
    have k1 := pe_x hb hl.le hl.few hw
    have k2 := pde_x hb hl.le hl.few hw
    refine qyy (r := (.normal, (sL R Z S W U m u v a0 a1 a2 (oSh (.vec 9 (x :: X).length) .qzz) [some (vC (x :: X))] 1))) (qzv (tRo_ok plE []) host qyz (NF := 64) (m := 1) 20) hL ((rT_x0E (o := true)).trans (qzy fun b hb' => ?_))
    simp only [List.mem_cons, List.not_mem_nil, or_false] at hb'
    rcases hb' with rfl | rfl | rfl | rfl | rfl | rfl | rfl
    · exact decide_eq_true k1
    · exact decide_eq_true k2
    · exact h0
    · exact h1
    · exact h2
    · exact he
    · rfl
  | false =>
    have k1 := pm_x hb hl.le hl.few hw
    have k2 := pdm_x hb hl.le hl.few hw
    have hlen := plPB_len (clL (x :: X) []) W m
    have hf := hl.few
    generalize plP (clL (x :: X) []) W m = P at *
    generalize plB (clL (x :: X) []) W m = B at *
    cases P with
    | nil => cases B with
      | nil =>
        refine qyy (r := (.normal, (sL R Z S W U m u v a0 a1 a2 (oSh (.vec 9 (x :: X).length) .qzz) [some (vC (x :: X))] 1))) (qzv (tRo_ok (plV .qzz .qzz) []) host qyz (NF := 64) (m := 1) 20) hL ((rT_x000 (o := true)).trans (qzy fun b hb' => ?_))
        simp only [List.mem_cons, List.not_mem_nil, or_false] at hb'
        rcases hb' with rfl | rfl | rfl | rfl | rfl | rfl | rfl
        · exact decide_eq_true k1
        · exact decide_eq_true k2
        · exact h0
        · exact h1
        · exact h2
        · exact he
        · rfl
      | cons q B =>
        refine qyy (r := (.normal, (sL R Z S W U m u v a0 a1 a2 (oSh (.vec 9 (x :: X).length) .qzz) [some (vC (x :: X))] 1))) (qzv (tRo_ok (plV .qzz (.vec 3 (q :: B).length)) [vA (q :: B)]) host qyz (NF := 64) (m := 1) 20) hL ((rT_x001 (o := true)).trans (qzy fun b hb' => ?_))
        simp only [List.mem_cons, List.not_mem_nil, or_false] at hb'
        rcases hb' with rfl | rfl | rfl | rfl | rfl | rfl | rfl | rfl
        · exact decide_eq_true k1
        · exact decide_eq_true k2
        · exact decide_eq_true (sameA_self (by omega))
        · exact h0
        · exact h1
        · exact h2
        · exact he
        · rfl
    | cons p P => cases B with
      | nil =>
        refine qyy (r := (.normal, (sL R Z S W U m u v a0 a1 a2 (oSh (.vec 9 (x :: X).length) .qzz) [some (vC (x :: X))] 1))) (qzv (tRo_ok (plV (.vec 3 (p :: P).length) .qzz) [vS (p :: P)]) host qyz (NF := 64) (m := 1) 20) hL ((rT_x010 (o := true)).trans (qzy fun b hb' => ?_))
        simp only [List.mem_cons, List.not_mem_nil, or_false] at hb'
        rcases hb' with rfl | rfl | rfl | rfl | rfl | rfl | rfl | rfl
        · exact decide_eq_true k1
        · exact decide_eq_true k2
        · exact decide_eq_true (sameS_self (by omega))
        · exact h0
        · exact h1
        · exact h2
        · exact he
        · rfl
      | cons q B =>
        refine qyy (r := (.normal, (sL R Z S W U m u v a0 a1 a2 (oSh (.vec 9 (x :: X).length) .qzz) [some (vC (x :: X))] 1))) (qzv (tRo_ok (plV (.vec 3 (p :: P).length) (.vec 4 (q :: B).length)) [vS (p :: P), vA (q :: B)]) host qyz (NF := 64) (m := 1) 20) hL ((rT_x011 (o := true)).trans (qzy fun b hb' => ?_))
        simp only [List.mem_cons, List.not_mem_nil, or_false] at hb'
        rcases hb' with rfl | rfl | rfl | rfl | rfl | rfl | rfl | rfl | rfl
        · exact decide_eq_true k1
        · exact decide_eq_true k2
        · exact decide_eq_true (sameS_self (by omega))
        · exact decide_eq_true (sameA_self (by omega))
        · exact h0
        · exact h1
        · exact h2
        · exact he
        · rfl
open Classical in
theorem inner_x1 (hl : OkL U u) (h1 : inI a1 = true) (h2 : inI a2 = true) : Tri Tryz.prog (.loop loopI) (sI1 R Z S W U m u v a0 a1 a2 (oSh (.vec 10 (x :: X).length) .qzz) [some (vC (x :: X))] 0).toA (.exit 2) (sL R Z S W U m u v a0 a1 a2 (oSh (.vec 9 (x :: X).length) .qzz) [some (vC (x :: X))] 1).toA 3 := by
  refine tri_up (body := loopI) (fun j => (sI1 R Z S W U m u v a0 a1 a2 (oSh (.vec 10 (x :: X).length) .qzz) [some (vC (x :: X))] (j : Int)).toA) (fun e => by cases e) 2 (fun j hj => ?_) ?_ 0 (Nat.zero_le _)
  · rcases (show j = 0 ∨ j = 1 by omega) with rfl | rfl
    · exact qzx tIn_ok ((rI_x10 ).trans (by rw [qzy (all2 (decide_eq_true (hl.cv h1 h2)) (decide_eq_true (hl.cv h1 h2))), eq5_self, bcF (b := !true) rfl, bcF (by simp)]; rfl))
    · exact qzx tIn_ok ((rI_x11 ).trans (by rw [qzy (all2 (decide_eq_true (hl.cv (qxx (by decide) (by decide)) (qxx (by decide) (by decide)))) (decide_eq_true (hl.cv (qxx (by decide) (by decide)) (qxx (by decide) (by decide))))), eq5_self, bcF (b := !true) rfl, bcF (by simp)]; rfl))
  · exact qzx tIn_ok (rI_x12 )
open Classical in
theorem round_x1 (hb : okBk (x :: X) []) (hl : OkL U u) (h0 : inI a0 = true) (h1 : inI a1 = true) (h2 : inI a2 = true) : Tri Tryz.prog loopT (sL R Z S W U m u v a0 a1 a2 (oSh (.vec 9 (x :: X).length) .qzz) [some (vC (x :: X))] 1).toA .normal (sL R Z S W U m u v a0 a1 a2 (oSh (.vec 9 (x :: X).length) .qzz) [some (vC (x :: X))] 2).toA 3 := by
  have hL : LoopsOK Tryz.prog (lvI_x1 R Z S W U (x :: X) m u v a0 a1 a2 true) 3 loopT := it_loopsOK fun e he t => by cases he; exact eAt_ok (outC_ok fun _ => inner_x1 hl h1 h2) 3 t
  have he : eqSt (sI1 R Z S W U m u v a0 a1 a2 (oSh (.vec 10 (x :: X).length) .qzz) [some (vC (x :: X))] 0) (sI1 R Z S W U m u v a0 a1 a2 (oSh (.vec 10 (x :: X).length) .qzz) [some (vC (x :: X))] 0) = true := qzt _
  cases hw : wrgB U (tkN (clL (x :: X) []) (clL (x :: X) []).length) u with
  | true =>
    have k1 := pe_x hb hl.le hl.few hw
    have k2 := pde_x hb hl.le hl.few hw
    refine qyy (r := (.normal, (sL R Z S W U m u v a0 a1 a2 (oSh (.vec 9 (x :: X).length) .qzz) [some (vC (x :: X))] 2))) (qzv (tRo_ok plE []) host qyz (NF := 64) (m := 1) 20) hL ((rT_x1E (o := true)).trans (qzy fun b hb' => ?_))
    simp only [List.mem_cons, List.not_mem_nil, or_false] at hb'
    rcases hb' with rfl | rfl | rfl | rfl | rfl | rfl | rfl
    · exact decide_eq_true k1
    · exact decide_eq_true k2
    · exact h0
    · exact h1
    · exact h2
    · exact he
    · rfl
  | false =>
    have k1 := pm_x hb hl.le hl.few hw
    have k2 := pdm_x hb hl.le hl.few hw
    have hlen := plPB_len (clL (x :: X) []) U u
    have hf := hl.few
    generalize plP (clL (x :: X) []) U u = P at *
    generalize plB (clL (x :: X) []) U u = B at *
    cases P with
    | nil => cases B with
      | nil =>
        refine qyy (r := (.normal, (sL R Z S W U m u v a0 a1 a2 (oSh (.vec 9 (x :: X).length) .qzz) [some (vC (x :: X))] 2))) (qzv (tRo_ok (plV .qzz .qzz) []) host qyz (NF := 64) (m := 1) 20) hL ((rT_x100 (o := true)).trans (qzy fun b hb' => ?_))
        simp only [List.mem_cons, List.not_mem_nil, or_false] at hb'
        rcases hb' with rfl | rfl | rfl | rfl | rfl | rfl | rfl
        · exact decide_eq_true k1
        · exact decide_eq_true k2
        · exact h0
        · exact h1
        · exact h2
        · exact he
        · rfl
      | cons q B =>
        refine qyy (r := (.normal, (sL R Z S W U m u v a0 a1 a2 (oSh (.vec 9 (x :: X).length) .qzz) [some (vC (x :: X))] 2))) (qzv (tRo_ok (plV .qzz (.vec 3 (q :: B).length)) [vA (q :: B)]) host qyz (NF := 64) (m := 1) 20) hL ((rT_x101 (o := true)).trans (qzy fun b hb' => ?_))
        simp only [List.mem_cons, List.not_mem_nil, or_false] at hb'
        rcases hb' with rfl | rfl | rfl | rfl | rfl | rfl | rfl | rfl
        · exact decide_eq_true k1
        · exact decide_eq_true k2
        · exact decide_eq_true (sameA_self (by omega))
        · exact h0
        · exact h1
        · exact h2
        · exact he
        · rfl
    | cons p P => cases B with
      | nil =>
        refine qyy (r := (.normal, (sL R Z S W U m u v a0 a1 a2 (oSh (.vec 9 (x :: X).length) .qzz) [some (vC (x :: X))] 2))) (qzv (tRo_ok (plV (.vec 3 (p :: P).length) .qzz) [vS (p :: P)]) host qyz (NF := 64) (m := 1) 20) hL ((rT_x110 (o := true)).trans (qzy fun b hb' => ?_))
        simp only [List.mem_cons, List.not_mem_nil, or_false] at hb'
        rcases hb' with rfl | rfl | rfl | rfl | rfl | rfl | rfl | rfl
        · exact decide_eq_true k1
        · exact decide_eq_true k2
        · exact decide_eq_true (sameS_self (by omega))
        · exact h0
        · exact h1
        · exact h2
        · exact he
        · rfl
      | cons q B =>
        refine qyy (r := (.normal, (sL R Z S W U m u v a0 a1 a2 (oSh (.vec 9 (x :: X).length) .qzz) [some (vC (x :: X))] 2))) (qzv (tRo_ok (plV (.vec 3 (p :: P).length) (.vec 4 (q :: B).length)) [vS (p :: P), vA (q :: B)]) host qyz (NF := 64) (m := 1) 20) hL ((rT_x111 (o := true)).trans (qzy fun b hb' => ?_))
        simp only [List.mem_cons, List.not_mem_nil, or_false] at hb'
        rcases hb' with rfl | rfl | rfl | rfl | rfl | rfl | rfl | rfl | rfl
        · exact decide_eq_true k1
        · exact decide_eq_true k2
        · exact decide_eq_true (sameS_self (by omega))
        · exact decide_eq_true (sameA_self (by omega))
        · exact h0
        · exact h1
        · exact h2
        · exact he
        · rfl
open Classical in
theorem inner_x2 (hl : OkL S v) (h1 : inI a1 = true) (h2 : inI a2 = true) : Tri Tryz.prog (.loop loopI) (sI2 R Z S W U m u v a0 a1 a2 (oSh (.vec 10 (x :: X).length) .qzz) [some (vC (x :: X))] 0).toA (.exit 2) (sL R Z S W U m u v a0 a1 a2 (oSh (.vec 9 (x :: X).length) .qzz) [some (vC (x :: X))] 2).toA 3 := by
  refine tri_up (body := loopI) (fun j => (sI2 R Z S W U m u v a0 a1 a2 (oSh (.vec 10 (x :: X).length) .qzz) [some (vC (x :: X))] (j : Int)).toA) (fun e => by cases e) 2 (fun j hj => ?_) ?_ 0 (Nat.zero_le _)
  · rcases (show j = 0 ∨ j = 1 by omega) with rfl | rfl
    · exact qzx tIn_ok ((rI_x20 ).trans (by rw [qzy (all2 (decide_eq_true (hl.cv h1 h2)) (decide_eq_true (hl.cv h1 h2))), eq5_self, bcF (b := !true) rfl, bcF (by simp)]; rfl))
    · exact qzx tIn_ok ((rI_x21 ).trans (by rw [qzy (all2 (decide_eq_true (hl.cv (qxx (by decide) (by decide)) (qxx (by decide) (by decide)))) (decide_eq_true (hl.cv (qxx (by decide) (by decide)) (qxx (by decide) (by decide))))), eq5_self, bcF (b := !true) rfl, bcF (by simp)]; rfl))
  · exact qzx tIn_ok (rI_x22 )
open Classical in
theorem round_x2 (hb : okBk (x :: X) []) (hl : OkL S v) (h0 : inI a0 = true) (h1 : inI a1 = true) (h2 : inI a2 = true) : Tri Tryz.prog loopT (sL R Z S W U m u v a0 a1 a2 (oSh (.vec 9 (x :: X).length) .qzz) [some (vC (x :: X))] 2).toA .normal (sL R Z S W U m u v a0 a1 a2 (oSh (.vec 9 (x :: X).length) .qzz) [some (vC (x :: X))] 3).toA 3 := by
  have hL : LoopsOK Tryz.prog (lvI_x2 R Z S W U (x :: X) m u v a0 a1 a2 true) 3 loopT := it_loopsOK fun e he t => by cases he; exact eAt_ok (outC_ok fun _ => inner_x2 hl h1 h2) 3 t
  have he : eqSt (sI2 R Z S W U m u v a0 a1 a2 (oSh (.vec 10 (x :: X).length) .qzz) [some (vC (x :: X))] 0) (sI2 R Z S W U m u v a0 a1 a2 (oSh (.vec 10 (x :: X).length) .qzz) [some (vC (x :: X))] 0) = true := qzt _
  cases hw : wrgB S (tkN (clL (x :: X) []) (clL (x :: X) []).length) v with
  | true =>
    have k1 := pe_x hb hl.le hl.few hw
    have k2 := pde_x hb hl.le hl.few hw
    refine qyy (r := (.normal, (sL R Z S W U m u v a0 a1 a2 (oSh (.vec 9 (x :: X).length) .qzz) [some (vC (x :: X))] 3))) (qzv (tRo_ok plE []) host qyz (NF := 64) (m := 1) 20) hL ((rT_x2E (o := true)).trans (qzy fun b hb' => ?_))
    simp only [List.mem_cons, List.not_mem_nil, or_false] at hb'
    rcases hb' with rfl | rfl | rfl | rfl | rfl | rfl | rfl
    · exact decide_eq_true k1
    · exact decide_eq_true k2
    · exact h0
    · exact h1
    · exact h2
    · exact he
    · rfl
  | false =>
    have k1 := pm_x hb hl.le hl.few hw
    have k2 := pdm_x hb hl.le hl.few hw
    have hlen := plPB_len (clL (x :: X) []) S v
    have hf := hl.few
    generalize plP (clL (x :: X) []) S v = P at *
    generalize plB (clL (x :: X) []) S v = B at *
    cases P with
    | nil => cases B with
      | nil =>
        refine qyy (r := (.normal, (sL R Z S W U m u v a0 a1 a2 (oSh (.vec 9 (x :: X).length) .qzz) [some (vC (x :: X))] 3))) (qzv (tRo_ok (plV .qzz .qzz) []) host qyz (NF := 64) (m := 1) 20) hL ((rT_x200 (o := true)).trans (qzy fun b hb' => ?_))
        simp only [List.mem_cons, List.not_mem_nil, or_false] at hb'
        rcases hb' with rfl | rfl | rfl | rfl | rfl | rfl | rfl
        · exact decide_eq_true k1
        · exact decide_eq_true k2
        · exact h0
        · exact h1
        · exact h2
        · exact he
        · rfl
      | cons q B =>
        refine qyy (r := (.normal, (sL R Z S W U m u v a0 a1 a2 (oSh (.vec 9 (x :: X).length) .qzz) [some (vC (x :: X))] 3))) (qzv (tRo_ok (plV .qzz (.vec 3 (q :: B).length)) [vA (q :: B)]) host qyz (NF := 64) (m := 1) 20) hL ((rT_x201 (o := true)).trans (qzy fun b hb' => ?_))
        simp only [List.mem_cons, List.not_mem_nil, or_false] at hb'
        rcases hb' with rfl | rfl | rfl | rfl | rfl | rfl | rfl | rfl
        · exact decide_eq_true k1
        · exact decide_eq_true k2
        · exact decide_eq_true (sameA_self (by omega))
        · exact h0
        · exact h1
        · exact h2
        · exact he
        · rfl
    | cons p P => cases B with
      | nil =>
        refine qyy (r := (.normal, (sL R Z S W U m u v a0 a1 a2 (oSh (.vec 9 (x :: X).length) .qzz) [some (vC (x :: X))] 3))) (qzv (tRo_ok (plV (.vec 3 (p :: P).length) .qzz) [vS (p :: P)]) host qyz (NF := 64) (m := 1) 20) hL ((rT_x210 (o := true)).trans (qzy fun b hb' => ?_))
        simp only [List.mem_cons, List.not_mem_nil, or_false] at hb'
        rcases hb' with rfl | rfl | rfl | rfl | rfl | rfl | rfl | rfl
        · exact decide_eq_true k1
        · exact decide_eq_true k2
        · exact decide_eq_true (sameS_self (by omega))
        · exact h0
        · exact h1
        · exact h2
        · exact he
        · rfl
      | cons q B =>
        refine qyy (r := (.normal, (sL R Z S W U m u v a0 a1 a2 (oSh (.vec 9 (x :: X).length) .qzz) [some (vC (x :: X))] 3))) (qzv (tRo_ok (plV (.vec 3 (p :: P).length) (.vec 4 (q :: B).length)) [vS (p :: P), vA (q :: B)]) host qyz (NF := 64) (m := 1) 20) hL ((rT_x211 (o := true)).trans (qzy fun b hb' => ?_))
        simp only [List.mem_cons, List.not_mem_nil, or_false] at hb'
        rcases hb' with rfl | rfl | rfl | rfl | rfl | rfl | rfl | rfl | rfl
        · exact decide_eq_true k1
        · exact decide_eq_true k2
        · exact decide_eq_true (sameS_self (by omega))
        · exact decide_eq_true (sameA_self (by omega))
        · exact h0
        · exact h1
        · exact h2
        · exact he
        · rfl
theorem loopTe_x (hb : okBk (x :: X) []) (hW : OkL W m) (hU : OkL U u) (hS : OkL S v) (h0 : inI a0 = true) (h1 : inI a1 = true) (h2 : inI a2 = true) : Tri Tryz.prog (.loop loopT) (sL R Z S W U m u v a0 a1 a2 (oSh (.vec 9 (x :: X).length) .qzz) [some (vC (x :: X))] 0).toA (.exit 0) (sLX R Z S).toA 3 := by
  refine tri_up (body := loopT) (fun j => (sL R Z S W U m u v a0 a1 a2 (oSh (.vec 9 (x :: X).length) .qzz) [some (vC (x :: X))] (j : Int)).toA) (fun e => by cases e) 3 (fun j hj => ?_) ?_ 0 (Nat.zero_le _)
  · rcases (show j = 0 ∨ j = 1 ∨ j = 2 by omega) with rfl | rfl | rfl
    · exact round_x0 hb hW h0 h1 h2
    · exact round_x1 hb hU h0 h1 h2
    · exact round_x2 hb hS h0 h1 h2
  · exact qzx (T := []) .nil (rT_x3 )
theorem goes_x {n : Nat} (hb : okBk (x :: X) []) (hW : OkL W m) (hU : OkL U u) (hS : OkL S (mnI (n : Int) 12).toNat) (h0 : inI a0 = true) (h1 : inI a1 = true) (h2 : inI a2 = true) : GoesTo Tryz.prog Tryz.f3 [fA R, fZ Z, fSp S] pure2 (restC 6 bTe) (sT2 R Z S W U n m u a0 a1 a2 (tlX 8 (x :: X))) (AV.bool true, [fA R, fZ Z, fSp S]) := by
  have hL : LoopsOK Tryz.prog (lvT_x R Z S W U (x :: X) m u a0 a1 a2 true n) 3 (restC 6 bTe) := te_loopsOK (fun e he t => by cases he; exact eAt_ok (outC_ok fun _ => loopTe_x hb hW hU hS h0 h1 h2) 3 t) rfl
  refine goes_code (pre := [fA R, fZ Z, fSp S]) (qzv tTe_ok host qyz 20) hL ((re_x (o := true) n).trans ?_)
  have hm : 0 ≤ mnI (n : Int) 12 ∧ (mnI (n : Int) 12).toNat ≤ n := by
    show 0 ≤ (if (12 : Int) < (n : Int) then 12 else (n : Int)) ∧ (if (12 : Int) < (n : Int) then 12 else (n : Int)).toNat ≤ n
    split <;> omega
  rw [qzy (fun b hb' => ?_)]
  · rfl
  · simp only [List.mem_cons, List.not_mem_nil, or_false] at hb'
    rcases hb' with rfl | rfl | rfl
    · rw [decide_eq_true hm.1, decide_eq_true hm.2]; rfl
    · exact qzt _
    · rfl
end
end Go.Proofs.YtphhepnldndbhaaGreatDoor.Dp
namespace Go.Proofs.YtphhepnldndbhaaGreatDoor.Dp
open Go Sx Go.Proofs.YtphhepnldndbhaaGreatDoor
section
variable (R Z S W U X Y P B : List (List CV)) (m u v a b : Nat) (a0 a1 a2 : Int) (o : Bool) (sh : PObj) (vcs : List (Option PObj))
noncomputable def lvI_y0 : Lv := { keep := fun i => if i = 18 then some [11, 13, 14, 19, 71, 72, 73, 117, 118, 119] else none, ent := oneL 18 (eAt 3 (sI0 R Z S W U m u v a0 a1 a2 (oSh .qzz (.vec 10 Y.length)) [some (vC Y)] 0) (outC o (.exit 2) (sL R Z S W U m u v a0 a1 a2 (oSh .qzz (.vec 9 Y.length)) [some (vC Y)] 0))) }
noncomputable def lvI_y1 : Lv := { keep := fun i => if i = 18 then some [11, 13, 14, 19, 71, 72, 73, 117, 118, 119] else none, ent := oneL 18 (eAt 3 (sI1 R Z S W U m u v a0 a1 a2 (oSh .qzz (.vec 10 Y.length)) [some (vC Y)] 0) (outC o (.exit 2) (sL R Z S W U m u v a0 a1 a2 (oSh .qzz (.vec 9 Y.length)) [some (vC Y)] 1))) }
noncomputable def lvI_y2 : Lv := { keep := fun i => if i = 18 then some [11, 13, 14, 19, 71, 72, 73, 117, 118, 119] else none, ent := oneL 18 (eAt 3 (sI2 R Z S W U m u v a0 a1 a2 (oSh .qzz (.vec 10 Y.length)) [some (vC Y)] 0) (outC o (.exit 2) (sL R Z S W U m u v a0 a1 a2 (oSh .qzz (.vec 9 Y.length)) [some (vC Y)] 2))) }
noncomputable def lvT_y (n : Nat) : Lv := { keep := fun i => if i = 11 then some [11, 13, 14, 71, 72, 73] else none, ent := oneL 11 (eAt 3 (sL R Z S W U m u (mnI (n : Int) 12).toNat a0 a1 a2 (oSh .qzz (.vec 9 Y.length)) [some (vC Y)] 0) (outC o (.exit 0) (sLX R Z S))) }
variable {R Z S W U X Y P B} {m u v a b} {a0 a1 a2}
open Classical in
theorem rT_y0E : code (ent Tryz.prog (tRo plE []) nolv 64 1 20) Tryz.prog (lvI_y0 R Z S W U Y m u v a0 a1 a2 o) 3 64 1 loopT (sL R Z S W U m u v a0 a1 a2 (oSh .qzz (.vec 9 Y.length)) [some (vC Y)] 0) (endK 3 64 kL kLX)
  = chks (some (.normal, (sL R Z S W U m u v a0 a1 a2 (oSh .qzz (.vec 9 Y.length)) [some (vC Y)] 1))) [ckTd fP [bkW, .dsl 1 m] [oSh .qzz (.vec 2 Y.length), fSp W, vC Y] plE [], ckTd fPd [bkW, .dsl 1 m] [oSh .qzz (.vec 2 Y.length), fSp W, vC Y] plE [], inI a0, inI a1, inI a2, eqSt (sI0 R Z S W U m u v a0 a1 a2 (oSh .qzz (.vec 10 Y.length)) [some (vC Y)] 0) (sI0 R Z S W U m u v a0 a1 a2 (oSh .qzz (.vec 10 Y.length)) [some (vC Y)] 0), o] := by kernel_rfl
open Classical in
theorem rT_y000 : code (ent Tryz.prog (tRo (plV .qzz .qzz) []) nolv 64 1 20) Tryz.prog (lvI_y0 R Z S W U Y m u v a0 a1 a2 o) 3 64 1 loopT (sL R Z S W U m u v a0 a1 a2 (oSh .qzz (.vec 9 Y.length)) [some (vC Y)] 0) (endK 3 64 kL kLX)
  = chks (some (.normal, (sL R Z S W U m u v a0 a1 a2 (oSh .qzz (.vec 9 Y.length)) [some (vC Y)] 1))) [ckTd fP [bkW, .dsl 1 m] [oSh .qzz (.vec 2 Y.length), fSp W, vC Y] (plV .qzz .qzz) [], ckTd fPd [bkW, .dsl 1 m] [oSh .qzz (.vec 2 Y.length), fSp W, vC Y] (plV .qzz .qzz) [], inI a0, inI a1, inI a2, eqSt (sI0 R Z S W U m u v a0 a1 a2 (oSh .qzz (.vec 10 Y.length)) [some (vC Y)] 0) (sI0 R Z S W U m u v a0 a1 a2 (oSh .qzz (.vec 10 Y.length)) [some (vC Y)] 0), o] := by kernel_rfl
open Classical in
theorem rT_y001 : code (ent Tryz.prog (tRo (plV .qzz (.vec 3 b)) [vA B]) nolv 64 1 20) Tryz.prog (lvI_y0 R Z S W U Y m u v a0 a1 a2 o) 3 64 1 loopT (sL R Z S W U m u v a0 a1 a2 (oSh .qzz (.vec 9 Y.length)) [some (vC Y)] 0) (endK 3 64 kL kLX)
  = chks (some (.normal, (sL R Z S W U m u v a0 a1 a2 (oSh .qzz (.vec 9 Y.length)) [some (vC Y)] 1))) [ckTd fP [bkW, .dsl 1 m] [oSh .qzz (.vec 2 Y.length), fSp W, vC Y] (plV .qzz (.vec 3 b)) [vA B], ckTd fPd [bkW, .dsl 1 m] [oSh .qzz (.vec 2 Y.length), fSp W, vC Y] (plV .qzz (.vec 3 b)) [vA B], decide (SameA B B b b), inI a0, inI a1, inI a2, eqSt (sI0 R Z S W U m u v a0 a1 a2 (oSh .qzz (.vec 10 Y.length)) [some (vC Y)] 0) (sI0 R Z S W U m u v a0 a1 a2 (oSh .qzz (.vec 10 Y.length)) [some (vC Y)] 0), o] := by kernel_rfl
open Classical in
theorem rT_y010 : code (ent Tryz.prog (tRo (plV (.vec 3 a) .qzz) [vS P]) nolv 64 1 20) Tryz.prog (lvI_y0 R Z S W U Y m u v a0 a1 a2 o) 3 64 1 loopT (sL R Z S W U m u v a0 a1 a2 (oSh .qzz (.vec 9 Y.length)) [some (vC Y)] 0) (endK 3 64 kL kLX)
  = chks (some (.normal, (sL R Z S W U m u v a0 a1 a2 (oSh .qzz (.vec 9 Y.length)) [some (vC Y)] 1))) [ckTd fP [bkW, .dsl 1 m] [oSh .qzz (.vec 2 Y.length), fSp W, vC Y] (plV (.vec 3 a) .qzz) [vS P], ckTd fPd [bkW, .dsl 1 m] [oSh .qzz (.vec 2 Y.length), fSp W, vC Y] (plV (.vec 3 a) .qzz) [vS P], decide (SameS P P a a), inI a0, inI a1, inI a2, eqSt (sI0 R Z S W U m u v a0 a1 a2 (oSh .qzz (.vec 10 Y.length)) [some (vC Y)] 0) (sI0 R Z S W U m u v a0 a1 a2 (oSh .qzz (.vec 10 Y.length)) [some (vC Y)] 0), o] := by kernel_rfl
open Classical in
theorem rT_y011 : code (ent Tryz.prog (tRo (plV (.vec 3 a) (.vec 4 b)) [vS P, vA B]) nolv 64 1 20) Tryz.prog (lvI_y0 R Z S W U Y m u v a0 a1 a2 o) 3 64 1 loopT (sL R Z S W U m u v a0 a1 a2 (oSh .qzz (.vec 9 Y.length)) [some (vC Y)] 0) (endK 3 64 kL kLX)
  = chks (some (.normal, (sL R Z S W U m u v a0 a1 a2 (oSh .qzz (.vec 9 Y.length)) [some (vC Y)] 1))) [ckTd fP [bkW, .dsl 1 m] [oSh .qzz (.vec 2 Y.length), fSp W, vC Y] (plV (.vec 3 a) (.vec 4 b)) [vS P, vA B], ckTd fPd [bkW, .dsl 1 m] [oSh .qzz (.vec 2 Y.length), fSp W, vC Y] (plV (.vec 3 a) (.vec 4 b)) [vS P, vA B], decide (SameS P P a a), decide (SameA B B b b), inI a0, inI a1, inI a2, eqSt (sI0 R Z S W U m u v a0 a1 a2 (oSh .qzz (.vec 10 Y.length)) [some (vC Y)] 0) (sI0 R Z S W U m u v a0 a1 a2 (oSh .qzz (.vec 10 Y.length)) [some (vC Y)] 0), o] := by kernel_rfl
open Classical in
theorem rI_y00 : code (ent Tryz.prog tIn nolv 64 1 20) Tryz.prog {} 3 64 1 loopI (sI0 R Z S W U m u v a0 a1 a2 (oSh .qzz (.vec 10 Y.length)) [some (vC Y)] 0) (endK 3 64 kI kL)
  = chks (qyw (!eq5 (cvX W m a0 a1 a2) (cvX W m a0 a1 a2)) (some (.ret, (sL R Z S W U m u v a0 a1 a2 (oSh .qzz (.vec 9 Y.length)) [some (vC Y)] 0))) (qyw ((decide (covM W m a0 a1 a2 < m)) != (decide (covM W m a0 a1 a2 < m))) (some (.ret, (sL R Z S W U m u v a0 a1 a2 (oSh .qzz (.vec 9 Y.length)) [some (vC Y)] 0))) (some (.normal, sI0 R Z S W U m u v a0 a1 a2 (oSh .qzz (.vec 10 Y.length)) [some (vC Y)] 1)))) [decide (okCv W m a1 a2), decide (okCv W m a1 a2)] := by kernel_rfl
open Classical in
theorem rI_y01 : code (ent Tryz.prog tIn nolv 64 1 20) Tryz.prog {} 3 64 1 loopI (sI0 R Z S W U m u v a0 a1 a2 (oSh .qzz (.vec 10 Y.length)) [some (vC Y)] 1) (endK 3 64 kI kL)
  = chks (qyw (!eq5 (cvX W m (qyv a0 2) (qyv a1 9) (qyv a2 9)) (cvX W m (qyv a0 2) (qyv a1 9) (qyv a2 9))) (some (.ret, (sL R Z S W U m u v a0 a1 a2 (oSh .qzz (.vec 9 Y.length)) [some (vC Y)] 0))) (qyw ((decide (covM W m (qyv a0 2) (qyv a1 9) (qyv a2 9) < m)) != (decide (covM W m (qyv a0 2) (qyv a1 9) (qyv a2 9) < m))) (some (.ret, (sL R Z S W U m u v a0 a1 a2 (oSh .qzz (.vec 9 Y.length)) [some (vC Y)] 0))) (some (.normal, sI0 R Z S W U m u v a0 a1 a2 (oSh .qzz (.vec 10 Y.length)) [some (vC Y)] 2)))) [decide (okCv W m (qyv a1 9) (qyv a2 9)), decide (okCv W m (qyv a1 9) (qyv a2 9))] := by kernel_rfl
theorem rI_y02 : code (ent Tryz.prog tIn nolv 64 1 20) Tryz.prog {} 3 64 1 loopI (sI0 R Z S W U m u v a0 a1 a2 (oSh .qzz (.vec 10 Y.length)) [some (vC Y)] 2) (endK 3 64 kI kL) = some (.exit 2, (sL R Z S W U m u v a0 a1 a2 (oSh .qzz (.vec 9 Y.length)) [some (vC Y)] 0)) := by kernel_rfl
open Classical in
theorem rT_y1E : code (ent Tryz.prog (tRo plE []) nolv 64 1 20) Tryz.prog (lvI_y1 R Z S W U Y m u v a0 a1 a2 o) 3 64 1 loopT (sL R Z S W U m u v a0 a1 a2 (oSh .qzz (.vec 9 Y.length)) [some (vC Y)] 1) (endK 3 64 kL kLX)
  = chks (some (.normal, (sL R Z S W U m u v a0 a1 a2 (oSh .qzz (.vec 9 Y.length)) [some (vC Y)] 2))) [ckTd fP [bkW, .dsl 1 u] [oSh .qzz (.vec 2 Y.length), fSp U, vC Y] plE [], ckTd fPd [bkW, .dsl 1 u] [oSh .qzz (.vec 2 Y.length), fSp U, vC Y] plE [], inI a0, inI a1, inI a2, eqSt (sI1 R Z S W U m u v a0 a1 a2 (oSh .qzz (.vec 10 Y.length)) [some (vC Y)] 0) (sI1 R Z S W U m u v a0 a1 a2 (oSh .qzz (.vec 10 Y.length)) [some (vC Y)] 0), o] := by kernel_rfl
open Classical in
theorem rT_y100 : code (ent Tryz.prog (tRo (plV .qzz .qzz) []) nolv 64 1 20) Tryz.prog (lvI_y1 R Z S W U Y m u v a0 a1 a2 o) 3 64 1 loopT (sL R Z S W U m u v a0 a1 a2 (oSh .qzz (.vec 9 Y.length)) [some (vC Y)] 1) (endK 3 64 kL kLX)
  = chks (some (.normal, (sL R Z S W U m u v a0 a1 a2 (oSh .qzz (.vec 9 Y.length)) [some (vC Y)] 2))) [ckTd fP [bkW, .dsl 1 u] [oSh .qzz (.vec 2 Y.length), fSp U, vC Y] (plV .qzz .qzz) [], ckTd fPd [bkW, .dsl 1 u] [oSh .qzz (.vec 2 Y.length), fSp U, vC Y] (plV .qzz .qzz) [], inI a0, inI a1, inI a2, eqSt (sI1 R Z S W U m u v a0 a1 a2 (oSh .qzz (.vec 10 Y.length)) [some (vC Y)] 0) (sI1 R Z S W U m u v a0 a1 a2 (oSh .qzz (.vec 10 Y.length)) [some (vC Y)] 0), o] := by kernel_rfl
open Classical in
theorem rT_y101 : code (ent Tryz.prog (tRo (plV .qzz (.vec 3 b)) [vA B]) nolv 64 1 20) Tryz.prog (lvI_y1 R Z S W U Y m u v a0 a1 a2 o) 3 64 1 loopT (sL R Z S W U m u v a0 a1 a2 (oSh .qzz (.vec 9 Y.length)) [some (vC Y)] 1) (endK 3 64 kL kLX)
  = chks (some (.normal, (sL R Z S W U m u v a0 a1 a2 (oSh .qzz (.vec 9 Y.length)) [some (vC Y)] 2))) [ckTd fP [bkW, .dsl 1 u] [oSh .qzz (.vec 2 Y.length), fSp U, vC Y] (plV .qzz (.vec 3 b)) [vA B], ckTd fPd [bkW, .dsl 1 u] [oSh .qzz (.vec 2 Y.length), fSp U, vC Y] (plV .qzz (.vec 3 b)) [vA B], decide (SameA B B b b), inI a0, inI a1, inI a2, eqSt (sI1 R Z S W U m u v a0 a1 a2 (oSh .qzz (.vec 10 Y.length)) [some (vC Y)] 0) (sI1 R Z S W U m u v a0 a1 a2 (oSh .qzz (.vec 10 Y.length)) [some (vC Y)] 0), o] := by kernel_rfl
open Classical in
theorem rT_y110 : code (ent Tryz.prog (tRo (plV (.vec 3 a) .qzz) [vS P]) nolv 64 1 20) Tryz.prog (lvI_y1 R Z S W U Y m u v a0 a1 a2 o) 3 64 1 loopT (sL R Z S W U m u v a0 a1 a2 (oSh .qzz (.vec 9 Y.length)) [some (vC Y)] 1) (endK 3 64 kL kLX)
  = chks (some (.normal, (sL R Z S W U m u v a0 a1 a2 (oSh .qzz (.vec 9 Y.length)) [some (vC Y)] 2))) [ckTd fP [bkW, .dsl 1 u] [oSh .qzz (.vec 2 Y.length), fSp U, vC Y] (plV (.vec 3 a) .qzz) [vS P], ckTd fPd [bkW, .dsl 1 u] [oSh .qzz (.vec 2 Y.length), fSp U, vC Y] (plV (.vec 3 a) .qzz) [vS P], decide (SameS P P a a), inI a0, inI a1, inI a2, eqSt (sI1 R Z S W U m u v a0 a1 a2 (oSh .qzz (.vec 10 Y.length)) [some (vC Y)] 0) (sI1 R Z S W U m u v a0 a1 a2 (oSh .qzz (.vec 10 Y.length)) [some (vC Y)] 0), o] := by kernel_rfl
open Classical in
theorem rT_y111 : code (ent Tryz.prog (tRo (plV (.vec 3 a) (.vec 4 b)) [vS P, vA B]) nolv 64 1 20) Tryz.prog (lvI_y1 R Z S W U Y m u v a0 a1 a2 o) 3 64 1 loopT (sL R Z S W U m u v a0 a1 a2 (oSh .qzz (.vec 9 Y.length)) [some (vC Y)] 1) (endK 3 64 kL kLX)
  = chks (some (.normal, (sL R Z S W U m u v a0 a1 a2 (oSh .qzz (.vec 9 Y.length)) [some (vC Y)] 2))) [ckTd fP [bkW, .dsl 1 u] [oSh .qzz (.vec 2 Y.length), fSp U, vC Y] (plV (.vec 3 a) (.vec 4 b)) [vS P, vA B], ckTd fPd [bkW, .dsl 1 u] [oSh .qzz (.vec 2 Y.length), fSp U, vC Y] (plV (.vec 3 a) (.vec 4 b)) [vS P, vA B], decide (SameS P P a a), decide (SameA B B b b), inI a0, inI a1, inI a2, eqSt (sI1 R Z S W U m u v a0 a1 a2 (oSh .qzz (.vec 10 Y.length)) [some (vC Y)] 0) (sI1 R Z S W U m u v a0 a1 a2 (oSh .qzz (.vec 10 Y.length)) [some (vC Y)] 0), o] := by kernel_rfl
open Classical in
theorem rI_y10 : code (ent Tryz.prog tIn nolv 64 1 20) Tryz.prog {} 3 64 1 loopI (sI1 R Z S W U m u v a0 a1 a2 (oSh .qzz (.vec 10 Y.length)) [some (vC Y)] 0) (endK 3 64 kI kL)
  = chks (qyw (!eq5 (cvX U u a0 a1 a2) (cvX U u a0 a1 a2)) (some (.ret, (sL R Z S W U m u v a0 a1 a2 (oSh .qzz (.vec 9 Y.length)) [some (vC Y)] 1))) (qyw ((decide (covM U u a0 a1 a2 < u)) != (decide (covM U u a0 a1 a2 < u))) (some (.ret, (sL R Z S W U m u v a0 a1 a2 (oSh .qzz (.vec 9 Y.length)) [some (vC Y)] 1))) (some (.normal, sI1 R Z S W U m u v a0 a1 a2 (oSh .qzz (.vec 10 Y.length)) [some (vC Y)] 1)))) [decide (okCv U u a1 a2), decide (okCv U u a1 a2)] := by kernel_rfl
open Classical in
theorem rI_y11 : code (ent Tryz.prog tIn nolv 64 1 20) Tryz.prog {} 3 64 1 loopI (sI1 R Z S W U m u v a0 a1 a2 (oSh .qzz (.vec 10 Y.length)) [some (vC Y)] 1) (endK 3 64 kI kL)
  = chks (qyw (!eq5 (cvX U u (qyv a0 2) (qyv a1 9) (qyv a2 9)) (cvX U u (qyv a0 2) (qyv a1 9) (qyv a2 9))) (some (.ret, (sL R Z S W U m u v a0 a1 a2 (oSh .qzz (.vec 9 Y.length)) [some (vC Y)] 1))) (qyw ((decide (covM U u (qyv a0 2) (qyv a1 9) (qyv a2 9) < u)) != (decide (covM U u (qyv a0 2) (qyv a1 9) (qyv a2 9) < u))) (some (.ret, (sL R Z S W U m u v a0 a1 a2 (oSh .qzz (.vec 9 Y.length)) [some (vC Y)] 1))) (some (.normal, sI1 R Z S W U m u v a0 a1 a2 (oSh .qzz (.vec 10 Y.length)) [some (vC Y)] 2)))) [decide (okCv U u (qyv a1 9) (qyv a2 9)), decide (okCv U u (qyv a1 9) (qyv a2 9))] := by kernel_rfl
theorem rI_y12 : code (ent Tryz.prog tIn nolv 64 1 20) Tryz.prog {} 3 64 1 loopI (sI1 R Z S W U m u v a0 a1 a2 (oSh .qzz (.vec 10 Y.length)) [some (vC Y)] 2) (endK 3 64 kI kL) = some (.exit 2, (sL R Z S W U m u v a0 a1 a2 (oSh .qzz (.vec 9 Y.length)) [some (vC Y)] 1)) := by kernel_rfl
open Classical in
theorem rT_y2E : code (ent Tryz.prog (tRo plE []) nolv 64 1 20) Tryz.prog (lvI_y2 R Z S W U Y m u v a0 a1 a2 o) 3 64 1 loopT (sL R Z S W U m u v a0 a1 a2 (oSh .qzz (.vec 9 Y.length)) [some (vC Y)] 2) (endK 3 64 kL kLX)
  = chks (some (.normal, (sL R Z S W U m u v a0 a1 a2 (oSh .qzz (.vec 9 Y.length)) [some (vC Y)] 3))) [ckTd fP [bkW, .dsl 1 v] [oSh .qzz (.vec 2 Y.length), fSp S, vC Y] plE [], ckTd fPd [bkW, .dsl 1 v] [oSh .qzz (.vec 2 Y.length), fSp S, vC Y] plE [], inI a0, inI a1, inI a2, eqSt (sI2 R Z S W U m u v a0 a1 a2 (oSh .qzz (.vec 10 Y.length)) [some (vC Y)] 0) (sI2 R Z S W U m u v a0 a1 a2 (oSh .qzz (.vec 10 Y.length)) [some (vC Y)] 0), o] := by kernel_rfl
open Classical in
theorem rT_y200 : code (ent Tryz.prog (tRo (plV .qzz .qzz) []) nolv 64 1 20) Tryz.prog (lvI_y2 R Z S W U Y m u v a0 a1 a2 o) 3 64 1 loopT (sL R Z S W U m u v a0 a1 a2 (oSh .qzz (.vec 9 Y.length)) [some (vC Y)] 2) (endK 3 64 kL kLX)
  = chks (some (.normal, (sL R Z S W U m u v a0 a1 a2 (oSh .qzz (.vec 9 Y.length)) [some (vC Y)] 3))) [ckTd fP [bkW, .dsl 1 v] [oSh .qzz (.vec 2 Y.length), fSp S, vC Y] (plV .qzz .qzz) [], ckTd fPd [bkW, .dsl 1 v] [oSh .qzz (.vec 2 Y.length), fSp S, vC Y] (plV .qzz .qzz) [], inI a0, inI a1, inI a2, eqSt (sI2 R Z S W U m u v a0 a1 a2 (oSh .qzz (.vec 10 Y.length)) [some (vC Y)] 0) (sI2 R Z S W U m u v a0 a1 a2 (oSh .qzz (.vec 10 Y.length)) [some (vC Y)] 0), o] := by kernel_rfl
open Classical in
theorem rT_y201 : code (ent Tryz.prog (tRo (plV .qzz (.vec 3 b)) [vA B]) nolv 64 1 20) Tryz.prog (lvI_y2 R Z S W U Y m u v a0 a1 a2 o) 3 64 1 loopT (sL R Z S W U m u v a0 a1 a2 (oSh .qzz (.vec 9 Y.length)) [some (vC Y)] 2) (endK 3 64 kL kLX)
  = chks (some (.normal, (sL R Z S W U m u v a0 a1 a2 (oSh .qzz (.vec 9 Y.length)) [some (vC Y)] 3))) [ckTd fP [bkW, .dsl 1 v] [oSh .qzz (.vec 2 Y.length), fSp S, vC Y] (plV .qzz (.vec 3 b)) [vA B], ckTd fPd [bkW, .dsl 1 v] [oSh .qzz (.vec 2 Y.length), fSp S, vC Y] (plV .qzz (.vec 3 b)) [vA B], decide (SameA B B b b), inI a0, inI a1, inI a2, eqSt (sI2 R Z S W U m u v a0 a1 a2 (oSh .qzz (.vec 10 Y.length)) [some (vC Y)] 0) (sI2 R Z S W U m u v a0 a1 a2 (oSh .qzz (.vec 10 Y.length)) [some (vC Y)] 0), o] := by kernel_rfl
open Classical in
theorem rT_y210 : code (ent Tryz.prog (tRo (plV (.vec 3 a) .qzz) [vS P]) nolv 64 1 20) Tryz.prog (lvI_y2 R Z S W U Y m u v a0 a1 a2 o) 3 64 1 loopT (sL R Z S W U m u v a0 a1 a2 (oSh .qzz (.vec 9 Y.length)) [some (vC Y)] 2) (endK 3 64 kL kLX)
  = chks (some (.normal, (sL R Z S W U m u v a0 a1 a2 (oSh .qzz (.vec 9 Y.length)) [some (vC Y)] 3))) [ckTd fP [bkW, .dsl 1 v] [oSh .qzz (.vec 2 Y.length), fSp S, vC Y] (plV (.vec 3 a) .qzz) [vS P], ckTd fPd [bkW, .dsl 1 v] [oSh .qzz (.vec 2 Y.length), fSp S, vC Y] (plV (.vec 3 a) .qzz) [vS P], decide (SameS P P a a), inI a0, inI a1, inI a2, eqSt (sI2 R Z S W U m u v a0 a1 a2 (oSh .qzz (.vec 10 Y.length)) [some (vC Y)] 0) (sI2 R Z S W U m u v a0 a1 a2 (oSh .qzz (.vec 10 Y.length)) [some (vC Y)] 0), o] := by kernel_rfl
open Classical in
theorem rT_y211 : code (ent Tryz.prog (tRo (plV (.vec 3 a) (.vec 4 b)) [vS P, vA B]) nolv 64 1 20) Tryz.prog (lvI_y2 R Z S W U Y m u v a0 a1 a2 o) 3 64 1 loopT (sL R Z S W U m u v a0 a1 a2 (oSh .qzz (.vec 9 Y.length)) [some (vC Y)] 2) (endK 3 64 kL kLX)
  = chks (some (.normal, (sL R Z S W U m u v a0 a1 a2 (oSh .qzz (.vec 9 Y.length)) [some (vC Y)] 3))) [ckTd fP [bkW, .dsl 1 v] [oSh .qzz (.vec 2 Y.length), fSp S, vC Y] (plV (.vec 3 a) (.vec 4 b)) [vS P, vA B], ckTd fPd [bkW, .dsl 1 v] [oSh .qzz (.vec 2 Y.length), fSp S, vC Y] (plV (.vec 3 a) (.vec 4 b)) [vS P, vA B], decide (SameS P P a a), decide (SameA B B b b), inI a0, inI a1, inI a2, eqSt (sI2 R Z S W U m u v a0 a1 a2 (oSh .qzz (.vec 10 Y.length)) [some (vC Y)] 0) (sI2 R Z S W U m u v a0 a1 a2 (oSh .qzz (.vec 10 Y.length)) [some (vC Y)] 0), o] := by kernel_rfl
open Classical in
theorem rI_y20 : code (ent Tryz.prog tIn nolv 64 1 20) Tryz.prog {} 3 64 1 loopI (sI2 R Z S W U m u v a0 a1 a2 (oSh .qzz (.vec 10 Y.length)) [some (vC Y)] 0) (endK 3 64 kI kL)
  = chks (qyw (!eq5 (cvX S v a0 a1 a2) (cvX S v a0 a1 a2)) (some (.ret, (sL R Z S W U m u v a0 a1 a2 (oSh .qzz (.vec 9 Y.length)) [some (vC Y)] 2))) (qyw ((decide (covM S v a0 a1 a2 < v)) != (decide (covM S v a0 a1 a2 < v))) (some (.ret, (sL R Z S W U m u v a0 a1 a2 (oSh .qzz (.vec 9 Y.length)) [some (vC Y)] 2))) (some (.normal, sI2 R Z S W U m u v a0 a1 a2 (oSh .qzz (.vec 10 Y.length)) [some (vC Y)] 1)))) [decide (okCv S v a1 a2), decide (okCv S v a1 a2)] := by kernel_rfl
open Classical in
theorem rI_y21 : code (ent Tryz.prog tIn nolv 64 1 20) Tryz.prog {} 3 64 1 loopI (sI2 R Z S W U m u v a0 a1 a2 (oSh .qzz (.vec 10 Y.length)) [some (vC Y)] 1) (endK 3 64 kI kL)
  = chks (qyw (!eq5 (cvX S v (qyv a0 2) (qyv a1 9) (qyv a2 9)) (cvX S v (qyv a0 2) (qyv a1 9) (qyv a2 9))) (some (.ret, (sL R Z S W U m u v a0 a1 a2 (oSh .qzz (.vec 9 Y.length)) [some (vC Y)] 2))) (qyw ((decide (covM S v (qyv a0 2) (qyv a1 9) (qyv a2 9) < v)) != (decide (covM S v (qyv a0 2) (qyv a1 9) (qyv a2 9) < v))) (some (.ret, (sL R Z S W U m u v a0 a1 a2 (oSh .qzz (.vec 9 Y.length)) [some (vC Y)] 2))) (some (.normal, sI2 R Z S W U m u v a0 a1 a2 (oSh .qzz (.vec 10 Y.length)) [some (vC Y)] 2)))) [decide (okCv S v (qyv a1 9) (qyv a2 9)), decide (okCv S v (qyv a1 9) (qyv a2 9))] := by kernel_rfl
theorem rI_y22 : code (ent Tryz.prog tIn nolv 64 1 20) Tryz.prog {} 3 64 1 loopI (sI2 R Z S W U m u v a0 a1 a2 (oSh .qzz (.vec 10 Y.length)) [some (vC Y)] 2) (endK 3 64 kI kL) = some (.exit 2, (sL R Z S W U m u v a0 a1 a2 (oSh .qzz (.vec 9 Y.length)) [some (vC Y)] 2)) := by kernel_rfl
theorem rT_y3 : code (ent Tryz.prog [] nolv 64 1 20) Tryz.prog {} 3 64 1 loopT (sL R Z S W U m u v a0 a1 a2 (oSh .qzz (.vec 9 Y.length)) [some (vC Y)] 3) (endK 3 64 kL kLX) = some (.exit 0, sLX R Z S) := by kernel_rfl
theorem re_y (n : Nat) : code (ent (R := AV × List PObj) Tryz.prog tTe nolv 64 1 20) Tryz.prog (lvT_y R Z S W U Y m u a0 a1 a2 o n) 3 64 1 (restC 6 bTe) (sT2 R Z S W U n m u a0 a1 a2 (tlY 8 Y)) (finP Tryz.prog Tryz.f3 3 [fA R, fZ Z, fSp S] pure2)
  = chks (pure2 (.bool true) [fA R, fZ Z, fSp S]) [decide (0 ≤ mnI (n : Int) 12) && decide ((mnI (n : Int) 12).toNat ≤ n), eqSt (sL R Z S W U m u (mnI (n : Int) 12).toNat a0 a1 a2 (oSh .qzz (.vec 9 Y.length)) [some (vC Y)] 0) (sL R Z S W U m u (mnI (n : Int) 12).toNat a0 a1 a2 (oSh .qzz (.vec 9 Y.length)) [some (vC Y)] 0), o] := by kernel_rfl
end
end Go.Proofs.YtphhepnldndbhaaGreatDoor.Dp
namespace Go.Proofs.YtphhepnldndbhaaGreatDoor.Dp
open Go Sx Go.Proofs.YtphhepnldndbhaaGreatDoor
section
variable {R Z S W U : List (List CV)} {y : List CV} {Y : List (List CV)} {m u v : Nat} {a0 a1 a2 : Int}
open Classical in
theorem inner_y0 (hl : OkL W m) (h1 : inI a1 = true) (h2 : inI a2 = true) : Tri Tryz.prog (.loop loopI) (sI0 R Z S W U m u v a0 a1 a2 (oSh .qzz (.vec 10 (y :: Y).length)) [some (vC (y :: Y))] 0).toA (.exit 2) (sL R Z S W U m u v a0 a1 a2 (oSh .qzz (.vec 9 (y :: Y).length)) [some (vC (y :: Y))] 0).toA 3 := by
  refine tri_up (body := loopI) (fun j => (sI0 R Z S W U m u v a0 a1 a2 (oSh .qzz (.vec 10 (y :: Y).length)) [some (vC (y :: Y))] (j : Int)).toA) (fun e => by cases e) 2 (fun j hj => ?_) ?_ 0 (Nat.zero_le _)
  · rcases (show j = 0 ∨ j = 1 by omega) with rfl | rfl
    · exact qzx tIn_ok ((rI_y00 ).trans (by rw [qzy (all2 (decide_eq_true (hl.cv h1 h2)) (decide_eq_true (hl.cv h1 h2))), eq5_self, bcF (b := !true) rfl, bcF (by simp)]; rfl))
    · exact qzx tIn_ok ((rI_y01 ).trans (by rw [qzy (all2 (decide_eq_true (hl.cv (qxx (by decide) (by decide)) (qxx (by decide) (by decide)))) (decide_eq_true (hl.cv (qxx (by decide) (by decide)) (qxx (by decide) (by decide))))), eq5_self, bcF (b := !true) rfl, bcF (by simp)]; rfl))
  · exact qzx tIn_ok (rI_y02 )
open Classical in
theorem round_y0 (hb : okBk [] (y :: Y)) (hl : OkL W m) (h0 : inI a0 = true) (h1 : inI a1 = true) (h2 : inI a2 = true) : Tri Tryz.prog loopT (sL R Z S W U m u v a0 a1 a2 (oSh .qzz (.vec 9 (y :: Y).length)) [some (vC (y :: Y))] 0).toA .normal (sL R Z S W U m u v a0 a1 a2 (oSh .qzz (.vec 9 (y :: Y).length)) [some (vC (y :: Y))] 1).toA 3 := by
  have hL : LoopsOK Tryz.prog (lvI_y0 R Z S W U (y :: Y) m u v a0 a1 a2 true) 3 loopT := it_loopsOK fun e he t => by cases he; exact eAt_ok (outC_ok fun _ => inner_y0 hl h1 h2) 3 t
  have he : eqSt (sI0 R Z S W U m u v a0 a1 a2 (oSh .qzz (.vec 10 (y :: Y).length)) [some (vC (y :: Y))] 0) (sI0 R Z S W U m u v a0 a1 a2 (oSh .qzz (.vec 10 (y :: Y).length)) [some (vC (y :: Y))] 0) = true := qzt _
  cases hw : wrgB W (tkN (clL [] (y :: Y)) (clL [] (y :: Y)).length) m with
  | true =>
    have k1 := pe_y hb hl.le hl.few hw
    have k2 := pde_y hb hl.le hl.few hw
    refine qyy (r := (.normal, (sL R Z S W U m u v a0 a1 a2 (oSh .qzz (.vec 9 (y :: Y).length)) [some (vC (y :: Y))] 1))) (qzv (tRo_ok plE []) host qyz (NF := 64) (m := 1) 20) hL ((rT_y0E (o := true)).trans (qzy fun b hb' => ?_))
    simp only [List.mem_cons, List.not_mem_nil, or_false] at hb'
    rcases hb' with rfl | rfl | rfl | rfl | rfl | rfl | rfl
    · exact decide_eq_true k1
    · exact decide_eq_true k2
    · exact h0
    · exact h1
    · exact h2
    · exact he
    · rfl
  | false =>
    have k1 := pm_y hb hl.le hl.few hw
    have k2 := pdm_y hb hl.le hl.few hw
    have hlen := plPB_len (clL [] (y :: Y)) W m
    have hf := hl.few
    generalize plP (clL [] (y :: Y)) W m = P at *
    generalize plB (clL [] (y :: Y)) W m = B at *
    cases P with
    | nil => cases B with
      | nil =>
        refine qyy (r := (.normal, (sL R Z S W U m u v a0 a1 a2 (oSh .qzz (.vec 9 (y :: Y).length)) [some (vC (y :: Y))] 1))) (qzv (tRo_ok (plV .qzz .qzz) []) host qyz (NF := 64) (m := 1) 20) hL ((rT_y000 (o := true)).trans (qzy fun b hb' => ?_))
        simp only [List.mem_cons, List.not_mem_nil, or_false] at hb'
        rcases hb' with rfl | rfl | rfl | rfl | rfl | rfl | rfl
        · exact decide_eq_true k1
        · exact decide_eq_true k2
        · exact h0
        · exact h1
        · exact h2
        · exact he
        · rfl
      | cons q B =>
        refine qyy (r := (.normal, (sL R Z S W U m u v a0 a1 a2 (oSh .qzz (.vec 9 (y :: Y).length)) [some (vC (y :: Y))] 1))) (qzv (tRo_ok (plV .qzz (.vec 3 (q :: B).length)) [vA (q :: B)]) host qyz (NF := 64) (m := 1) 20) hL ((rT_y001 (o := true)).trans (qzy fun b hb' => ?_))
        simp only [List.mem_cons, List.not_mem_nil, or_false] at hb'
        rcases hb' with rfl | rfl | rfl | rfl | rfl | rfl | rfl | rfl
        · exact decide_eq_true k1
        · exact decide_eq_true k2
        · exact decide_eq_true (sameA_self (by omega))
        · exact h0
        · exact h1
        · exact h2
        · exact he
        · rfl
    | cons p P => cases B with
      | nil =>
        refine qyy (r := (.normal, (sL R Z S W U m u v a0 a1 a2 (oSh .qzz (.vec 9 (y :: Y).length)) [some (vC (y :: Y))] 1))) (qzv (tRo_ok (plV (.vec 3 (p :: P).length) .qzz) [vS (p :: P)]) host qyz (NF := 64) (m := 1) 20) hL ((rT_y010 (o := true)).trans (qzy fun b hb' => ?_))
        simp only [List.mem_cons, List.not_mem_nil, or_false] at hb'
        rcases hb' with rfl | rfl | rfl | rfl | rfl | rfl | rfl | rfl
        · exact decide_eq_true k1
        · exact decide_eq_true k2
        · exact decide_eq_true (sameS_self (by omega))
        · exact h0
        · exact h1
        · exact h2
        · exact he
        · rfl
      | cons q B =>
        refine qyy (r := (.normal, (sL R Z S W U m u v a0 a1 a2 (oSh .qzz (.vec 9 (y :: Y).length)) [some (vC (y :: Y))] 1))) (qzv (tRo_ok (plV (.vec 3 (p :: P).length) (.vec 4 (q :: B).length)) [vS (p :: P), vA (q :: B)]) host qyz (NF := 64) (m := 1) 20) hL ((rT_y011 (o := true)).trans (qzy fun b hb' => ?_))
        simp only [List.mem_cons, List.not_mem_nil, or_false] at hb'
        rcases hb' with rfl | rfl | rfl | rfl | rfl | rfl | rfl | rfl | rfl
        · exact decide_eq_true k1
        · exact decide_eq_true k2
        · exact decide_eq_true (sameS_self (by omega))
        · exact decide_eq_true (sameA_self (by omega))
        · exact h0
        · exact h1
        · exact h2
        · exact he
        · rfl
open Classical in
theorem inner_y1 (hl : OkL U u) (h1 : inI a1 = true) (h2 : inI a2 = true) : Tri Tryz.prog (.loop loopI) (sI1 R Z S W U m u v a0 a1 a2 (oSh .qzz (.vec 10 (y :: Y).length)) [some (vC (y :: Y))] 0).toA (.exit 2) (sL R Z S W U m u v a0 a1 a2 (oSh .qzz (.vec 9 (y :: Y).length)) [some (vC (y :: Y))] 1).toA 3 := by
  refine tri_up (body := loopI) (fun j => (sI1 R Z S W U m u v a0 a1 a2 (oSh .qzz (.vec 10 (y :: Y).length)) [some (vC (y :: Y))] (j : Int)).toA) (fun e => by cases e) 2 (fun j hj => ?_) ?_ 0 (Nat.zero_le _)
  · rcases (show j = 0 ∨ j = 1 by omega) with rfl | rfl
    · exact qzx tIn_ok ((rI_y10 ).trans (by rw [qzy (all2 (decide_eq_true (hl.cv h1 h2)) (decide_eq_true (hl.cv h1 h2))), eq5_self, bcF (b := !true) rfl, bcF (by simp)]; rfl))
    · exact qzx tIn_ok ((rI_y11 ).trans (by rw [qzy (all2 (decide_eq_true (hl.cv (qxx (by decide) (by decide)) (qxx (by decide) (by decide)))) (decide_eq_true (hl.cv (qxx (by decide) (by decide)) (qxx (by decide) (by decide))))), eq5_self, bcF (b := !true) rfl, bcF (by simp)]; rfl))
  · exact qzx tIn_ok (rI_y12 )
open Classical in
theorem round_y1 (hb : okBk [] (y :: Y)) (hl : OkL U u) (h0 : inI a0 = true) (h1 : inI a1 = true) (h2 : inI a2 = true) : Tri Tryz.prog loopT (sL R Z S W U m u v a0 a1 a2 (oSh .qzz (.vec 9 (y :: Y).length)) [some (vC (y :: Y))] 1).toA .normal (sL R Z S W U m u v a0 a1 a2 (oSh .qzz (.vec 9 (y :: Y).length)) [some (vC (y :: Y))] 2).toA 3 := by
  have hL : LoopsOK Tryz.prog (lvI_y1 R Z S W U (y :: Y) m u v a0 a1 a2 true) 3 loopT := it_loopsOK fun e he t => by cases he; exact eAt_ok (outC_ok fun _ => inner_y1 hl h1 h2) 3 t
  have he : eqSt (sI1 R Z S W U m u v a0 a1 a2 (oSh .qzz (.vec 10 (y :: Y).length)) [some (vC (y :: Y))] 0) (sI1 R Z S W U m u v a0 a1 a2 (oSh .qzz (.vec 10 (y :: Y).length)) [some (vC (y :: Y))] 0) = true := qzt _
  cases hw : wrgB U (tkN (clL [] (y :: Y)) (clL [] (y :: Y)).length) u with
  | true =>
    have k1 := pe_y hb hl.le hl.few hw
    have k2 := pde_y hb hl.le hl.few hw
    refine qyy (r := (.normal, (sL R Z S W U m u v a0 a1 a2 (oSh .qzz (.vec 9 (y :: Y).length)) [some (vC (y :: Y))] 2))) (qzv (tRo_ok plE []) host qyz (NF := 64) (m := 1) 20) hL ((rT_y1E (o := true)).trans (qzy fun b hb' => ?_))
    simp only [List.mem_cons, List.not_mem_nil, or_false] at hb'
    rcases hb' with rfl | rfl | rfl | rfl | rfl | rfl | rfl
    · exact decide_eq_true k1
    · exact decide_eq_true k2
    · exact h0
    · exact h1
    · exact h2
    · exact he
    · rfl
  | false =>
    have k1 := pm_y hb hl.le hl.few hw
    have k2 := pdm_y hb hl.le hl.few hw
    have hlen := plPB_len (clL [] (y :: Y)) U u
    have hf := hl.few
    generalize plP (clL [] (y :: Y)) U u = P at *
    generalize plB (clL [] (y :: Y)) U u = B at *
    cases P with
    | nil => cases B with
      | nil =>
        refine qyy (r := (.normal, (sL R Z S W U m u v a0 a1 a2 (oSh .qzz (.vec 9 (y :: Y).length)) [some (vC (y :: Y))] 2))) (qzv (tRo_ok (plV .qzz .qzz) []) host qyz (NF := 64) (m := 1) 20) hL ((rT_y100 (o := true)).trans (qzy fun b hb' => ?_))
        simp only [List.mem_cons, List.not_mem_nil, or_false] at hb'
        rcases hb' with rfl | rfl | rfl | rfl | rfl | rfl | rfl
        · exact decide_eq_true k1
        · exact decide_eq_true k2
        · exact h0
        · exact h1
        · exact h2
        · exact he
        · rfl
      | cons q B =>
        refine qyy (r := (.normal, (sL R Z S W U m u v a0 a1 a2 (oSh .qzz (.vec 9 (y :: Y).length)) [some (vC (y :: Y))] 2))) (qzv (tRo_ok (plV .qzz (.vec 3 (q :: B).length)) [vA (q :: B)]) host qyz (NF := 64) (m := 1) 20) hL ((rT_y101 (o := true)).trans (qzy fun b hb' => ?_))
        simp only [List.mem_cons, List.not_mem_nil, or_false] at hb'
        rcases hb' with rfl | rfl | rfl | rfl | rfl | rfl | rfl | rfl
        · exact decide_eq_true k1
        · exact decide_eq_true k2
        · exact decide_eq_true (sameA_self (by omega))
        · exact h0
        · exact h1
        · exact h2
        · exact he
        · rfl
    | cons p P => cases B with
      | nil =>
        refine qyy (r := (.normal, (sL R Z S W U m u v a0 a1 a2 (oSh .qzz (.vec 9 (y :: Y).length)) [some (vC (y :: Y))] 2))) (qzv (tRo_ok (plV (.vec 3 (p :: P).length) .qzz) [vS (p :: P)]) host qyz (NF := 64) (m := 1) 20) hL ((rT_y110 (o := true)).trans (qzy fun b hb' => ?_))
        simp only [List.mem_cons, List.not_mem_nil, or_false] at hb'
        rcases hb' with rfl | rfl | rfl | rfl | rfl | rfl | rfl | rfl
        · exact decide_eq_true k1
        · exact decide_eq_true k2
        · exact decide_eq_true (sameS_self (by omega))
        · exact h0
        · exact h1
        · exact h2
        · exact he
        · rfl
      | cons q B =>
        refine qyy (r := (.normal, (sL R Z S W U m u v a0 a1 a2 (oSh .qzz (.vec 9 (y :: Y).length)) [some (vC (y :: Y))] 2))) (qzv (tRo_ok (plV (.vec 3 (p :: P).length) (.vec 4 (q :: B).length)) [vS (p :: P), vA (q :: B)]) host qyz (NF := 64) (m := 1) 20) hL ((rT_y111 (o := true)).trans (qzy fun b hb' => ?_))
        simp only [List.mem_cons, List.not_mem_nil, or_false] at hb'
        rcases hb' with rfl | rfl | rfl | rfl | rfl | rfl | rfl | rfl | rfl
        · exact decide_eq_true k1
        · exact decide_eq_true k2
        · exact decide_eq_true (sameS_self (by omega))
        · exact decide_eq_true (sameA_self (by omega))
        · exact h0
        · exact h1
        · exact h2
        · exact he
        · rfl
open Classical in
theorem inner_y2 (hl : OkL S v) (h1 : inI a1 = true) (h2 : inI a2 = true) : Tri Tryz.prog (.loop loopI) (sI2 R Z S W U m u v a0 a1 a2 (oSh .qzz (.vec 10 (y :: Y).length)) [some (vC (y :: Y))] 0).toA (.exit 2) (sL R Z S W U m u v a0 a1 a2 (oSh .qzz (.vec 9 (y :: Y).length)) [some (vC (y :: Y))] 2).toA 3 := by
  refine tri_up (body := loopI) (fun j => (sI2 R Z S W U m u v a0 a1 a2 (oSh .qzz (.vec 10 (y :: Y).length)) [some (vC (y :: Y))] (j : Int)).toA) (fun e => by cases e) 2 (fun j hj => ?_) ?_ 0 (Nat.zero_le _)
  · rcases (show j = 0 ∨ j = 1 by omega) with rfl | rfl
    · exact qzx tIn_ok ((rI_y20 ).trans (by rw [qzy (all2 (decide_eq_true (hl.cv h1 h2)) (decide_eq_true (hl.cv h1 h2))), eq5_self, bcF (b := !true) rfl, bcF (by simp)]; rfl))
    · exact qzx tIn_ok ((rI_y21 ).trans (by rw [qzy (all2 (decide_eq_true (hl.cv (qxx (by decide) (by decide)) (qxx (by decide) (by decide)))) (decide_eq_true (hl.cv (qxx (by decide) (by decide)) (qxx (by decide) (by decide))))), eq5_self, bcF (b := !true) rfl, bcF (by simp)]; rfl))
  · exact qzx tIn_ok (rI_y22 )
open Classical in
theorem round_y2 (hb : okBk [] (y :: Y)) (hl : OkL S v) (h0 : inI a0 = true) (h1 : inI a1 = true) (h2 : inI a2 = true) : Tri Tryz.prog loopT (sL R Z S W U m u v a0 a1 a2 (oSh .qzz (.vec 9 (y :: Y).length)) [some (vC (y :: Y))] 2).toA .normal (sL R Z S W U m u v a0 a1 a2 (oSh .qzz (.vec 9 (y :: Y).length)) [some (vC (y :: Y))] 3).toA 3 := by
  have hL : LoopsOK Tryz.prog (lvI_y2 R Z S W U (y :: Y) m u v a0 a1 a2 true) 3 loopT := it_loopsOK fun e he t => by cases he; exact eAt_ok (outC_ok fun _ => inner_y2 hl h1 h2) 3 t
  have he : eqSt (sI2 R Z S W U m u v a0 a1 a2 (oSh .qzz (.vec 10 (y :: Y).length)) [some (vC (y :: Y))] 0) (sI2 R Z S W U m u v a0 a1 a2 (oSh .qzz (.vec 10 (y :: Y).length)) [some (vC (y :: Y))] 0) = true := qzt _
  cases hw : wrgB S (tkN (clL [] (y :: Y)) (clL [] (y :: Y)).length) v with
  | true =>
    have k1 := pe_y hb hl.le hl.few hw
    have k2 := pde_y hb hl.le hl.few hw
    refine qyy (r := (.normal, (sL R Z S W U m u v a0 a1 a2 (oSh .qzz (.vec 9 (y :: Y).length)) [some (vC (y :: Y))] 3))) (qzv (tRo_ok plE []) host qyz (NF := 64) (m := 1) 20) hL ((rT_y2E (o := true)).trans (qzy fun b hb' => ?_))
    simp only [List.mem_cons, List.not_mem_nil, or_false] at hb'
    rcases hb' with rfl | rfl | rfl | rfl | rfl | rfl | rfl
    · exact decide_eq_true k1
    · exact decide_eq_true k2
    · exact h0
    · exact h1
    · exact h2
    · exact he
    · rfl
  | false =>
    have k1 := pm_y hb hl.le hl.few hw
    have k2 := pdm_y hb hl.le hl.few hw
    have hlen := plPB_len (clL [] (y :: Y)) S v
    have hf := hl.few
    generalize plP (clL [] (y :: Y)) S v = P at *
    generalize plB (clL [] (y :: Y)) S v = B at *
    cases P with
    | nil => cases B with
      | nil =>
        refine qyy (r := (.normal, (sL R Z S W U m u v a0 a1 a2 (oSh .qzz (.vec 9 (y :: Y).length)) [some (vC (y :: Y))] 3))) (qzv (tRo_ok (plV .qzz .qzz) []) host qyz (NF := 64) (m := 1) 20) hL ((rT_y200 (o := true)).trans (qzy fun b hb' => ?_))
        simp only [List.mem_cons, List.not_mem_nil, or_false] at hb'
        rcases hb' with rfl | rfl | rfl | rfl | rfl | rfl | rfl
        · exact decide_eq_true k1
        · exact decide_eq_true k2
        · exact h0
        · exact h1
        · exact h2
        · exact he
        · rfl
      | cons q B =>
        refine qyy (r := (.normal, (sL R Z S W U m u v a0 a1 a2 (oSh .qzz (.vec 9 (y :: Y).length)) [some (vC (y :: Y))] 3))) (qzv (tRo_ok (plV .qzz (.vec 3 (q :: B).length)) [vA (q :: B)]) host qyz (NF := 64) (m := 1) 20) hL ((rT_y201 (o := true)).trans (qzy fun b hb' => ?_))
        simp only [List.mem_cons, List.not_mem_nil, or_false] at hb'
        rcases hb' with rfl | rfl | rfl | rfl | rfl | rfl | rfl | rfl
        · exact decide_eq_true k1
        · exact decide_eq_true k2
        · exact decide_eq_true (sameA_self (by omega))
        · exact h0
        · exact h1
        · exact h2
        · exact he
        · rfl
    | cons p P => cases B with
      | nil =>
        refine qyy (r := (.normal, (sL R Z S W U m u v a0 a1 a2 (oSh .qzz (.vec 9 (y :: Y).length)) [some (vC (y :: Y))] 3))) (qzv (tRo_ok (plV (.vec 3 (p :: P).length) .qzz) [vS (p :: P)]) host qyz (NF := 64) (m := 1) 20) hL ((rT_y210 (o := true)).trans (qzy fun b hb' => ?_))
        simp only [List.mem_cons, List.not_mem_nil, or_false] at hb'
        rcases hb' with rfl | rfl | rfl | rfl | rfl | rfl | rfl | rfl
        · exact decide_eq_true k1
        · exact decide_eq_true k2
        · exact decide_eq_true (sameS_self (by omega))
        · exact h0
        · exact h1
        · exact h2
        · exact he
        · rfl
      | cons q B =>
        refine qyy (r := (.normal, (sL R Z S W U m u v a0 a1 a2 (oSh .qzz (.vec 9 (y :: Y).length)) [some (vC (y :: Y))] 3))) (qzv (tRo_ok (plV (.vec 3 (p :: P).length) (.vec 4 (q :: B).length)) [vS (p :: P), vA (q :: B)]) host qyz (NF := 64) (m := 1) 20) hL ((rT_y211 (o := true)).trans (qzy fun b hb' => ?_))
        simp only [List.mem_cons, List.not_mem_nil, or_false] at hb'
        rcases hb' with rfl | rfl | rfl | rfl | rfl | rfl | rfl | rfl | rfl
        · exact decide_eq_true k1
        · exact decide_eq_true k2
        · exact decide_eq_true (sameS_self (by omega))
        · exact decide_eq_true (sameA_self (by omega))
        · exact h0
        · exact h1
        · exact h2
        · exact he
        · rfl
theorem loopTe_y (hb : okBk [] (y :: Y)) (hW : OkL W m) (hU : OkL U u) (hS : OkL S v) (h0 : inI a0 = true) (h1 : inI a1 = true) (h2 : inI a2 = true) : Tri Tryz.prog (.loop loopT) (sL R Z S W U m u v a0 a1 a2 (oSh .qzz (.vec 9 (y :: Y).length)) [some (vC (y :: Y))] 0).toA (.exit 0) (sLX R Z S).toA 3 := by
  refine tri_up (body := loopT) (fun j => (sL R Z S W U m u v a0 a1 a2 (oSh .qzz (.vec 9 (y :: Y).length)) [some (vC (y :: Y))] (j : Int)).toA) (fun e => by cases e) 3 (fun j hj => ?_) ?_ 0 (Nat.zero_le _)
  · rcases (show j = 0 ∨ j = 1 ∨ j = 2 by omega) with rfl | rfl | rfl
    · exact round_y0 hb hW h0 h1 h2
    · exact round_y1 hb hU h0 h1 h2
    · exact round_y2 hb hS h0 h1 h2
  · exact qzx (T := []) .nil (rT_y3 )
theorem goes_y {n : Nat} (hb : okBk [] (y :: Y)) (hW : OkL W m) (hU : OkL U u) (hS : OkL S (mnI (n : Int) 12).toNat) (h0 : inI a0 = true) (h1 : inI a1 = true) (h2 : inI a2 = true) : GoesTo Tryz.prog Tryz.f3 [fA R, fZ Z, fSp S] pure2 (restC 6 bTe) (sT2 R Z S W U n m u a0 a1 a2 (tlY 8 (y :: Y))) (AV.bool true, [fA R, fZ Z, fSp S]) := by
  have hL : LoopsOK Tryz.prog (lvT_y R Z S W U (y :: Y) m u a0 a1 a2 true n) 3 (restC 6 bTe) := te_loopsOK (fun e he t => by cases he; exact eAt_ok (outC_ok fun _ => loopTe_y hb hW hU hS h0 h1 h2) 3 t) rfl
  refine goes_code (pre := [fA R, fZ Z, fSp S]) (qzv tTe_ok host qyz 20) hL ((re_y (o := true) n).trans ?_)
  have hm : 0 ≤ mnI (n : Int) 12 ∧ (mnI (n : Int) 12).toNat ≤ n := by
    show 0 ≤ (if (12 : Int) < (n : Int) then 12 else (n : Int)) ∧ (if (12 : Int) < (n : Int) then 12 else (n : Int)).toNat ≤ n
    split <;> omega
  rw [qzy (fun b hb' => ?_)]
  · rfl
  · simp only [List.mem_cons, List.not_mem_nil, or_false] at hb'
    rcases hb' with rfl | rfl | rfl
    · rw [decide_eq_true hm.1, decide_eq_true hm.2]; rfl
    · exact qzt _
    · rfl
end
end Go.Proofs.YtphhepnldndbhaaGreatDoor.Dp
namespace Go.Proofs.YtphhepnldndbhaaGreatDoor.Dp
open Go Sx Go.Proofs.YtphhepnldndbhaaGreatDoor
section
variable (R Z S W U X Y P B : List (List CV)) (m u v a b : Nat) (a0 a1 a2 : Int) (o : Bool) (sh : PObj) (vcs : List (Option PObj))
noncomputable def lvI_b0 : Lv := { keep := fun i => if i = 18 then some [11, 13, 14, 19, 71, 72, 73, 117, 118, 119] else none, ent := oneL 18 (eAt 3 (sI0 R Z S W U m u v a0 a1 a2 (oSh (.vec 10 X.length) (.vec (10 + 1) Y.length)) [some (vC X), some (vC Y)] 0) (outC o (.exit 2) (sL R Z S W U m u v a0 a1 a2 (oSh (.vec 9 X.length) (.vec (9 + 1) Y.length)) [some (vC X), some (vC Y)] 0))) }
noncomputable def lvI_b1 : Lv := { keep := fun i => if i = 18 then some [11, 13, 14, 19, 71, 72, 73, 117, 118, 119] else none, ent := oneL 18 (eAt 3 (sI1 R Z S W U m u v a0 a1 a2 (oSh (.vec 10 X.length) (.vec (10 + 1) Y.length)) [some (vC X), some (vC Y)] 0) (outC o (.exit 2) (sL R Z S W U m u v a0 a1 a2 (oSh (.vec 9 X.length) (.vec (9 + 1) Y.length)) [some (vC X), some (vC Y)] 1))) }
noncomputable def lvI_b2 : Lv := { keep := fun i => if i = 18 then some [11, 13, 14, 19, 71, 72, 73, 117, 118, 119] else none, ent := oneL 18 (eAt 3 (sI2 R Z S W U m u v a0 a1 a2 (oSh (.vec 10 X.length) (.vec (10 + 1) Y.length)) [some (vC X), some (vC Y)] 0) (outC o (.exit 2) (sL R Z S W U m u v a0 a1 a2 (oSh (.vec 9 X.length) (.vec (9 + 1) Y.length)) [some (vC X), some (vC Y)] 2))) }
noncomputable def lvT_b (n : Nat) : Lv := { keep := fun i => if i = 11 then some [11, 13, 14, 71, 72, 73] else none, ent := oneL 11 (eAt 3 (sL R Z S W U m u (mnI (n : Int) 12).toNat a0 a1 a2 (oSh (.vec 9 X.length) (.vec (9 + 1) Y.length)) [some (vC X), some (vC Y)] 0) (outC o (.exit 0) (sLX R Z S))) }
variable {R Z S W U X Y P B} {m u v a b} {a0 a1 a2}
open Classical in
theorem rT_b0E : code (ent Tryz.prog (tRo plE []) nolv 64 1 20) Tryz.prog (lvI_b0 R Z S W U X Y m u v a0 a1 a2 o) 3 64 1 loopT (sL R Z S W U m u v a0 a1 a2 (oSh (.vec 9 X.length) (.vec (9 + 1) Y.length)) [some (vC X), some (vC Y)] 0) (endK 3 64 kL kLX)
  = chks (some (.normal, (sL R Z S W U m u v a0 a1 a2 (oSh (.vec 9 X.length) (.vec (9 + 1) Y.length)) [some (vC X), some (vC Y)] 1))) [ckTd fP [bkW, .dsl 1 m] [oSh (.vec 2 X.length) (.vec 3 Y.length), fSp W, vC X, vC Y] plE [], ckTd fPd [bkW, .dsl 1 m] [oSh (.vec 2 X.length) (.vec 3 Y.length), fSp W, vC X, vC Y] plE [], inI a0, inI a1, inI a2, eqSt (sI0 R Z S W U m u v a0 a1 a2 (oSh (.vec 10 X.length) (.vec (10 + 1) Y.length)) [some (vC X), some (vC Y)] 0) (sI0 R Z S W U m u v a0 a1 a2 (oSh (.vec 10 X.length) (.vec (10 + 1) Y.length)) [some (vC X), some (vC Y)] 0), o] := by kernel_rfl
open Classical in
theorem rT_b000 : code (ent Tryz.prog (tRo (plV .qzz .qzz) []) nolv 64 1 20) Tryz.prog (lvI_b0 R Z S W U X Y m u v a0 a1 a2 o) 3 64 1 loopT (sL R Z S W U m u v a0 a1 a2 (oSh (.vec 9 X.length) (.vec (9 + 1) Y.length)) [some (vC X), some (vC Y)] 0) (endK 3 64 kL kLX)
  = chks (some (.normal, (sL R Z S W U m u v a0 a1 a2 (oSh (.vec 9 X.length) (.vec (9 + 1) Y.length)) [some (vC X), some (vC Y)] 1))) [ckTd fP [bkW, .dsl 1 m] [oSh (.vec 2 X.length) (.vec 3 Y.length), fSp W, vC X, vC Y] (plV .qzz .qzz) [], ckTd fPd [bkW, .dsl 1 m] [oSh (.vec 2 X.length) (.vec 3 Y.length), fSp W, vC X, vC Y] (plV .qzz .qzz) [], inI a0, inI a1, inI a2, eqSt (sI0 R Z S W U m u v a0 a1 a2 (oSh (.vec 10 X.length) (.vec (10 + 1) Y.length)) [some (vC X), some (vC Y)] 0) (sI0 R Z S W U m u v a0 a1 a2 (oSh (.vec 10 X.length) (.vec (10 + 1) Y.length)) [some (vC X), some (vC Y)] 0), o] := by kernel_rfl
open Classical in
theorem rT_b001 : code (ent Tryz.prog (tRo (plV .qzz (.vec 4 b)) [vA B]) nolv 64 1 20) Tryz.prog (lvI_b0 R Z S W U X Y m u v a0 a1 a2 o) 3 64 1 loopT (sL R Z S W U m u v a0 a1 a2 (oSh (.vec 9 X.length) (.vec (9 + 1) Y.length)) [some (vC X), some (vC Y)] 0) (endK 3 64 kL kLX)
  = chks (some (.normal, (sL R Z S W U m u v a0 a1 a2 (oSh (.vec 9 X.length) (.vec (9 + 1) Y.length)) [some (vC X), some (vC Y)] 1))) [ckTd fP [bkW, .dsl 1 m] [oSh (.vec 2 X.length) (.vec 3 Y.length), fSp W, vC X, vC Y] (plV .qzz (.vec 4 b)) [vA B], ckTd fPd [bkW, .dsl 1 m] [oSh (.vec 2 X.length) (.vec 3 Y.length), fSp W, vC X, vC Y] (plV .qzz (.vec 4 b)) [vA B], decide (SameA B B b b), inI a0, inI a1, inI a2, eqSt (sI0 R Z S W U m u v a0 a1 a2 (oSh (.vec 10 X.length) (.vec (10 + 1) Y.length)) [some (vC X), some (vC Y)] 0) (sI0 R Z S W U m u v a0 a1 a2 (oSh (.vec 10 X.length) (.vec (10 + 1) Y.length)) [some (vC X), some (vC Y)] 0), o] := by kernel_rfl
open Classical in
theorem rT_b010 : code (ent Tryz.prog (tRo (plV (.vec 4 a) .qzz) [vS P]) nolv 64 1 20) Tryz.prog (lvI_b0 R Z S W U X Y m u v a0 a1 a2 o) 3 64 1 loopT (sL R Z S W U m u v a0 a1 a2 (oSh (.vec 9 X.length) (.vec (9 + 1) Y.length)) [some (vC X), some (vC Y)] 0) (endK 3 64 kL kLX)
  = chks (some (.normal, (sL R Z S W U m u v a0 a1 a2 (oSh (.vec 9 X.length) (.vec (9 + 1) Y.length)) [some (vC X), some (vC Y)] 1))) [ckTd fP [bkW, .dsl 1 m] [oSh (.vec 2 X.length) (.vec 3 Y.length), fSp W, vC X, vC Y] (plV (.vec 4 a) .qzz) [vS P], ckTd fPd [bkW, .dsl 1 m] [oSh (.vec 2 X.length) (.vec 3 Y.length), fSp W, vC X, vC Y] (plV (.vec 4 a) .qzz) [vS P], decide (SameS P P a a), inI a0, inI a1, inI a2, eqSt (sI0 R Z S W U m u v a0 a1 a2 (oSh (.vec 10 X.length) (.vec (10 + 1) Y.length)) [some (vC X), some (vC Y)] 0) (sI0 R Z S W U m u v a0 a1 a2 (oSh (.vec 10 X.length) (.vec (10 + 1) Y.length)) [some (vC X), some (vC Y)] 0), o] := by kernel_rfl
open Classical in
theorem rT_b011 : code (ent Tryz.prog (tRo (plV (.vec 4 a) (.vec 5 b)) [vS P, vA B]) nolv 64 1 20) Tryz.prog (lvI_b0 R Z S W U X Y m u v a0 a1 a2 o) 3 64 1 loopT (sL R Z S W U m u v a0 a1 a2 (oSh (.vec 9 X.length) (.vec (9 + 1) Y.length)) [some (vC X), some (vC Y)] 0) (endK 3 64 kL kLX)
  = chks (some (.normal, (sL R Z S W U m u v a0 a1 a2 (oSh (.vec 9 X.length) (.vec (9 + 1) Y.length)) [some (vC X), some (vC Y)] 1))) [ckTd fP [bkW, .dsl 1 m] [oSh (.vec 2 X.length) (.vec 3 Y.length), fSp W, vC X, vC Y] (plV (.vec 4 a) (.vec 5 b)) [vS P, vA B], ckTd fPd [bkW, .dsl 1 m] [oSh (.vec 2 X.length) (.vec 3 Y.length), fSp W, vC X, vC Y] (plV (.vec 4 a) (.vec 5 b)) [vS P, vA B], decide (SameS P P a a), decide (SameA B B b b), inI a0, inI a1, inI a2, eqSt (sI0 R Z S W U m u v a0 a1 a2 (oSh (.vec 10 X.length) (.vec (10 + 1) Y.length)) [some (vC X), some (vC Y)] 0) (sI0 R Z S W U m u v a0 a1 a2 (oSh (.vec 10 X.length) (.vec (10 + 1) Y.length)) [some (vC X), some (vC Y)] 0), o] := by kernel_rfl
open Classical in
theorem rI_b00 : code (ent Tryz.prog tIn nolv 64 1 20) Tryz.prog {} 3 64 1 loopI (sI0 R Z S W U m u v a0 a1 a2 (oSh (.vec 10 X.length) (.vec (10 + 1) Y.length)) [some (vC X), some (vC Y)] 0) (endK 3 64 kI kL)
  = chks (qyw (!eq5 (cvX W m a0 a1 a2) (cvX W m a0 a1 a2)) (some (.ret, (sL R Z S W U m u v a0 a1 a2 (oSh (.vec 9 X.length) (.vec (9 + 1) Y.length)) [some (vC X), some (vC Y)] 0))) (qyw ((decide (covM W m a0 a1 a2 < m)) != (decide (covM W m a0 a1 a2 < m))) (some (.ret, (sL R Z S W U m u v a0 a1 a2 (oSh (.vec 9 X.length) (.vec (9 + 1) Y.length)) [some (vC X), some (vC Y)] 0))) (some (.normal, sI0 R Z S W U m u v a0 a1 a2 (oSh (.vec 10 X.length) (.vec (10 + 1) Y.length)) [some (vC X), some (vC Y)] 1)))) [decide (okCv W m a1 a2), decide (okCv W m a1 a2)] := by kernel_rfl
open Classical in
theorem rI_b01 : code (ent Tryz.prog tIn nolv 64 1 20) Tryz.prog {} 3 64 1 loopI (sI0 R Z S W U m u v a0 a1 a2 (oSh (.vec 10 X.length) (.vec (10 + 1) Y.length)) [some (vC X), some (vC Y)] 1) (endK 3 64 kI kL)
  = chks (qyw (!eq5 (cvX W m (qyv a0 2) (qyv a1 9) (qyv a2 9)) (cvX W m (qyv a0 2) (qyv a1 9) (qyv a2 9))) (some (.ret, (sL R Z S W U m u v a0 a1 a2 (oSh (.vec 9 X.length) (.vec (9 + 1) Y.length)) [some (vC X), some (vC Y)] 0))) (qyw ((decide (covM W m (qyv a0 2) (qyv a1 9) (qyv a2 9) < m)) != (decide (covM W m (qyv a0 2) (qyv a1 9) (qyv a2 9) < m))) (some (.ret, (sL R Z S W U m u v a0 a1 a2 (oSh (.vec 9 X.length) (.vec (9 + 1) Y.length)) [some (vC X), some (vC Y)] 0))) (some (.normal, sI0 R Z S W U m u v a0 a1 a2 (oSh (.vec 10 X.length) (.vec (10 + 1) Y.length)) [some (vC X), some (vC Y)] 2)))) [decide (okCv W m (qyv a1 9) (qyv a2 9)), decide (okCv W m (qyv a1 9) (qyv a2 9))] := by kernel_rfl
theorem rI_b02 : code (ent Tryz.prog tIn nolv 64 1 20) Tryz.prog {} 3 64 1 loopI (sI0 R Z S W U m u v a0 a1 a2 (oSh (.vec 10 X.length) (.vec (10 + 1) Y.length)) [some (vC X), some (vC Y)] 2) (endK 3 64 kI kL) = some (.exit 2, (sL R Z S W U m u v a0 a1 a2 (oSh (.vec 9 X.length) (.vec (9 + 1) Y.length)) [some (vC X), some (vC Y)] 0)) := by kernel_rfl
open Classical in
theorem rT_b1E : code (ent Tryz.prog (tRo plE []) nolv 64 1 20) Tryz.prog (lvI_b1 R Z S W U X Y m u v a0 a1 a2 o) 3 64 1 loopT (sL R Z S W U m u v a0 a1 a2 (oSh (.vec 9 X.length) (.vec (9 + 1) Y.length)) [some (vC X), some (vC Y)] 1) (endK 3 64 kL kLX)
  = chks (some (.normal, (sL R Z S W U m u v a0 a1 a2 (oSh (.vec 9 X.length) (.vec (9 + 1) Y.length)) [some (vC X), some (vC Y)] 2))) [ckTd fP [bkW, .dsl 1 u] [oSh (.vec 2 X.length) (.vec 3 Y.length), fSp U, vC X, vC Y] plE [], ckTd fPd [bkW, .dsl 1 u] [oSh (.vec 2 X.length) (.vec 3 Y.length), fSp U, vC X, vC Y] plE [], inI a0, inI a1, inI a2, eqSt (sI1 R Z S W U m u v a0 a1 a2 (oSh (.vec 10 X.length) (.vec (10 + 1) Y.length)) [some (vC X), some (vC Y)] 0) (sI1 R Z S W U m u v a0 a1 a2 (oSh (.vec 10 X.length) (.vec (10 + 1) Y.length)) [some (vC X), some (vC Y)] 0), o] := by kernel_rfl
open Classical in
theorem rT_b100 : code (ent Tryz.prog (tRo (plV .qzz .qzz) []) nolv 64 1 20) Tryz.prog (lvI_b1 R Z S W U X Y m u v a0 a1 a2 o) 3 64 1 loopT (sL R Z S W U m u v a0 a1 a2 (oSh (.vec 9 X.length) (.vec (9 + 1) Y.length)) [some (vC X), some (vC Y)] 1) (endK 3 64 kL kLX)
  = chks (some (.normal, (sL R Z S W U m u v a0 a1 a2 (oSh (.vec 9 X.length) (.vec (9 + 1) Y.length)) [some (vC X), some (vC Y)] 2))) [ckTd fP [bkW, .dsl 1 u] [oSh (.vec 2 X.length) (.vec 3 Y.length), fSp U, vC X, vC Y] (plV .qzz .qzz) [], ckTd fPd [bkW, .dsl 1 u] [oSh (.vec 2 X.length) (.vec 3 Y.length), fSp U, vC X, vC Y] (plV .qzz .qzz) [], inI a0, inI a1, inI a2, eqSt (sI1 R Z S W U m u v a0 a1 a2 (oSh (.vec 10 X.length) (.vec (10 + 1) Y.length)) [some (vC X), some (vC Y)] 0) (sI1 R Z S W U m u v a0 a1 a2 (oSh (.vec 10 X.length) (.vec (10 + 1) Y.length)) [some (vC X), some (vC Y)] 0), o] := by kernel_rfl
open Classical in
theorem rT_b101 : code (ent Tryz.prog (tRo (plV .qzz (.vec 4 b)) [vA B]) nolv 64 1 20) Tryz.prog (lvI_b1 R Z S W U X Y m u v a0 a1 a2 o) 3 64 1 loopT (sL R Z S W U m u v a0 a1 a2 (oSh (.vec 9 X.length) (.vec (9 + 1) Y.length)) [some (vC X), some (vC Y)] 1) (endK 3 64 kL kLX)
  = chks (some (.normal, (sL R Z S W U m u v a0 a1 a2 (oSh (.vec 9 X.length) (.vec (9 + 1) Y.length)) [some (vC X), some (vC Y)] 2))) [ckTd fP [bkW, .dsl 1 u] [oSh (.vec 2 X.length) (.vec 3 Y.length), fSp U, vC X, vC Y] (plV .qzz (.vec 4 b)) [vA B], ckTd fPd [bkW, .dsl 1 u] [oSh (.vec 2 X.length) (.vec 3 Y.length), fSp U, vC X, vC Y] (plV .qzz (.vec 4 b)) [vA B], decide (SameA B B b b), inI a0, inI a1, inI a2, eqSt (sI1 R Z S W U m u v a0 a1 a2 (oSh (.vec 10 X.length) (.vec (10 + 1) Y.length)) [some (vC X), some (vC Y)] 0) (sI1 R Z S W U m u v a0 a1 a2 (oSh (.vec 10 X.length) (.vec (10 + 1) Y.length)) [some (vC X), some (vC Y)] 0), o] := by kernel_rfl
open Classical in
theorem rT_b110 : code (ent Tryz.prog (tRo (plV (.vec 4 a) .qzz) [vS P]) nolv 64 1 20) Tryz.prog (lvI_b1 R Z S W U X Y m u v a0 a1 a2 o) 3 64 1 loopT (sL R Z S W U m u v a0 a1 a2 (oSh (.vec 9 X.length) (.vec (9 + 1) Y.length)) [some (vC X), some (vC Y)] 1) (endK 3 64 kL kLX)
  = chks (some (.normal, (sL R Z S W U m u v a0 a1 a2 (oSh (.vec 9 X.length) (.vec (9 + 1) Y.length)) [some (vC X), some (vC Y)] 2))) [ckTd fP [bkW, .dsl 1 u] [oSh (.vec 2 X.length) (.vec 3 Y.length), fSp U, vC X, vC Y] (plV (.vec 4 a) .qzz) [vS P], ckTd fPd [bkW, .dsl 1 u] [oSh (.vec 2 X.length) (.vec 3 Y.length), fSp U, vC X, vC Y] (plV (.vec 4 a) .qzz) [vS P], decide (SameS P P a a), inI a0, inI a1, inI a2, eqSt (sI1 R Z S W U m u v a0 a1 a2 (oSh (.vec 10 X.length) (.vec (10 + 1) Y.length)) [some (vC X), some (vC Y)] 0) (sI1 R Z S W U m u v a0 a1 a2 (oSh (.vec 10 X.length) (.vec (10 + 1) Y.length)) [some (vC X), some (vC Y)] 0), o] := by kernel_rfl
open Classical in
theorem rT_b111 : code (ent Tryz.prog (tRo (plV (.vec 4 a) (.vec 5 b)) [vS P, vA B]) nolv 64 1 20) Tryz.prog (lvI_b1 R Z S W U X Y m u v a0 a1 a2 o) 3 64 1 loopT (sL R Z S W U m u v a0 a1 a2 (oSh (.vec 9 X.length) (.vec (9 + 1) Y.length)) [some (vC X), some (vC Y)] 1) (endK 3 64 kL kLX)
  = chks (some (.normal, (sL R Z S W U m u v a0 a1 a2 (oSh (.vec 9 X.length) (.vec (9 + 1) Y.length)) [some (vC X), some (vC Y)] 2))) [ckTd fP [bkW, .dsl 1 u] [oSh (.vec 2 X.length) (.vec 3 Y.length), fSp U, vC X, vC Y] (plV (.vec 4 a) (.vec 5 b)) [vS P, vA B], ckTd fPd [bkW, .dsl 1 u] [oSh (.vec 2 X.length) (.vec 3 Y.length), fSp U, vC X, vC Y] (plV (.vec 4 a) (.vec 5 b)) [vS P, vA B], decide (SameS P P a a), decide (SameA B B b b), inI a0, inI a1, inI a2, eqSt (sI1 R Z S W U m u v a0 a1 a2 (oSh (.vec 10 X.length) (.vec (10 + 1) Y.length)) [some (vC X), some (vC Y)] 0) (sI1 R Z S W U m u v a0 a1 a2 (oSh (.vec 10 X.length) (.vec (10 + 1) Y.length)) [some (vC X), some (vC Y)] 0), o] := by kernel_rfl
open Classical in
theorem rI_b10 : code (ent Tryz.prog tIn nolv 64 1 20) Tryz.prog {} 3 64 1 loopI (sI1 R Z S W U m u v a0 a1 a2 (oSh (.vec 10 X.length) (.vec (10 + 1) Y.length)) [some (vC X), some (vC Y)] 0) (endK 3 64 kI kL)
  = chks (qyw (!eq5 (cvX U u a0 a1 a2) (cvX U u a0 a1 a2)) (some (.ret, (sL R Z S W U m u v a0 a1 a2 (oSh (.vec 9 X.length) (.vec (9 + 1) Y.length)) [some (vC X), some (vC Y)] 1))) (qyw ((decide (covM U u a0 a1 a2 < u)) != (decide (covM U u a0 a1 a2 < u))) (some (.ret, (sL R Z S W U m u v a0 a1 a2 (oSh (.vec 9 X.length) (.vec (9 + 1) Y.length)) [some (vC X), some (vC Y)] 1))) (some (.normal, sI1 R Z S W U m u v a0 a1 a2 (oSh (.vec 10 X.length) (.vec (10 + 1) Y.length)) [some (vC X), some (vC Y)] 1)))) [decide (okCv U u a1 a2), decide (okCv U u a1 a2)] := by kernel_rfl
open Classical in
theorem rI_b11 : code (ent Tryz.prog tIn nolv 64 1 20) Tryz.prog {} 3 64 1 loopI (sI1 R Z S W U m u v a0 a1 a2 (oSh (.vec 10 X.length) (.vec (10 + 1) Y.length)) [some (vC X), some (vC Y)] 1) (endK 3 64 kI kL)
  = chks (qyw (!eq5 (cvX U u (qyv a0 2) (qyv a1 9) (qyv a2 9)) (cvX U u (qyv a0 2) (qyv a1 9) (qyv a2 9))) (some (.ret, (sL R Z S W U m u v a0 a1 a2 (oSh (.vec 9 X.length) (.vec (9 + 1) Y.length)) [some (vC X), some (vC Y)] 1))) (qyw ((decide (covM U u (qyv a0 2) (qyv a1 9) (qyv a2 9) < u)) != (decide (covM U u (qyv a0 2) (qyv a1 9) (qyv a2 9) < u))) (some (.ret, (sL R Z S W U m u v a0 a1 a2 (oSh (.vec 9 X.length) (.vec (9 + 1) Y.length)) [some (vC X), some (vC Y)] 1))) (some (.normal, sI1 R Z S W U m u v a0 a1 a2 (oSh (.vec 10 X.length) (.vec (10 + 1) Y.length)) [some (vC X), some (vC Y)] 2)))) [decide (okCv U u (qyv a1 9) (qyv a2 9)), decide (okCv U u (qyv a1 9) (qyv a2 9))] := by kernel_rfl
theorem rI_b12 : code (ent Tryz.prog tIn nolv 64 1 20) Tryz.prog {} 3 64 1 loopI (sI1 R Z S W U m u v a0 a1 a2 (oSh (.vec 10 X.length) (.vec (10 + 1) Y.length)) [some (vC X), some (vC Y)] 2) (endK 3 64 kI kL) = some (.exit 2, (sL R Z S W U m u v a0 a1 a2 (oSh (.vec 9 X.length) (.vec (9 + 1) Y.length)) [some (vC X), some (vC Y)] 1)) := by kernel_rfl
open Classical in
theorem rT_b2E : code (ent Tryz.prog (tRo plE []) nolv 64 1 20) Tryz.prog (lvI_b2 R Z S W U X Y m u v a0 a1 a2 o) 3 64 1 loopT (sL R Z S W U m u v a0 a1 a2 (oSh (.vec 9 X.length) (.vec (9 + 1) Y.length)) [some (vC X), some (vC Y)] 2) (endK 3 64 kL kLX)
  = chks (some (.normal, (sL R Z S W U m u v a0 a1 a2 (oSh (.vec 9 X.length) (.vec (9 + 1) Y.length)) [some (vC X), some (vC Y)] 3))) [ckTd fP [bkW, .dsl 1 v] [oSh (.vec 2 X.length) (.vec 3 Y.length), fSp S, vC X, vC Y] plE [], ckTd fPd [bkW, .dsl 1 v] [oSh (.vec 2 X.length) (.vec 3 Y.length), fSp S, vC X, vC Y] plE [], inI a0, inI a1, inI a2, eqSt (sI2 R Z S W U m u v a0 a1 a2 (oSh (.vec 10 X.length) (.vec (10 + 1) Y.length)) [some (vC X), some (vC Y)] 0) (sI2 R Z S W U m u v a0 a1 a2 (oSh (.vec 10 X.length) (.vec (10 + 1) Y.length)) [some (vC X), some (vC Y)] 0), o] := by kernel_rfl
open Classical in
theorem rT_b200 : code (ent Tryz.prog (tRo (plV .qzz .qzz) []) nolv 64 1 20) Tryz.prog (lvI_b2 R Z S W U X Y m u v a0 a1 a2 o) 3 64 1 loopT (sL R Z S W U m u v a0 a1 a2 (oSh (.vec 9 X.length) (.vec (9 + 1) Y.length)) [some (vC X), some (vC Y)] 2) (endK 3 64 kL kLX)
  = chks (some (.normal, (sL R Z S W U m u v a0 a1 a2 (oSh (.vec 9 X.length) (.vec (9 + 1) Y.length)) [some (vC X), some (vC Y)] 3))) [ckTd fP [bkW, .dsl 1 v] [oSh (.vec 2 X.length) (.vec 3 Y.length), fSp S, vC X, vC Y] (plV .qzz .qzz) [], ckTd fPd [bkW, .dsl 1 v] [oSh (.vec 2 X.length) (.vec 3 Y.length), fSp S, vC X, vC Y] (plV .qzz .qzz) [], inI a0, inI a1, inI a2, eqSt (sI2 R Z S W U m u v a0 a1 a2 (oSh (.vec 10 X.length) (.vec (10 + 1) Y.length)) [some (vC X), some (vC Y)] 0) (sI2 R Z S W U m u v a0 a1 a2 (oSh (.vec 10 X.length) (.vec (10 + 1) Y.length)) [some (vC X), some (vC Y)] 0), o] := by kernel_rfl
open Classical in
theorem rT_b201 : code (ent Tryz.prog (tRo (plV .qzz (.vec 4 b)) [vA B]) nolv 64 1 20) Tryz.prog (lvI_b2 R Z S W U X Y m u v a0 a1 a2 o) 3 64 1 loopT (sL R Z S W U m u v a0 a1 a2 (oSh (.vec 9 X.length) (.vec (9 + 1) Y.length)) [some (vC X), some (vC Y)] 2) (endK 3 64 kL kLX)
  = chks (some (.normal, (sL R Z S W U m u v a0 a1 a2 (oSh (.vec 9 X.length) (.vec (9 + 1) Y.length)) [some (vC X), some (vC Y)] 3))) [ckTd fP [bkW, .dsl 1 v] [oSh (.vec 2 X.length) (.vec 3 Y.length), fSp S, vC X, vC Y] (plV .qzz (.vec 4 b)) [vA B], ckTd fPd [bkW, .dsl 1 v] [oSh (.vec 2 X.length) (.vec 3 Y.length), fSp S, vC X, vC Y] (plV .qzz (.vec 4 b)) [vA B], decide (SameA B B b b), inI a0, inI a1, inI a2, eqSt (sI2 R Z S W U m u v a0 a1 a2 (oSh (.vec 10 X.length) (.vec (10 + 1) Y.length)) [some (vC X), some (vC Y)] 0) (sI2 R Z S W U m u v a0 a1 a2 (oSh (.vec 10 X.length) (.vec (10 + 1) Y.length)) [some (vC X), some (vC Y)] 0), o] := by kernel_rfl
open Classical in
theorem rT_b210 : code (ent Tryz.prog (tRo (plV (.vec 4 a) .qzz) [vS P]) nolv 64 1 20) Tryz.prog (lvI_b2 R Z S W U X Y m u v a0 a1 a2 o) 3 64 1 loopT (sL R Z S W U m u v a0 a1 a2 (oSh (.vec 9 X.length) (.vec (9 + 1) Y.length)) [some (vC X), some (vC Y)] 2) (endK 3 64 kL kLX)
  = chks (some (.normal, (sL R Z S W U m u v a0 a1 a2 (oSh (.vec 9 X.length) (.vec (9 + 1) Y.length)) [some (vC X), some (vC Y)] 3))) [ckTd fP [bkW, .dsl 1 v] [oSh (.vec 2 X.length) (.vec 3 Y.length), fSp S, vC X, vC Y] (plV (.vec 4 a) .qzz) [vS P], ckTd fPd [bkW, .dsl 1 v] [oSh (.vec 2 X.length) (.vec 3 Y.length), fSp S, vC X, vC Y] (plV (.vec 4 a) .qzz) [vS P], decide (SameS P P a a), inI a0, inI a1, inI a2, eqSt (sI2 R Z S W U m u v a0 a1 a2 (oSh (.vec 10 X.length) (.vec (10 + 1) Y.length)) [some (vC X), some (vC Y)] 0) (sI2 R Z S W U m u v a0 a1 a2 (oSh (.vec 10 X.length) (.vec (10 + 1) Y.length)) [some (vC X), some (vC Y)] 0), o] := by kernel_rfl
open Classical in
theorem rT_b211 : code (ent Tryz.prog (tRo (plV (.vec 4 a) (.vec 5 b)) [vS P, vA B]) nolv 64 1 20) Tryz.prog (lvI_b2 R Z S W U X Y m u v a0 a1 a2 o) 3 64 1 loopT (sL R Z S W U m u v a0 a1 a2 (oSh (.vec 9 X.length) (.vec (9 + 1) Y.length)) [some (vC X), some (vC Y)] 2) (endK 3 64 kL kLX)
  = chks (some (.normal, (sL R Z S W U m u v a0 a1 a2 (oSh (.vec 9 X.length) (.vec (9 + 1) Y.length)) [some (vC X), some (vC Y)] 3))) [ckTd fP [bkW, .dsl 1 v] [oSh (.vec 2 X.length) (.vec 3 Y.length), fSp S, vC X, vC Y] (plV (.vec 4 a) (.vec 5 b)) [vS P, vA B], ckTd fPd [bkW, .dsl 1 v] [oSh (.vec 2 X.length) (.vec 3 Y.length), fSp S, vC X, vC Y] (plV (.vec 4 a) (.vec 5 b)) [vS P, vA B], decide (SameS P P a a), decide (SameA B B b b), inI a0, inI a1, inI a2, eqSt (sI2 R Z S W U m u v a0 a1 a2 (oSh (.vec 10 X.length) (.vec (10 + 1) Y.length)) [some (vC X), some (vC Y)] 0) (sI2 R Z S W U m u v a0 a1 a2 (oSh (.vec 10 X.length) (.vec (10 + 1) Y.length)) [some (vC X), some (vC Y)] 0), o] := by kernel_rfl
open Classical in
theorem rI_b20 : code (ent Tryz.prog tIn nolv 64 1 20) Tryz.prog {} 3 64 1 loopI (sI2 R Z S W U m u v a0 a1 a2 (oSh (.vec 10 X.length) (.vec (10 + 1) Y.length)) [some (vC X), some (vC Y)] 0) (endK 3 64 kI kL)
  = chks (qyw (!eq5 (cvX S v a0 a1 a2) (cvX S v a0 a1 a2)) (some (.ret, (sL R Z S W U m u v a0 a1 a2 (oSh (.vec 9 X.length) (.vec (9 + 1) Y.length)) [some (vC X), some (vC Y)] 2))) (qyw ((decide (covM S v a0 a1 a2 < v)) != (decide (covM S v a0 a1 a2 < v))) (some (.ret, (sL R Z S W U m u v a0 a1 a2 (oSh (.vec 9 X.length) (.vec (9 + 1) Y.length)) [some (vC X), some (vC Y)] 2))) (some (.normal, sI2 R Z S W U m u v a0 a1 a2 (oSh (.vec 10 X.length) (.vec (10 + 1) Y.length)) [some (vC X), some (vC Y)] 1)))) [decide (okCv S v a1 a2), decide (okCv S v a1 a2)] := by kernel_rfl
open Classical in
theorem rI_b21 : code (ent Tryz.prog tIn nolv 64 1 20) Tryz.prog {} 3 64 1 loopI (sI2 R Z S W U m u v a0 a1 a2 (oSh (.vec 10 X.length) (.vec (10 + 1) Y.length)) [some (vC X), some (vC Y)] 1) (endK 3 64 kI kL)
  = chks (qyw (!eq5 (cvX S v (qyv a0 2) (qyv a1 9) (qyv a2 9)) (cvX S v (qyv a0 2) (qyv a1 9) (qyv a2 9))) (some (.ret, (sL R Z S W U m u v a0 a1 a2 (oSh (.vec 9 X.length) (.vec (9 + 1) Y.length)) [some (vC X), some (vC Y)] 2))) (qyw ((decide (covM S v (qyv a0 2) (qyv a1 9) (qyv a2 9) < v)) != (decide (covM S v (qyv a0 2) (qyv a1 9) (qyv a2 9) < v))) (some (.ret, (sL R Z S W U m u v a0 a1 a2 (oSh (.vec 9 X.length) (.vec (9 + 1) Y.length)) [some (vC X), some (vC Y)] 2))) (some (.normal, sI2 R Z S W U m u v a0 a1 a2 (oSh (.vec 10 X.length) (.vec (10 + 1) Y.length)) [some (vC X), some (vC Y)] 2)))) [decide (okCv S v (qyv a1 9) (qyv a2 9)), decide (okCv S v (qyv a1 9) (qyv a2 9))] := by kernel_rfl
theorem rI_b22 : code (ent Tryz.prog tIn nolv 64 1 20) Tryz.prog {} 3 64 1 loopI (sI2 R Z S W U m u v a0 a1 a2 (oSh (.vec 10 X.length) (.vec (10 + 1) Y.length)) [some (vC X), some (vC Y)] 2) (endK 3 64 kI kL) = some (.exit 2, (sL R Z S W U m u v a0 a1 a2 (oSh (.vec 9 X.length) (.vec (9 + 1) Y.length)) [some (vC X), some (vC Y)] 2)) := by kernel_rfl
theorem rT_b3 : code (ent Tryz.prog [] nolv 64 1 20) Tryz.prog {} 3 64 1 loopT (sL R Z S W U m u v a0 a1 a2 (oSh (.vec 9 X.length) (.vec (9 + 1) Y.length)) [some (vC X), some (vC Y)] 3) (endK 3 64 kL kLX) = some (.exit 0, sLX R Z S) := by kernel_rfl
theorem re_b (n : Nat) : code (ent (R := AV × List PObj) Tryz.prog tTe nolv 64 1 20) Tryz.prog (lvT_b R Z S W U X Y m u a0 a1 a2 o n) 3 64 1 (restC 6 bTe) (sT2 R Z S W U n m u a0 a1 a2 (tlB 8 X Y)) (finP Tryz.prog Tryz.f3 3 [fA R, fZ Z, fSp S] pure2)
  = chks (pure2 (.bool true) [fA R, fZ Z, fSp S]) [decide (0 ≤ mnI (n : Int) 12) && decide ((mnI (n : Int) 12).toNat ≤ n), eqSt (sL R Z S W U m u (mnI (n : Int) 12).toNat a0 a1 a2 (oSh (.vec 9 X.length) (.vec (9 + 1) Y.length)) [some (vC X), some (vC Y)] 0) (sL R Z S W U m u (mnI (n : Int) 12).toNat a0 a1 a2 (oSh (.vec 9 X.length) (.vec (9 + 1) Y.length)) [some (vC X), some (vC Y)] 0), o] := by kernel_rfl
end
end Go.Proofs.YtphhepnldndbhaaGreatDoor.Dp
