/- Layer 4: what is taken. -/
import Derived.Test.YtebieapmoaaahaaGreatDoorGr06
import Derived.Shelf.Strings.Replace
set_option linter.unusedVariables false
set_option linter.unusedSimpArgs false
namespace Go.Proofs.YtebieapmoaaahaaGreatDoor
open Go Sx
def tkR (a b : List UInt8) : PState := ⟨[some (.ptr 0 0)] ++ nn 3 ++ [some (.str a)] ++ nn 41, [some (rdr b)] ++ nn 64⟩
def tkX (l : List UInt8) : PState := ⟨[some (.ptr 0 0)] ++ nn 45, [some (rdr l)] ++ nn 64⟩
def slB (p : Nat) (l : List UInt8) : Bool := decide (0 ≤ (p : Int) ∧ (p : Int).toNat ≤ l.length)
def rndTk (f : Int → Bool) (k : Nat) (l : List UInt8) (p : Nat) : Option (Ex × PState) :=
  bcond (decide (p < l.length)) (bcond (!f (runeAt l p)) (bcond (slB p l) (bcond (slB p l) (some (.ret, tkR (List.take ((p : Int).toNat - 0) (List.drop 0 l)) (List.take (l.length - (p : Int).toNat) (List.drop (p : Int).toNat l)))) none) none)
    (some (.normal, stTk k l (p + (Utf8.decode ⟨l.toArray⟩ p).2)))) (some (.exit 0, tkX l))
def RoundTk (f : Int → Bool) (k : Nat) : Prop := ∀ (l : List UInt8) (p : Nat), code (ent (R := Ex × PState) Tryz.prog tabPr nolv 64 1 20) Tryz.prog {} 1 64 1 loopTk (stTk k l p) (endK 1 64 (fun n => hasN [0, 1, 13] n) (fun n => hasN [0, 4] n)) = rndTk f k l p
theorem roundTk1 : RoundTk blkB 43 := fun l p => by kernel_rfl
theorem roundTk2 : RoundTk celB 62 := fun l p => by kernel_rfl
theorem roundTk3 : RoundTk wrdB 35 := fun l p => by kernel_rfl
theorem roundTk4 : RoundTk digB 56 := fun l p => by kernel_rfl
/-- What is ahead of the first sign that is not so, and what is left. -/
def takF (f : Int → Bool) (l : List UInt8) : List UInt8 := match scanF f l l.length 0 with | none => l | some q => l.take q
def drpF (f : Int → Bool) (l : List UInt8) : List UInt8 := match scanF f l l.length 0 with | none => [] | some q => l.drop q
def resTk (l : List UInt8) (o : Option Nat) : Ex × PState := match o with | none => (.exit 0, tkX l) | some q => (.ret, tkR (l.take q) (l.drop q))
theorem loopTk_ok {f : Int → Bool} {k : Nat} (hr : RoundTk f k) (l : List UInt8) : Tri Tryz.prog (.loop loopTk) (stTk k l 0).toA (resTk l (scanF f l l.length 0)).1 (resTk l (scanF f l l.length 0)).2.toA 1 := by
  refine loop_rounds (ι := { q : Nat × Nat // l.length ≤ q.1 + q.2 }) (ent_sound (NF := 64) (m := 1) tabPr_ok host nolv_ok 20) (lv := {}) (NF := 64) (m := 1) (fun x hx id e h1 h2 => by cases h2) (fun n => hasN [0, 1, 13] n) (fun n => hasN [0, 4] n) (fun q => stTk k l q.1.1) (fun q => q.1.2) (fun q => resTk l (scanF f l q.1.2 q.1.1)) ?_ (fun q => by simp only [resTk]; split <;> simp) ⟨(0, l.length), by simp⟩
  rintro ⟨⟨p, n⟩, hq⟩
  simp only at hq ⊢
  rw [hr]
  unfold rndTk
  have key : p < l.length → slB p l = true := fun h => by unfold slB; rw [decide_eq_true_eq]; simp; omega
  cases n with
  | zero => exact .inr (by rw [bcF (b := decide (p < l.length)) (decide_eq_false (by omega))]; rfl)
  | succ n =>
    simp only [scanF]
    by_cases h1 : p < l.length
    · rw [bcT (b := decide (p < l.length)) (decide_eq_true h1), bcT (b := decide (p < l.length)) (decide_eq_true h1), key h1, bcT rfl, bcT rfl]
      cases h2 : f (runeAt l p) with
      | false =>
        refine .inr ?_
        rw [bcT (b := !false) rfl, bcT (b := (false == false)) rfl]
        have e1 : List.take ((p : Int).toNat - 0) (List.drop 0 l) = l.take p := by simp
        have e2 : List.take (l.length - (p : Int).toNat) (List.drop (p : Int).toNat l) = l.drop p := by rw [Int.toNat_natCast]; exact List.take_of_length_le (by simp)
        rw [e1, e2]; rfl
      | true =>
        have hd : 1 ≤ (Utf8.decode ⟨l.toArray⟩ p).2 := Lib.width_pos _ _
        exact .inl ⟨⟨(p + (Utf8.decode ⟨l.toArray⟩ p).2, n), by simp only; omega⟩, by simp, rfl, rfl⟩
    · rw [bcF (b := decide (p < l.length)) (decide_eq_false h1), bcF (b := decide (p < l.length)) (decide_eq_false h1)]
      exact .inr rfl
def ansTk (l : List UInt8) (o : Option Nat) : LAns := .br o.isNone (.out (.exit 0) (tkX l)) (.out .ret (tkR (l.take (o.getD 0)) (l.drop (o.getD 0))))
theorem ansTk_ok {s : PState} {l : List UInt8} {o : Option Nat} (h : Tri Tryz.prog (.loop loopTk) s.toA (resTk l o).1 (resTk l o).2.toA 1) : LAnsOK Tryz.prog loopTk 1 s (ansTk l o) := by
  unfold ansTk
  cases o with
  | none => exact ⟨fun _ => h, fun e => by cases e⟩
  | some q => exact ⟨fun e => (by cases e), fun _ => h⟩
noncomputable def lvTk (f : Int → Bool) (k : Nat) (l : List UInt8) : FuncId → Lv := lvOf 42 (fun _ => some [0, 1, 13]) (oneL 2 (eAt 1 (stTk k l 0) (ansTk l (scanF f l l.length 0))))
theorem lvTk_ok {f : Int → Bool} {k : Nat} (hr : RoundTk f k) (l : List UInt8) : LvOK Tryz.prog (lvTk f k l) :=
  lvOne_ok Tryz.func42 (by kernel_rfl) fun K t => eAt_ok (ansTk_ok (loopTk_ok hr l)) K t
noncomputable def comTk (f : Int → Bool) (k : Nat) (l : List UInt8) : Ans := .br (eqSt (stTk k l 0) (stTk k l 0)) (.br (scanF f l l.length 0).isNone (.ret (.str l) [rdr []]) (.ret (.str (l.take ((scanF f l l.length 0).getD 0))) [rdr (l.drop ((scanF f l l.length 0).getD 0))])) .fail
def ComTk (f : Int → Bool) (k : Nat) : Prop := ∀ l, Comes tabPr (lvTk f k l) 42 [.ptr 0 0, .func k [] []] [rdr l] (comTk f k l)
theorem comTk1 : ComTk blkB 43 := fun l => by unfold Comes; kernel_rfl
theorem comTk2 : ComTk celB 62 := fun l => by unfold Comes; kernel_rfl
theorem comTk3 : ComTk wrdB 35 := fun l => by unfold Comes; kernel_rfl
theorem comTk4 : ComTk digB 56 := fun l => by unfold Comes; kernel_rfl
/-- Which signs a function asks for. -/
def sgnP : Nat → Option (Int → Bool)
  | 43 => some blkB
  | 62 => some celB
  | 35 => some wrdB
  | 56 => some digB
  | _ => none
theorem sgnP_ok {k : Nat} {f : Int → Bool} (h : sgnP k = some f) : RoundTk f k ∧ ComTk f k := by
  unfold sgnP at h
  split at h
  · cases h; exact ⟨roundTk1, comTk1⟩
  · cases h; exact ⟨roundTk2, comTk2⟩
  · cases h; exact ⟨roundTk3, comTk3⟩
  · cases h; exact ⟨roundTk4, comTk4⟩
  · cases h
def eTake : Ent := fun args pre => match args, pre with
  | [.ptr 0 0, .func k [] []], [.raw (.cells [.str l] t)] => match sgnP k with
    | some f => .chk (Nat.beq t 68) (.ret (.str (takF f l)) [rdr (drpF f l)])
    | none => .fail
  | _, _ => .fail
theorem take_ok : EntOK Tryz.prog 42 eTake := fun args pre => by
  unfold eTake
  split
  · rename_i k l t
    split
    · rename_i f hf
      refine ⟨fun g => ?_, fun _ => trivial⟩
      obtain rfl := Nat.eq_of_beq_eq_true g
      obtain ⟨h1, h2⟩ := sgnP_ok hf
      refine of_run (ans_comes tabPr_ok (h2 l) (lvTk_ok h1 l)) fun r h => ?_
      rw [← h]
      unfold comTk takF drpF
      simp only [Ans.run]
      rw [bcT (eqSt_refl _)]
      cases scanF f l l.length 0 <;> rfl
    · trivial
  · trivial
end Go.Proofs.YtebieapmoaaahaaGreatDoor

/- Layer 4: small functions of texts. -/
set_option linter.unusedVariables false
set_option linter.unusedSimpArgs false
namespace Go.Proofs.YtebieapmoaaahaaGreatDoor
open Go Sx
/-- The first sign. -/
def firI (l : List UInt8) : Int := bcond (decide (0 < l.length)) (runeAt l 0) 65533
def eFirst : Ent := fun args pre => match args, pre with
  | [.str l], [] => .ret (.int .i32 (firI l)) []
  | _, _ => .fail
theorem firstS_ok : EntOK Tryz.prog 67 eFirst := fun args pre => by
  unfold eFirst
  split
  · rename_i l
    have e : Comes tab0 nolv 67 [.str l] [] (.br (decide (0 < l.length)) (.ret (.int .i32 (runeAt l 0)) []) (.ret (.int .i32 65533) [])) := by unfold Comes; kernel_rfl
    refine of_run (ans_comes tab0_ok e) fun r h => ?_
    rw [← h]
    simp only [Ans.run, firI]
    cases decide (0 < l.length) <;> rfl
  · trivial
/-- Is a byte there? -/
def conB (c : UInt8) (l : List UInt8) : Bool := decide (Lib.indexByte l c ≥ 0)
def eCon : Ent := fun args pre => match args, pre with
  | [.str l, .str [c]], [] => .ret (.bool (conB c l)) []
  | _, _ => .fail
theorem byte_one (c : UInt8) : (byteAt [c] (Int.toNat 0)).toNat.toUInt8 = c := by simp [byteAt]
theorem con_ok : EntOK Tryz.prog 34 eCon := fun args pre => by
  unfold eCon
  split
  · rename_i l c
    have e : Comes tab0 nolv 34 [.str l, .str [c]] [] (.br ([c] == l) (.ret (.bool true) []) (.ret (.bool (decide (Lib.indexByte l (byteAt [c] (Int.toNat 0)).toNat.toUInt8 ≥ 0))) [])) := by unfold Comes; kernel_rfl
    refine of_run (ans_comes tab0_ok e) fun r h => ?_
    rw [← h]
    simp only [Ans.run, conB]
    rw [byte_one]
    cases hb : [c] == l with
    | true =>
      obtain rfl := (beq_iff_eq.1 hb).symm
      rw [decide_eq_true (show Lib.indexByte [c] c ≥ 0 by simp [Lib.indexByte])]; rfl
    | false => rfl
  · trivial
/-- The signs. -/
def sgL : List (List UInt8) := [[60, 62], [60, 61], [62, 61], [61], [60], [62], [38], [43], [45], [42], [47], [94], [37], [40], [41], [44], [59], [58], [123], [125]]
def sgT (l : List UInt8) : List (List UInt8) → Ans
  | [] => .ret (.bool false) []
  | x :: r => .br (l == x) (.ret (.bool true) []) (sgT l r)
def eSgn : Ent := fun args pre => match args, pre with
  | [.str l], [] => .ret (.bool (sgL.contains l)) []
  | _, _ => .fail
theorem sgT_run (l : List UInt8) : ∀ L, (sgT l L).run pure2 = pure2 (.bool (L.contains l)) []
  | [] => rfl
  | x :: r => by
    simp only [sgT, Ans.run, List.contains_cons]
    cases h : l == x with
    | true => rfl
    | false => rw [Bool.false_or, ← sgT_run l r]; rfl
theorem signs_ok : EntOK Tryz.prog 106 eSgn := fun args pre => by
  unfold eSgn
  split
  · rename_i l
    have e : Comes tab0 nolv 106 [.str l] [] (sgT l sgL) := by unfold Comes; kernel_rfl
    refine of_run (ans_comes tab0_ok e) fun r h => ?_
    rw [← h]
    exact sgT_run l sgL
  · trivial
/-- Does a text begin so? -/
def preB (l t : List UInt8) : Bool := l.take t.length == t
theorem pre_len {l t : List UInt8} (h : preB l t = true) : t.length ≤ l.length := by
  have := congrArg List.length (beq_iff_eq.1 h)
  rw [List.length_take] at this; omega
def ePre : Ent := fun args pre => match args, pre with
  | [.str l, .str t], [] => .ret (.bool (preB l t)) []
  | _, _ => .fail
theorem pre_ok : EntOK Tryz.prog 84 ePre := fun args pre => by
  unfold ePre
  split
  · rename_i l t
    have e : Comes tab0 nolv 84 [.str l, .str t] [] (.br (decide ((l.length : Int) ≥ (t.length : Int))) (.br (decide (0 ≤ (t.length : Int) ∧ ((t.length : Int)).toNat ≤ l.length)) (.ret (.bool (List.take ((t.length : Int).toNat - 0) (List.drop 0 l) == t)) []) .fail) (.ret (.bool false) [])) := by unfold Comes; kernel_rfl
    refine of_run (ans_comes tab0_ok e) fun r h => ?_
    rw [← h]
    simp only [Ans.run]
    by_cases hl : t.length ≤ l.length
    · rw [bcT (decide_eq_true (by omega)), bcT (decide_eq_true (by omega))]
      unfold preB
      rw [Int.toNat_natCast]; rfl
    · rw [bcF (decide_eq_false (by omega))]
      cases hp : preB l t with
      | false => rfl
      | true => exact absurd (pre_len hp) hl
  · trivial
/-- Is a text a reference, a truth? -/
def refB (l : List UInt8) : Bool := rdE l == 0
def eRefB : Ent := fun args pre => match args, pre with
  | [.str l], [] => .chk (decide (l.length ≤ 1000000)) (.ret (.bool (refB l)) [])
  | _, _ => .fail
def rdVB (l : List UInt8) : AV := .agg [.str (bcond (l == [35, 82, 69, 70, 33]) [] (bcond ((csS l).2.2 && (rcG (colA l)).2 == 0 && (rrG (rowA l)).2 && trimF digB (rowP csS (trimF letB) l) == []) (csS l).1 [])),
  .int .i64 (bcond (l == [35, 82, 69, 70, 33]) 0 (bcond ((csS l).2.2 && (rcG (colA l)).2 == 0 && (rrG (rowA l)).2 && trimF digB (rowP csS (trimF letB) l) == []) (rrG (rowA l)).1 0)),
  .int .i64 (bcond (l == [35, 82, 69, 70, 33]) 0 (bcond ((csS l).2.2 && (rcG (colA l)).2 == 0 && (rrG (rowA l)).2 && trimF digB (rowP csS (trimF letB) l) == []) (rcG (colA l)).1 0)),
  .bool (bcond (l == [35, 82, 69, 70, 33]) false (bcond ((csS l).2.2 && (rcG (colA l)).2 == 0 && (rrG (rowA l)).2 && trimF digB (rowP csS (trimF letB) l) == []) (cpB 36 (trimF letB (colP csS l))) false)),
  .bool (bcond (l == [35, 82, 69, 70, 33]) false (bcond ((csS l).2.2 && (rcG (colA l)).2 == 0 && (rrG (rowA l)).2 && trimF digB (rowP csS (trimF letB) l) == []) (cpB 36 (csS l).2.1) false)),
  .bool (l == [35, 82, 69, 70, 33])]
theorem rdV_eq (l : List UInt8) : rdV l = rdVB l := by
  unfold rdV rdVB
  cases l == [35, 82, 69, 70, 33] with
  | true => rfl
  | false => cases (csS l).2.2 && (rcG (colA l)).2 == 0 && (rrG (rowA l)).2 && trimF digB (rowP csS (trimF letB) l) == [] <;> rfl
/-- The same, by functions that are not looked into. -/
structure RdF where
  s : List UInt8 → List UInt8
  r : List UInt8 → Int
  c : List UInt8 → Int
  a : List UInt8 → Bool
  b : List UInt8 → Bool
  d : List UInt8 → Bool
  e : List UInt8 → Int
def RdF.v (F : RdF) (l : List UInt8) : AV := .agg [.str (F.s l), .int .i64 (F.r l), .int .i64 (F.c l), .bool (F.a l), .bool (F.b l), .bool (F.d l)]
def rdF : RdF where
  s := fun l => bcond (l == [35, 82, 69, 70, 33]) [] (bcond ((csS l).2.2 && (rcG (colA l)).2 == 0 && (rrG (rowA l)).2 && trimF digB (rowP csS (trimF letB) l) == []) (csS l).1 [])
  r := fun l => bcond (l == [35, 82, 69, 70, 33]) 0 (bcond ((csS l).2.2 && (rcG (colA l)).2 == 0 && (rrG (rowA l)).2 && trimF digB (rowP csS (trimF letB) l) == []) (rrG (rowA l)).1 0)
  c := fun l => bcond (l == [35, 82, 69, 70, 33]) 0 (bcond ((csS l).2.2 && (rcG (colA l)).2 == 0 && (rrG (rowA l)).2 && trimF digB (rowP csS (trimF letB) l) == []) (rcG (colA l)).1 0)
  a := fun l => bcond (l == [35, 82, 69, 70, 33]) false (bcond ((csS l).2.2 && (rcG (colA l)).2 == 0 && (rrG (rowA l)).2 && trimF digB (rowP csS (trimF letB) l) == []) (cpB 36 (trimF letB (colP csS l))) false)
  b := fun l => bcond (l == [35, 82, 69, 70, 33]) false (bcond ((csS l).2.2 && (rcG (colA l)).2 == 0 && (rrG (rowA l)).2 && trimF digB (rowP csS (trimF letB) l) == []) (cpB 36 (csS l).2.1) false)
  d := fun l => l == [35, 82, 69, 70, 33]
  e := rdE
theorem rdF_v : rdF.v = rdV := funext fun l => (rdV_eq l).symm
theorem rdH_ok : EntOK Tryz.prog 20 (entRd 1000000 rdF.v rdF.e) := by rw [rdF_v]; exact rdG_ok
def tabRd (F : RdF) : Tab := (20, entRd 1000000 F.v F.e) :: tab0
theorem tabRd_ok : TabOK Tryz.prog (tabRd rdF) := .cons rdH_ok tab0_ok
theorem isRef_comes (F : RdF) (l : List UInt8) : Comes (tabRd F) nolv 37 [.str l] [] (.br (decide (l.length ≤ 1000000)) (.ret (.bool (F.e l == 0)) []) .fail) := by unfold Comes; kernel_rfl
theorem isRef_ok : EntOK Tryz.prog 37 eRefB := fun args pre => by
  unfold eRefB
  split
  · rename_i l
    exact ans_comes tabRd_ok (isRef_comes rdF l)
  · trivial
def truB (l : List UInt8) : Bool := l.map upB == [84, 82, 85, 69] || l.map upB == [70, 65, 76, 83, 69]
def eTru : Ent := fun args pre => match args, pre with
  | [.str l], [] => .chk (decide (l.length ≤ 1000000)) (.ret (.bool (truB l)) [])
  | _, _ => .fail
def tabGr : Tab := (63, eGreat) :: tab0
theorem tabGr_ok : TabOK Tryz.prog tabGr := .cons great_ok tab0_ok
theorem truth_ok : EntOK Tryz.prog 38 eTru := fun args pre => by
  unfold eTru
  split
  · rename_i l
    have e : Comes tabGr nolv 38 [.str l] [] (.br (decide (l.length ≤ 1000000)) (.br (l.map upB == [84, 82, 85, 69]) (.ret (.bool true) []) (.ret (.bool (l.map upB == [70, 65, 76, 83, 69])) [])) .fail) := by unfold Comes; kernel_rfl
    refine of_run (ans_comes tabGr_ok e) fun r h => ?_
    rw [← h]
    simp only [Ans.run, Ans.chk, truB]
    cases decide (l.length ≤ 1000000) with
    | false => rfl
    | true => cases l.map upB == [84, 82, 85, 69] <;> rfl
  · trivial
end Go.Proofs.YtebieapmoaaahaaGreatDoor

/- Layer 4: names, and what stands between marks: the loops' states. -/
set_option linter.unusedVariables false
set_option linter.unusedSimpArgs false
namespace Go.Proofs.YtebieapmoaaahaaGreatDoor
open Go Sx
def eBol (f : List UInt8 → Bool) : Ent := fun args pre => match args, pre with
  | [.str l], [] => .chk (decide (l.length ≤ 1000000)) (.ret (.bool (f l)) [])
  | _, _ => .fail
def tabNm (f g : List UInt8 → Bool) : Tab := (34, eCon) :: (37, eBol f) :: (38, eBol g) :: tabPr
theorem tabNm_ok : TabOK Tryz.prog (tabNm refB truB) := .cons con_ok (.cons isRef_ok (.cons truth_ok tabPr_ok))
noncomputable abbrev loopNm : Code := (loopBodies (bodyOf Tryz.f14)).headD .skip
noncomputable abbrev loopBt : Code := (loopBodies (bodyOf Tryz.f102)).headD .skip
def stNm (l : List UInt8) (p : Nat) : PState := ⟨[some (.str l)] ++ nn 16 ++ [some (.ptr 0 0)] ++ nn 24, [some (.raw (.iter l p))] ++ nn 64⟩
def stBt (l : List UInt8) (c i : Int) : PState := ⟨[some (.ptr 0 0), some (.int .u8 c)] ++ nn 4 ++ [some (.int .i64 i)] ++ nn 57, [some (rdr l)] ++ nn 64⟩
end Go.Proofs.YtebieapmoaaahaaGreatDoor

/- Layer 4: names. -/
set_option linter.unusedVariables false
set_option linter.unusedSimpArgs false
namespace Go.Proofs.YtebieapmoaaahaaGreatDoor
open Go Sx
def nmR (l : List UInt8) : PState := ⟨[some (.str l)] ++ nn 1 ++ [some (.bool false)] ++ nn 39, nn 64⟩
def nmX (l : List UInt8) : PState := ⟨[some (.str l)] ++ nn 41, nn 64⟩
def rndNm (l : List UInt8) (p : Nat) : Option (Ex × PState) :=
  bcond (decide (p < l.length)) (bcond (!wrdB (runeAt l p)) (some (.ret, nmR l)) (bcond ((p : Int) == 0) (bcond (!fstB (runeAt l p)) (some (.ret, nmR l)) (some (.normal, stNm l (p + (Utf8.decode ⟨l.toArray⟩ p).2)))) (some (.normal, stNm l (p + (Utf8.decode ⟨l.toArray⟩ p).2))))) (some (.exit 0, nmX l))
theorem roundNm (l : List UInt8) (p : Nat) : code (ent (R := Ex × PState) Tryz.prog (tabNm refB truB) nolv 64 1 20) Tryz.prog {} 0 64 1 loopNm (stNm l p) (endK 0 64 (fun n => hasN [0, 17] n) (fun n => hasN [0, 2] n)) = rndNm l p := by kernel_rfl
/-- Are all signs from a place on those of a name? -/
def nmF (l : List UInt8) : Nat → Nat → Bool
  | 0, _ => true
  | n + 1, p => bcond (decide (p < l.length)) (bcond (!wrdB (runeAt l p) || ((p : Int) == 0 && !fstB (runeAt l p))) false (nmF l n (p + (Utf8.decode ⟨l.toArray⟩ p).2))) true
def resNm (l : List UInt8) (b : Bool) : Ex × PState := bcond b (.exit 0, nmX l) (.ret, nmR l)
theorem loopNm_ok (l : List UInt8) : Tri Tryz.prog (.loop loopNm) (stNm l 0).toA (resNm l (nmF l l.length 0)).1 (resNm l (nmF l l.length 0)).2.toA 0 := by
  refine loop_rounds (ι := { q : Nat × Nat // l.length ≤ q.1 + q.2 }) (ent_sound (NF := 64) (m := 1) tabNm_ok host nolv_ok 20) (lv := {}) (NF := 64) (m := 1) (fun x hx id e h1 h2 => by cases h2) (fun n => hasN [0, 17] n) (fun n => hasN [0, 2] n) (fun q => stNm l q.1.1) (fun q => q.1.2) (fun q => resNm l (nmF l q.1.2 q.1.1)) ?_ (fun q => by simp only [resNm]; cases nmF l q.1.2 q.1.1 <;> simp [bcond]) ⟨(0, l.length), by simp⟩
  rintro ⟨⟨p, n⟩, hq⟩
  simp only at hq ⊢
  rw [roundNm]
  unfold rndNm
  cases n with
  | zero => exact .inr (by rw [bcF (b := decide (p < l.length)) (decide_eq_false (by omega))]; rfl)
  | succ n =>
    simp only [nmF]
    by_cases h1 : p < l.length
    · rw [bcT (b := decide (p < l.length)) (decide_eq_true h1), bcT (b := decide (p < l.length)) (decide_eq_true h1)]
      have hd : 1 ≤ (Utf8.decode ⟨l.toArray⟩ p).2 := Lib.width_pos _ _
      cases h2 : wrdB (runeAt l p) with
      | false => exact .inr rfl
      | true =>
        cases h3 : (p : Int) == 0 with
        | false => exact .inl ⟨⟨(p + (Utf8.decode ⟨l.toArray⟩ p).2, n), by simp only; omega⟩, by simp, rfl, rfl⟩
        | true =>
          cases h4 : fstB (runeAt l p) with
          | false => exact .inr rfl
          | true => exact .inl ⟨⟨(p + (Utf8.decode ⟨l.toArray⟩ p).2, n), by simp only; omega⟩, by simp, rfl, rfl⟩
    · rw [bcF (b := decide (p < l.length)) (decide_eq_false h1), bcF (b := decide (p < l.length)) (decide_eq_false h1)]
      exact .inr rfl
def ansNm (l : List UInt8) (b : Bool) : LAns := .br b (.out (.exit 0) (nmX l)) (.out .ret (nmR l))
theorem ansNm_ok {s : PState} {l : List UInt8} {b : Bool} (h : Tri Tryz.prog (.loop loopNm) s.toA (resNm l b).1 (resNm l b).2.toA 0) : LAnsOK Tryz.prog loopNm 0 s (ansNm l b) := by
  unfold ansNm
  cases b with
  | true => exact ⟨fun _ => h, fun e => by cases e⟩
  | false => exact ⟨fun e => (by cases e), fun _ => h⟩
noncomputable def lvNm (l : List UInt8) : FuncId → Lv := lvOf 14 (fun _ => some [0, 17]) (oneL 4 (eAt 0 (stNm l 0) (ansNm l (nmF l l.length 0))))
theorem lvNm_ok (l : List UInt8) : LvOK Tryz.prog (lvNm l) :=
  lvOne_ok Tryz.func14 (by kernel_rfl) fun K t => eAt_ok (ansNm_ok (loopNm_ok l)) K t
def noA : Ans := .ret (.bool false) []
def ndA (b : Bool) : Ans := .ret (.bool b) []
/-- May a text be a name? -/
def namB (l : List UInt8) : Bool := !(l == []) && (decide (l.length ≤ 30) && (!conB 36 l && (nmF l l.length 0 && (!refB l && !truB l))))
theorem isName_comes (l : List UInt8) : Comes (tabNm refB truB) (lvNm l) 14 [.str l] [] (.br (l == []) noA (.br (decide ((l.length : Int) > 30)) noA (.br (conB 36 l) noA (.br (eqSt (stNm l 0) (stNm l 0)) (.br (nmF l l.length 0) (.br (decide (l.length ≤ 1000000)) (.br (!refB l) (.br (decide (l.length ≤ 1000000)) (ndA (!truB l)) .fail) noA) .fail) noA) .fail)))) := by unfold Comes; kernel_rfl
def eNam : Ent := fun args pre => match args, pre with
  | [.str l], [] => .ret (.bool (namB l)) []
  | _, _ => .fail
theorem isName_ok : EntOK Tryz.prog 14 eNam := fun args pre => by
  unfold eNam
  split
  · rename_i l
    refine of_run (ans_comes tabNm_ok (isName_comes l) (lvNm_ok l)) fun r h => ?_
    rw [← h]
    simp only [Ans.run, noA, ndA, namB]
    cases l == [] with
    | true => rfl
    | false =>
      by_cases h1 : l.length ≤ 30
      · rw [bcF (b := decide ((l.length : Int) > 30)) (decide_eq_false (by omega)), decide_eq_true h1, bcT (eqSt_refl _), decide_eq_true (show l.length ≤ 1000000 by omega)]
        cases conB 36 l <;> cases nmF l l.length 0 <;> cases refB l <;> rfl
      · rw [bcT (b := decide ((l.length : Int) > 30)) (decide_eq_true (by omega)), decide_eq_false h1]; rfl
  · trivial
end Go.Proofs.YtebieapmoaaahaaGreatDoor

/- Layer 4: what stands between two marks. -/
set_option linter.unusedVariables false
set_option linter.unusedSimpArgs false
namespace Go.Proofs.YtebieapmoaaahaaGreatDoor
open Go Sx
def btR (a b : List UInt8) : PState := ⟨[some (.ptr 0 0)] ++ nn 3 ++ [some (.str a), some (.bool true)] ++ nn 58, [some (rdr b)] ++ nn 64⟩
def btX (l : List UInt8) : PState := ⟨[some (.ptr 0 0)] ++ nn 63, [some (rdr l)] ++ nn 64⟩
def iN1 (i : Int) : Int := IntKind.i64.wrap (i + 1)
def ixB (i : Int) (l : List UInt8) : Bool := decide (0 ≤ i ∧ i.toNat < l.length)
def cuB (i : Int) (l : List UInt8) : Bool := decide (0 ≤ i ∧ i.toNat ≤ l.length)
def btO (l : List UInt8) (i : Int) : Option (Ex × PState) := bcond (cuB (iN1 i) l) (bcond (cuB (iN1 i) l) (some (.ret, btR (List.take ((iN1 i).toNat - 0) (List.drop 0 l)) (List.take (l.length - (iN1 i).toNat) (List.drop (iN1 i).toNat l)))) none) none
def rndBt (l : List UInt8) (c i : Int) : Option (Ex × PState) :=
  bcond (decide (i < (l.length : Int))) (bcond (ixB i l) (bcond (byteAt l i.toNat != c) (some (.normal, stBt l c (iN1 i)))
    (bcond (decide (iN1 i < (l.length : Int))) (bcond (ixB (iN1 i) l) (bcond (byteAt l (iN1 i).toNat == c) (some (.normal, stBt l c (iN1 (iN1 i)))) (btO l i)) none) (btO l i))) none) (some (.exit 0, btX l))
theorem roundBt (l : List UInt8) (c i : Int) : code (ent (R := Ex × PState) Tryz.prog tab0 nolv 64 1 20) Tryz.prog {} 1 64 1 loopBt (stBt l c i) (endK 1 64 (fun n => hasN [0, 1, 6] n) (fun n => hasN [0, 4, 5] n)) = rndBt l c i := by kernel_rfl
/-- Where the next mark stands that is not doubled. -/
def btI (l : List UInt8) (c : Int) : Nat → Nat → Option Nat
  | 0, _ => none
  | n + 1, i => bcond (decide (i < l.length)) (bcond (byteAt l i != c) (btI l c n (i + 1)) (bcond (decide (i + 1 < l.length) && byteAt l (i + 1) == c) (btI l c n (i + 2)) (some i))) none
theorem btI_lt {l : List UInt8} {c : Int} : ∀ (n i q : Nat), btI l c n i = some q → q < l.length ∧ i ≤ q ∧ byteAt l q = c
  | 0, i, q, h => by cases h
  | n + 1, i, q, h => by
    simp only [btI] at h
    by_cases h1 : i < l.length
    · rw [bcT (b := decide (i < l.length)) (decide_eq_true h1)] at h
      cases h2 : byteAt l i != c with
      | true => rw [h2] at h; have := btI_lt n _ q h; exact ⟨this.1, by omega, this.2.2⟩
      | false =>
        rw [h2] at h
        cases h3 : decide (i + 1 < l.length) && byteAt l (i + 1) == c with
        | true => rw [h3] at h; have := btI_lt n _ q h; exact ⟨this.1, by omega, this.2.2⟩
        | false => rw [h3] at h; cases h; exact ⟨h1, Nat.le_refl _, by simpa using h2⟩
    · rw [bcF (b := decide (i < l.length)) (decide_eq_false h1)] at h; cases h
def resBt (l : List UInt8) (o : Option Nat) : Ex × PState := match o with | none => (.exit 0, btX l) | some q => (.ret, btR (l.take (q + 1)) (l.drop (q + 1)))
theorem iN1_nat {i : Nat} (h : i < 9223372036854775807) : iN1 (i : Int) = ((i + 1 : Nat) : Int) := by unfold iN1; rw [i64_in (by omega) (by omega)]; rfl
theorem loopBt_ok (l : List UInt8) (c : Int) (hl : l.length ≤ 1000000) : Tri Tryz.prog (.loop loopBt) (stBt l c 1).toA (resBt l (btI l c l.length 1)).1 (resBt l (btI l c l.length 1)).2.toA 1 := by
  refine loop_rounds (ι := { q : Nat × Nat // l.length ≤ q.1 + q.2 ∧ q.1 ≤ l.length + 1 }) (ent_sound (NF := 64) (m := 1) tab0_ok host nolv_ok 20) (lv := {}) (NF := 64) (m := 1) (fun x hx id e h1 h2 => by cases h2) (fun n => hasN [0, 1, 6] n) (fun n => hasN [0, 4, 5] n) (fun q => stBt l c q.1.1) (fun q => q.1.2) (fun q => resBt l (btI l c q.1.2 q.1.1)) ?_ (fun q => by simp only [resBt]; split <;> simp) ⟨(1, l.length), by simp⟩
  rintro ⟨⟨p, n⟩, hq⟩
  simp only at hq ⊢
  rw [roundBt]
  unfold rndBt
  cases n with
  | zero => exact .inr (by rw [bcF (b := decide ((p : Int) < _)) (decide_eq_false (by omega))]; rfl)
  | succ n =>
    simp only [btI]
    by_cases h1 : p < l.length
    · have e1 : iN1 (p : Int) = ((p + 1 : Nat) : Int) := iN1_nat (by omega)
      have e2 : iN1 ((p + 1 : Nat) : Int) = ((p + 2 : Nat) : Int) := iN1_nat (by omega)
      have hO : btO l (p : Int) = some (.ret, btR (l.take (p + 1)) (l.drop (p + 1))) := by
        have hc : cuB ((p + 1 : Nat) : Int) l = true := by unfold cuB; rw [decide_eq_true_eq]; omega
        unfold btO
        rw [e1, hc, bcT rfl, bcT rfl, Int.toNat_natCast]
        have h4 : List.take (l.length - (p + 1)) (List.drop (p + 1) l) = l.drop (p + 1) := List.take_of_length_le (by simp)
        rw [h4]; rfl
      rw [bcT (b := decide ((p : Int) < _)) (decide_eq_true (by omega)), bcT (b := decide (p < l.length)) (decide_eq_true h1), show ixB (p : Int) l = true by unfold ixB; rw [decide_eq_true_eq]; simp; omega, bcT rfl, Int.toNat_natCast, e1, hO]
      cases h2 : byteAt l p != c with
      | true => exact .inl ⟨⟨(p + 1, n), by simp only; omega⟩, by simp, rfl, rfl⟩
      | false =>
        by_cases h3 : p + 1 < l.length
        · rw [bcT (b := decide (((p + 1 : Nat) : Int) < _)) (decide_eq_true (by omega)), show ixB ((p + 1 : Nat) : Int) l = true by unfold ixB; rw [decide_eq_true_eq]; omega, bcT (b := true) rfl, Int.toNat_natCast, e2, decide_eq_true h3, Bool.true_and]
          cases h4 : byteAt l (p + 1) == c with
          | true => exact .inl ⟨⟨(p + 2, n), by simp only; omega⟩, by simp, rfl, rfl⟩
          | false => exact .inr rfl
        · rw [bcF (b := decide (((p + 1 : Nat) : Int) < _)) (decide_eq_false (by omega)), decide_eq_false h3, Bool.false_and]
          exact .inr rfl
    · rw [bcF (b := decide ((p : Int) < _)) (decide_eq_false (by omega)), bcF (b := decide (p < l.length)) (decide_eq_false h1)]
      exact .inr rfl
def ansBt (l : List UInt8) (o : Option Nat) : LAns := .br o.isNone (.out (.exit 0) (btX l)) (.out .ret (btR (l.take (o.getD 0 + 1)) (l.drop (o.getD 0 + 1))))
theorem ansBt_ok {s : PState} {l : List UInt8} {o : Option Nat} (h : Tri Tryz.prog (.loop loopBt) s.toA (resBt l o).1 (resBt l o).2.toA 1) : LAnsOK Tryz.prog loopBt 1 s (ansBt l o) := by
  unfold ansBt
  cases o with
  | none => exact ⟨fun _ => h, fun e => by cases e⟩
  | some q => exact ⟨fun e => (by cases e), fun _ => h⟩
noncomputable def lvBt (l : List UInt8) (c : Int) : FuncId → Lv := lvOf 102 (fun _ => some [0, 1, 6]) (oneL 2 (eAt 1 (stBt l c 1) (.chk (decide (l.length ≤ 1000000)) (ansBt l (btI l c l.length 1)))))
theorem lvBt_ok (l : List UInt8) (c : Int) : LvOK Tryz.prog (lvBt l c) :=
  lvOne_ok Tryz.func102 (by kernel_rfl) fun K t => eAt_ok (show LAnsOK Tryz.prog loopBt 1 (stBt l c 1) (.chk (decide (l.length ≤ 1000000)) (ansBt l (btI l c l.length 1))) from ⟨fun h => ansBt_ok (loopBt_ok l c (of_decide_eq_true h)), fun _ => trivial⟩) K t
/-- Is there a second mark; what stands between, with both; what is left. -/
def betB (c : Int) (l : List UInt8) : Bool := (btI l c l.length 1).isSome
def betW (c : Int) (l : List UInt8) : List UInt8 := match btI l c l.length 1 with | none => [] | some q => l.take (q + 1)
def betL (c : Int) (l : List UInt8) : List UInt8 := match btI l c l.length 1 with | none => l | some q => l.drop (q + 1)
theorem between_comes (l : List UInt8) (c : Int) : Comes tab0 (lvBt l c) 102 [.ptr 0 0, .int .u8 c] [rdr l] (.br (eqSt (stBt l c 1) (stBt l c 1)) (.br (decide (l.length ≤ 1000000)) (.br (btI l c l.length 1).isNone (.ret (.tuple [.str [], .bool false]) [rdr l])
    (.ret (.tuple [.str (l.take ((btI l c l.length 1).getD 0 + 1)), .bool true]) [rdr (l.drop ((btI l c l.length 1).getD 0 + 1))])) .fail) .fail) := by unfold Comes; kernel_rfl
def eBet (B : Int → List UInt8 → Bool) (W L : Int → List UInt8 → List UInt8) : Ent := fun args pre => match args, pre with
  | [.ptr 0 0, .int .u8 c], [.raw (.cells [.str l] t)] => .chk (Nat.beq t 68) (.chk (decide (l.length ≤ 1000000)) (.ret (.tuple [.str (W c l), .bool (B c l)]) [rdr (L c l)]))
  | _, _ => .fail
theorem between_ok : EntOK Tryz.prog 102 (eBet betB betW betL) := fun args pre => by
  unfold eBet
  split
  · rename_i c l t
    refine ⟨fun g => ?_, fun _ => trivial⟩
    obtain rfl := Nat.eq_of_beq_eq_true g
    refine of_run (ans_comes tab0_ok (between_comes l c) (lvBt_ok l c)) fun r h => ?_
    obtain ⟨h1, h⟩ := chk_run h
    rw [← h]
    simp only [Ans.run, betB, betW, betL]
    rw [bcT (eqSt_refl _), h1, bcT rfl]
    cases btI l c l.length 1 <;> rfl
  · trivial
end Go.Proofs.YtebieapmoaaahaaGreatDoor

/- strings.ReplaceAll by the library's own contract, laid over this program in plain words. -/
set_option linter.unusedVariables false
set_option linter.unusedSimpArgs false
namespace Go.Proofs.YtebieapmoaaahaaGreatDoor
open Go Sx Go.Shelf
set_option maxRecDepth 100000
def repRen : Ren := ⟨fun | 138 => 113 | 143 => 61 | 154 => 87 | 155 => 59 | 165 => 114 | 166 => 25 | 169 => 28 | 195 => 136 | 197 => 115 | 217 => 121 | 218 => 137 | 219 => 96 | 224 => 123 | 225 => 122 | 240 => 58 | 241 => 138 | 260 => 139 | 266 => 148 | 267 => 124 | 276 => 86 | 277 => 157 | 314 => 149 | n => n, fun | 0 => 0 | 3 => 3 | 4 => 4 | 5 => 5 | 9 => 9 | 20 => 20 | 21 => 21 | 37 => 31 | 46 => 123 | 51 => 140 | 70 => 49 | 72 => 51 | 75 => 56 | 76 => 58 | 80 => 62 | 105 => 118 | 119 => 144 | 127 => 90 | 138 => 146 | 139 => 147 | 146 => 141 | 164 => 103 | n => n, fun | 1 => 1 | 3 => 2 | 4 => 3 | n => n⟩
theorem layRep : Lays.n155 Tryz.prog repRen := {
  mixed := by kernel_rfl,
  f138 := Tryz.func113.trans (congrArg some (by kernel_rfl)),
  f143 := Tryz.func61.trans (congrArg some (by kernel_rfl)),
  f154 := Tryz.func87.trans (congrArg some (by kernel_rfl)),
  f155 := Tryz.func59.trans (congrArg some (by kernel_rfl)),
  f165 := Tryz.func114.trans (congrArg some (by kernel_rfl)),
  f166 := Tryz.func25.trans (congrArg some (by kernel_rfl)),
  f169 := Tryz.func28.trans (congrArg some (by kernel_rfl)),
  f195 := Tryz.func136.trans (congrArg some (by kernel_rfl)),
  f197 := Tryz.func115.trans (congrArg some (by kernel_rfl)),
  f217 := Tryz.func121.trans (congrArg some (by kernel_rfl)),
  f218 := Tryz.func137.trans (congrArg some (by kernel_rfl)),
  f219 := Tryz.func96.trans (congrArg some (by kernel_rfl)),
  f224 := Tryz.func123.trans (congrArg some (by kernel_rfl)),
  f225 := Tryz.func122.trans (congrArg some (by kernel_rfl)),
  f240 := Tryz.func58.trans (congrArg some (by kernel_rfl)),
  f241 := Tryz.func138.trans (congrArg some (by kernel_rfl)),
  f260 := Tryz.func139.trans (congrArg some (by kernel_rfl)),
  f266 := Tryz.func148.trans (congrArg some (by kernel_rfl)),
  f267 := Tryz.func124.trans (congrArg some (by kernel_rfl)),
  f276 := Tryz.func86.trans (congrArg some (by kernel_rfl)),
  f277 := Tryz.func157.trans (congrArg some (by kernel_rfl)),
  f314 := Tryz.func149.trans (congrArg some (by kernel_rfl)),
  t0 := Tryz.underlying0,
  a0 := Tryz.isAgg0,
  z0 := Tryz.sizeOf0,
  v0 := Tryz.zeroValue0,
  t3 := Tryz.underlying3,
  a3 := Tryz.isAgg3,
  z3 := Tryz.sizeOf3,
  v3 := Tryz.zeroValue3,
  t4 := Tryz.underlying4,
  a4 := Tryz.isAgg4,
  z4 := Tryz.sizeOf4,
  v4 := Tryz.zeroValue4,
  t5 := Tryz.underlying5,
  a5 := Tryz.isAgg5,
  z5 := Tryz.sizeOf5,
  v5 := Tryz.zeroValue5,
  t9 := Tryz.underlying9,
  a9 := Tryz.isAgg9,
  z9 := Tryz.sizeOf9,
  v9 := Tryz.zeroValue9,
  t20 := Tryz.underlying20,
  a20 := Tryz.isAgg20,
  z20 := Tryz.sizeOf20,
  v20 := Tryz.zeroValue20,
  t21 := Tryz.underlying21,
  a21 := Tryz.isAgg21,
  z21 := Tryz.sizeOf21,
  v21 := Tryz.zeroValue21,
  t37 := Tryz.underlying31,
  a37 := Tryz.isAgg31,
  z37 := Tryz.sizeOf31,
  v37 := Tryz.zeroValue31,
  t46 := Tryz.underlying123,
  a46 := Tryz.isAgg123,
  z46 := Tryz.sizeOf123,
  v46 := Tryz.zeroValue123,
  t51 := Tryz.underlying140,
  a51 := Tryz.isAgg140,
  z51 := Tryz.sizeOf140,
  v51 := Tryz.zeroValue140,
  t70 := Tryz.underlying49,
  a70 := Tryz.isAgg49,
  z70 := Tryz.sizeOf49,
  v70 := Tryz.zeroValue49,
  t72 := Tryz.underlying51,
  a72 := Tryz.isAgg51,
  z72 := Tryz.sizeOf51,
  v72 := Tryz.zeroValue51,
  t75 := Tryz.underlying56,
  a75 := Tryz.isAgg56,
  z75 := Tryz.sizeOf56,
  v75 := Tryz.zeroValue56,
  t76 := Tryz.underlying58,
  a76 := Tryz.isAgg58,
  z76 := Tryz.sizeOf58,
  v76 := Tryz.zeroValue58,
  t105 := Tryz.underlying118,
  a105 := Tryz.isAgg118,
  z105 := Tryz.sizeOf118,
  v105 := Tryz.zeroValue118,
  t119 := Tryz.underlying144,
  a119 := Tryz.isAgg144,
  z119 := Tryz.sizeOf144,
  t127 := Tryz.underlying90,
  a127 := Tryz.isAgg90,
  z127 := Tryz.sizeOf90,
  v127 := Tryz.zeroValue90,
  t138 := Tryz.underlying146,
  a138 := Tryz.isAgg146,
  z138 := Tryz.sizeOf146,
  v138 := Tryz.zeroValue146,
  t139 := Tryz.underlying147,
  a139 := Tryz.isAgg147,
  z139 := Tryz.sizeOf147,
  v139 := Tryz.zeroValue147,
  t146 := Tryz.underlying141,
  a146 := Tryz.isAgg141,
  z146 := Tryz.sizeOf141,
  v146 := Tryz.zeroValue141,
  t164 := Tryz.underlying103,
  a164 := Tryz.isAgg103,
  z164 := Tryz.sizeOf103,
  v164 := Tryz.zeroValue103,
  g1 := by kernel_rfl,
  g3 := by kernel_rfl,
  g4 := by kernel_rfl }
theorem layX72 : Builder.X72 Tryz.prog repRen := { sizeBuilder := by kernel_rfl, liesBuilder := by kernel_rfl }
theorem layX : Builder.Extra Tryz.prog repRen := { layX72 with
  t5 := Tryz.underlying5
  a5 := Tryz.isAgg5
  z5 := Tryz.sizeOf5
  v5 := Tryz.zeroValue5
  infoByte := by kernel_rfl
  cellsByte := by kernel_rfl
  sizeByte := by kernel_rfl
  neB5 := by decide }
/-- A text with others in the place of some. -/
def eRepA : Ent := fun args pre => match args, pre with
  | [.str l, .str a, .str b], [] => .chk (decide (1 ≤ a.length ∧ a.length ≤ 1000 ∧ b.length ≤ 1000 ∧ l.length ≤ 1000000)) (.ret (.str (Lib.replaceAll l a b)) [])
  | _, _ => .fail
theorem repAll_ok : EntOK Tryz.prog 59 eRepA := fun args pre => by
  unfold eRepA
  split
  · rename_i l a b
    refine ⟨fun hb => ?_, fun _ => trivial⟩
    have hl := of_decide_eq_true hb
    intro w E vs hvs hp
    obtain ⟨x, zs, hx, hz, rfl⟩ := denL_cons.1 hvs
    obtain ⟨y, us, hy, hu, rfl⟩ := denL_cons.1 hz
    obtain ⟨z, ts, hz', ht, rfl⟩ := denL_cons.1 hu
    simp only [denL, Option.some.injEq] at ht
    subst ht
    have hx : x = .string ⟨l.toArray⟩ := by simpa [den] using hx.symm
    have hy : y = .string ⟨a.toArray⟩ := by simpa [den] using hy.symm
    have hz' : z = .string ⟨b.toArray⟩ := by simpa [den] using hz'.symm
    subst hx; subst hy; subst hz'
    obtain ⟨m, hm⟩ := hp.glob.int (g := 1) rfl
    have hcnt := Lib.countB_mul_le ⟨a.toArray⟩ (by simpa [ByteArray.size] using hl.1) l.length ⟨l.toArray⟩ (by simp [ByteArray.size])
    have hsz : Lib.countB ⟨l.toArray⟩ ⟨a.toArray⟩ ≤ l.length := by
      have h1 : 1 ≤ (⟨a.toArray⟩ : ByteArray).size := by simpa [ByteArray.size] using hl.1
      have h2 : (⟨l.toArray⟩ : ByteArray).size = l.length := by simp [ByteArray.size]
      rw [h2] at hcnt
      exact Nat.le_trans (Nat.le_mul_of_pos_right _ (by omega)) hcnt
    have hmul : Lib.countB ⟨l.toArray⟩ ⟨a.toArray⟩ * (⟨b.toArray⟩ : ByteArray).size ≤ 1000000 * 1000 := Nat.mul_le_mul (by omega) (by simp [ByteArray.size]; omega)
    have hsl : (⟨l.toArray⟩ : ByteArray).size = l.length := by simp [ByteArray.size]
    have hc := Any.strings_ReplaceAll layRep layX ⟨l.toArray⟩ ⟨a.toArray⟩ ⟨b.toArray⟩ m w (by omega) hm (by simp [ByteArray.size]; omega) (by omega)
    refine .inl ⟨59, _, Tryz.call59 _ _, hc.mono ?_⟩
    rintro e w' ⟨rfl, hb'⟩
    refine ⟨E, _, rfl, rfl, ⟨.refl _, hp.fresh, fun n o h => by simp at h, fun n b c o _ h => by simp at h, fun k hk _ => hb'.block k hk, fun n m o o' b c b' c' _ _ h => by simp at h, hb'.size, hb'.os, hb'.tape, hb'.output⟩⟩
  · trivial
end Go.Proofs.YtebieapmoaaahaaGreatDoor

/- Layer 4: what readers of pieces call, by functions that are not looked into. -/
set_option linter.unusedVariables false
set_option linter.unusedSimpArgs false
namespace Go.Proofs.YtebieapmoaaahaaGreatDoor
open Go Sx
structure LxO where
  tk : (Int → Bool) → List UInt8 → List UInt8
  dp : (Int → Bool) → List UInt8 → List UInt8
  fi : List UInt8 → Int
  dm : List UInt8 → Int
  dx : List UInt8 → Int
  de : List UInt8 → Int
  rf : List UInt8 → Bool
  tr : List UInt8 → Bool
  nm : List UInt8 → Bool
  up : List UInt8 → List UInt8
  tx : List UInt8 → Bool
  rp : List UInt8 → List UInt8 → List UInt8 → List UInt8
  bb : Int → List UInt8 → Bool
  bw : Int → List UInt8 → List UInt8
  bl : Int → List UInt8 → List UInt8
  pf : List UInt8 → List UInt8 → Bool
  co : UInt8 → List UInt8 → Bool
  sg : List UInt8 → Bool
  c1 : List UInt8 → List UInt8
  c2 : List UInt8 → List UInt8
  c3 : List UInt8 → Bool
  p1 : List UInt8 → List UInt8
  p2 : List UInt8 → Bool
def oTake (O : LxO) : Ent := fun args pre => match args, pre with
  | [.ptr 0 0, .func k [] []], [.raw (.cells [.str l] t)] => match sgnP k with
    | some f => .chk (Nat.beq t 68) (.ret (.str (O.tk f l)) [rdr (O.dp f l)])
    | none => .fail
  | _, _ => .fail
def oFirst (O : LxO) : Ent := fun args pre => match args, pre with
  | [.str l], [] => .ret (.int .i32 (O.fi l)) []
  | _, _ => .fail
def oDec (O : LxO) : Ent := fun args pre => match args, pre with
  | [.str l], [] => .chk (decide (l.length ≤ 999999)) (.ret (.tuple [.agg [.int .i64 (O.dm l), .int .i64 (O.dx l)], .int .i64 (O.de l)]) [])
  | _, _ => .fail
def oNam (O : LxO) : Ent := fun args pre => match args, pre with
  | [.str l], [] => .ret (.bool (O.nm l)) []
  | _, _ => .fail
def oUp (O : LxO) : Ent := fun args pre => match args, pre with
  | [.str l], [] => .chk (decide (l.length ≤ 1000000)) (.ret (.str (O.up l)) [])
  | _, _ => .fail
def oTxt (O : LxO) : Ent := fun args pre => match args, pre with
  | [.str l], [] => .chk (decide (l.length ≤ 9223372036854775807)) (.ret (.bool (O.tx l)) [])
  | _, _ => .fail
def oRep (O : LxO) : Ent := fun args pre => match args, pre with
  | [.str l, .str a, .str b], [] => .chk (decide (1 ≤ a.length ∧ a.length ≤ 1000 ∧ b.length ≤ 1000 ∧ l.length ≤ 1000000)) (.ret (.str (O.rp l a b)) [])
  | _, _ => .fail
def oPre (O : LxO) : Ent := fun args pre => match args, pre with
  | [.str l, .str t], [] => .ret (.bool (O.pf l t)) []
  | _, _ => .fail
def oCon (O : LxO) : Ent := fun args pre => match args, pre with
  | [.str l, .str [c]], [] => .ret (.bool (O.co c l)) []
  | _, _ => .fail
def oSgn (O : LxO) : Ent := fun args pre => match args, pre with
  | [.str l], [] => .ret (.bool (O.sg l)) []
  | _, _ => .fail
def oCut (O : LxO) : Ent := fun args pre => match args, pre with
  | [.str l, .str [93]], [] => .chk (decide (l.length ≤ 1000000)) (.ret (.tuple [.str (O.c1 l), .str (O.c2 l), .bool (O.c3 l)]) [])
  | _, _ => .fail
def oCutP (O : LxO) : Ent := fun args pre => match args, pre with
  | [.str l, .str [46]], [] => .ret (.tuple [.str (O.p1 l), .bool (O.p2 l)]) []
  | _, _ => .fail
def tabX (O : LxO) : Tab := (42, oTake O) :: (102, eBet O.bb O.bw O.bl) :: (67, oFirst O) :: (19, oDec O) :: (37, eBol O.rf) :: (38, eBol O.tr) :: (14, oNam O) :: (63, oUp O) ::
  (103, oTxt O) :: (59, oRep O) :: (84, oPre O) :: (34, oCon O) :: (106, oSgn O) :: (74, oCut O) :: (50, oCutP O) :: tabPr
end Go.Proofs.YtebieapmoaaahaaGreatDoor

/- Layer 4: readers of pieces, as trees. -/
set_option linter.unusedVariables false
set_option linter.unusedSimpArgs false
namespace Go.Proofs.YtebieapmoaaahaaGreatDoor
open Go Sx
/-- A piece that is read: its kind, its text, whether it is one, what is left. -/
structure Pc where
  k : Int
  s : List UInt8
  ok : Bool
  r : List UInt8
def Pc.ans (x : Pc) : Ans := .ret (.tuple [.agg [.int .i64 x.k, .str x.s, .int .i64 0], .bool x.ok]) [rdr x.r]
def chkA : List Bool → Ans → Ans
  | [], x => x
  | b :: bs, x => .br b (chkA bs x) .fail
theorem chkA_run {x : Ans} : ∀ {bs : List Bool}, (∀ b ∈ bs, b = true) → (chkA bs x).run pure2 = x.run pure2
  | [], _ => rfl
  | b :: bs, h => by
    simp only [chkA, Ans.run]
    rw [h b (List.mem_cons_self ..)]
    exact chkA_run fun c hc => h c (List.mem_cons_of_mem _ hc)
def mxB (n : Nat) : Bool := decide (n ≤ 9223372036854775807)
def noPc (l : List UInt8) : Pc := ⟨0, [], false, l⟩
def ePc (F : List UInt8 → Pc) : Ent := fun args pre => match args, pre with
  | [.ptr 0 0], [.raw (.cells [.str l] t)] => .chk (Nat.beq t 68) (.chk (decide (l.length ≤ 1000)) (F l).ans)
  | _, _ => .fail
def ePcW (F : List UInt8 → List UInt8 → Pc) : Ent := fun args pre => match args, pre with
  | [.ptr 0 0, .str w], [.raw (.cells [.str l] t)] => .chk (Nat.beq t 68) (.chk (decide (w.length ≤ 1000)) (.chk (decide (1 ≤ l.length ∧ l.length ≤ 1000)) (F w l).ans))
  | _, _ => .fail
-- numbers
def numS (O : LxO) (l : List UInt8) : List UInt8 := O.tk digB l ++ ([46] ++ O.tk digB (O.p1 (O.dp digB l)))
def num1 (O : LxO) (l : List UInt8) : Pc := ⟨1, O.tk digB l, O.de (O.tk digB l) == 0, O.dp digB l⟩
def num2 (O : LxO) (l : List UInt8) : Pc := ⟨1, numS O l, O.de (numS O l) == 0, O.dp digB (O.p1 (O.dp digB l))⟩
def numT (O : LxO) (l : List UInt8) : Ans := .br (O.p2 (O.dp digB l)) (.br (digB (O.fi (O.p1 (O.dp digB l))))
  (chkA [mxB (([46] : List UInt8).length + (O.tk digB (O.p1 (O.dp digB l))).length), mxB ((O.tk digB l).length + ([46] ++ O.tk digB (O.p1 (O.dp digB l))).length), decide ((numS O l).length ≤ 999999)] (num2 O l).ans)
  (chkA [decide ((O.tk digB l).length ≤ 999999)] (num1 O l).ans)) (chkA [decide ((O.tk digB l).length ≤ 999999)] (num1 O l).ans)
theorem num_comes (O : LxO) (l : List UInt8) : Comes (tabX O) nolv 68 [.ptr 0 0] [rdr l] (numT O l) := by unfold Comes; kernel_rfl
-- texts
def txtJ (O : LxO) (l : List UInt8) : Int := IntKind.i64.wrap (((O.bw 34 l).length : Int) - 1)
def txtM (O : LxO) (l : List UInt8) : List UInt8 := List.take ((txtJ O l).toNat - Int.toNat 1) (List.drop (Int.toNat 1) (O.bw 34 l))
def txtS' (O : LxO) (l : List UInt8) : List UInt8 := O.rp (txtM O l) [34, 34] [34]
def txt1 (O : LxO) (l : List UInt8) : Pc := ⟨2, txtS' O l, O.tx (txtS' O l), O.bl 34 l⟩
def txtT (O : LxO) (l : List UInt8) : Ans := chkA [decide (l.length ≤ 1000000)] (.br (!O.bb 34 l) (noPc (O.bl 34 l)).ans
  (chkA [decide (0 ≤ (1 : Int) ∧ 0 ≤ txtJ O l ∧ Int.toNat 1 ≤ (txtJ O l).toNat ∧ (txtJ O l).toNat ≤ (O.bw 34 l).length), decide (1 ≤ ([34, 34] : List UInt8).length ∧ ([34, 34] : List UInt8).length ≤ 1000 ∧ ([34] : List UInt8).length ≤ 1000 ∧ (txtM O l).length ≤ 1000000), mxB (txtS' O l).length] (txt1 O l).ans))
theorem txt_comes (O : LxO) (l : List UInt8) : Comes (tabX O) nolv 69 [.ptr 0 0] [rdr l] (txtT O l) := by unfold Comes; kernel_rfl
-- errors
def faL : List (List UInt8) := [[35, 78, 85, 76, 76, 33], [35, 68, 73, 86, 47, 48, 33], [35, 86, 65, 76, 85, 69, 33], [35, 82, 69, 70, 33], [35, 78, 65, 77, 69, 63], [35, 78, 85, 77, 33], [35, 78, 47, 65], [35, 83, 80, 73, 76, 76, 33], [35, 67, 73, 82, 67, 33]]
def fauK (f : List UInt8) : Int := bcond (f == [35, 82, 69, 70, 33]) 5 4
def fau1 (f l : List UInt8) : Pc := ⟨fauK f, f, true, List.take (l.length - ((f.length : Int)).toNat) (List.drop ((f.length : Int)).toNat l)⟩
def fauG (O : LxO) (l : List UInt8) : List (List UInt8) → Ans
  | [] => (noPc l).ans
  | f :: r => .br (!O.pf (O.up l) f) (fauG O l r) (chkA [decide (0 ≤ (f.length : Int) ∧ ((f.length : Int)).toNat ≤ l.length)] (fau1 f l).ans)
def fauT (O : LxO) (l : List UInt8) : Ans := chkA [decide (l.length ≤ 1000000)] (fauG O l faL)
theorem fau_comes (O : LxO) (l : List UInt8) : Comes (tabX O) nolv 70 [.ptr 0 0] [rdr l] (fauT O l) := by unfold Comes; kernel_rfl
-- references on sheets
def cut1 (l : List UInt8) : List UInt8 := List.take (l.length - Int.toNat 1) (List.drop (Int.toNat 1) l)
def behS (O : LxO) (w l : List UInt8) : List UInt8 := w ++ [33] ++ O.tk celB (cut1 l)
def beh1 (O : LxO) (w l : List UInt8) : Pc := ⟨5, behS O w l, O.rf (behS O w l), O.dp celB (cut1 l)⟩
def behT (O : LxO) (w l : List UInt8) : Ans := chkA [decide (0 ≤ (1 : Int) ∧ Int.toNat 1 ≤ l.length), mxB (w.length + ([33] : List UInt8).length), mxB ((w ++ [33]).length + (O.tk celB (cut1 l)).length), decide ((behS O w l).length ≤ 1000000)] (beh1 O w l).ans
theorem beh_comes (O : LxO) (w l : List UInt8) : Comes (tabX O) nolv 104 [.ptr 0 0, .str w] [rdr l] (behT O w l) := by unfold Comes; kernel_rfl
def tabY (O : LxO) (B C : List UInt8 → List UInt8 → Pc) : Tab := (104, ePcW B) :: (105, ePcW C) :: tabX O
def quoT (O : LxO) (B : List UInt8 → List UInt8 → Pc) (l : List UInt8) : Ans := chkA [decide (l.length ≤ 1000000)] (.br (!O.bb 39 l) (noPc (O.bl 39 l)).ans (.br (O.fi (O.bl 39 l) != 33) (noPc (O.bl 39 l)).ans
  (chkA [decide ((O.bw 39 l).length ≤ 1000), decide (1 ≤ (O.bl 39 l).length ∧ (O.bl 39 l).length ≤ 1000)] (B (O.bw 39 l) (O.bl 39 l)).ans)))
theorem quo_comes (O : LxO) (B C : List UInt8 → List UInt8 → Pc) (l : List UInt8) : Comes (tabY O B C) nolv 71 [.ptr 0 0] [rdr l] (quoT O B l) := by unfold Comes; kernel_rfl
-- columns
def colN (O : LxO) (l : List UInt8) : List UInt8 := O.c1 (cut1 l)
def col1 (O : LxO) (w l : List UInt8) : Pc := ⟨9, w ++ [91] ++ colN O l ++ [93], true, O.c2 (cut1 l)⟩
def cocT (O : LxO) (w l : List UInt8) : Ans := chkA [decide (0 ≤ (1 : Int) ∧ Int.toNat 1 ≤ l.length), decide ((cut1 l).length ≤ 1000000)] (.br (!O.c3 (cut1 l)) (noPc l).ans (.br (colN O l == []) (noPc l).ans (.br (decide (((colN O l).length : Int) > 30)) (noPc l).ans (.br (O.co 91 (colN O l)) (noPc l).ans
  (chkA [mxB (colN O l).length] (.br (!O.tx (colN O l)) (noPc l).ans (chkA [mxB (w.length + ([91] : List UInt8).length), mxB ((w ++ [91]).length + (colN O l).length), mxB ((w ++ [91] ++ colN O l).length + ([93] : List UInt8).length)] (col1 O w l).ans)))))))
theorem col_comes (O : LxO) (w l : List UInt8) : Comes (tabX O) nolv 105 [.ptr 0 0, .str w] [rdr l] (cocT O w l) := by unfold Comes; kernel_rfl
-- signs
def tkN (n : Int) (l : List UInt8) : List UInt8 := List.take (n.toNat - 0) (List.drop 0 l)
def sg1 (n : Int) (l : List UInt8) : Pc := ⟨8, tkN n l, true, List.take (l.length - n.toNat) (List.drop n.toNat l)⟩
def sgC (n : Int) (l : List UInt8) : Bool := decide (0 ≤ n ∧ n.toNat ≤ l.length)
def sgG (O : LxO) (l : List UInt8) : List Int → Ans
  | [] => (noPc l).ans
  | n :: r => .br (decide (n ≤ (l.length : Int))) (chkA [sgC n l] (.br (O.sg (tkN n l)) (chkA [sgC n l, sgC n l] (sg1 n l).ans) (sgG O l r))) (sgG O l r)
theorem sgn_comes (O : LxO) (l : List UInt8) : Comes (tabX O) nolv 73 [.ptr 0 0] [rdr l] (sgG O l [2, 1]) := by unfold Comes; kernel_rfl
end Go.Proofs.YtebieapmoaaahaaGreatDoor

/- Layer 4: signs below 128, byte by byte: plain mathematics. -/
set_option linter.unusedVariables false
set_option linter.unusedSimpArgs false
namespace Go.Proofs.YtebieapmoaaahaaGreatDoor
open Go Sx
/-- Of signs below 128 alone. -/
def Low (p : Int → Bool) : Prop := ∀ c, p c = true → 0 ≤ c ∧ c < 128
theorem low_blk : Low blkB := fun c h => by simp only [blkB, beq_iff_eq] at h; omega
theorem low_dig : Low digB := fun c h => by simp only [digB, decide_eq_true_eq] at h; omega
theorem low_let : Low letB := fun c h => by simp only [letB, decide_eq_true_eq] at h; omega
theorem low_cel : Low celB := fun c h => by
  simp only [celB, Bool.or_eq_true, beq_iff_eq] at h
  rcases h with h | h | h
  · exact low_let c h
  · exact low_dig c h
  · omega
theorem low_wrd : Low wrdB := fun c h => by
  simp only [wrdB, Bool.or_eq_true, beq_iff_eq] at h
  rcases h with h | h | h
  · exact low_cel c h
  · omega
  · omega
theorem low_fst : Low fstB := fun c h => by
  simp only [fstB, Bool.and_eq_true] at h; exact low_wrd c h.1
/-- The same of bytes. -/
def byB (p : Int → Bool) (b : UInt8) : Bool := p (b.toNat : Int)
theorem rune_byte {p : Int → Bool} (hp : Low p) {l : List UInt8} {k : Nat} (hk : k < l.length) : p (runeAt l k) = byB p l[k] := by
  unfold byB
  by_cases h : (l[k]).toNat < 128
  · rw [(rune_asc hk h).1]
  · have h1 : p ((l[k]).toNat : Int) = false := Bool.eq_false_iff.2 fun e => by have := hp _ e; omega
    rw [h1]
    refine Bool.eq_false_iff.2 fun e => h ?_
    exact rune_low hk (hp _ e).2
theorem rune_width {p : Int → Bool} (hp : Low p) {l : List UInt8} {k : Nat} (hk : k < l.length) (h : p (runeAt l k) = true) : (Utf8.decode ⟨l.toArray⟩ k).2 = 1 := by
  have hb := rune_low hk (hp _ h).2
  exact (rune_asc hk hb).2
/-- Where the first byte stands that is not so. -/
theorem scan_byte {p : Int → Bool} (hp : Low p) (l : List UInt8) : ∀ (n k : Nat), l.length ≤ n + k → scanF p l n k = (if ((l.drop k).takeWhile (byB p)).length = (l.drop k).length then none else some (k + ((l.drop k).takeWhile (byB p)).length))
  | 0, k, h => by
    have : l.drop k = [] := List.drop_of_length_le (by omega)
    simp [scanF, this]
  | n + 1, k, h => by
    simp only [scanF]
    by_cases hk : k < l.length
    · rw [bcT (b := decide (k < l.length)) (decide_eq_true hk), List.drop_eq_getElem_cons hk, List.takeWhile_cons]
      have hr := rune_byte hp hk
      cases hb : byB p l[k] with
      | false =>
        rw [hb] at hr
        rw [hr]
        simp [bcond]
        omega
      | true =>
        rw [hb] at hr
        rw [hr, rune_width hp hk hr]
        have ih := scan_byte hp l n (k + 1) (by omega)
        show scanF p l n (k + 1) = _
        rw [ih]
        simp only [if_true, List.length_cons]
        by_cases he : ((l.drop (k + 1)).takeWhile (byB p)).length = (l.drop (k + 1)).length
        · rw [if_pos he, if_pos (by omega)]
        · rw [if_neg he, if_neg (by omega)]; congr 1; omega
    · rw [bcF (b := decide (k < l.length)) (decide_eq_false hk)]
      have : l.drop k = [] := List.drop_of_length_le (by omega)
      simp [this]
theorem tw_full {p : UInt8 → Bool} : ∀ {l : List UInt8}, (l.takeWhile p).length = l.length → l.takeWhile p = l ∧ l.dropWhile p = []
  | [], _ => ⟨rfl, rfl⟩
  | b :: l, h => by
    rw [List.takeWhile_cons] at h ⊢
    rw [List.dropWhile_cons]
    cases hb : p b with
    | false => rw [hb] at h; simp at h
    | true =>
      rw [hb] at h
      have := tw_full (l := l) (by simpa using h)
      simp [this.1, this.2]
theorem tw_take {p : UInt8 → Bool} : ∀ (l : List UInt8), l.take (l.takeWhile p).length = l.takeWhile p ∧ l.drop (l.takeWhile p).length = l.dropWhile p
  | [] => ⟨rfl, rfl⟩
  | b :: l => by
    rw [List.takeWhile_cons, List.dropWhile_cons]
    cases hb : p b with
    | false => simp
    | true => have := tw_take (p := p) l; simp [this.1, this.2]
theorem takF_eq {p : Int → Bool} (hp : Low p) (l : List UInt8) : takF p l = l.takeWhile (byB p) := by
  unfold takF
  rw [scan_byte hp l l.length 0 (by omega)]
  simp only [List.drop_zero, Nat.zero_add]
  split
  · rename_i h; split at h
    · rename_i he; exact (tw_full he).1.symm
    · cases h
  · rename_i q h; split at h
    · cases h
    · cases h; exact (tw_take l).1
theorem drpF_eq {p : Int → Bool} (hp : Low p) (l : List UInt8) : drpF p l = l.dropWhile (byB p) := by
  unfold drpF
  rw [scan_byte hp l l.length 0 (by omega)]
  simp only [List.drop_zero, Nat.zero_add]
  split
  · rename_i h; split at h
    · rename_i he; exact (tw_full he).2.symm
    · cases h
  · rename_i q h; split at h
    · cases h
    · cases h; exact (tw_take l).2
/-- Of the first byte. -/
def hdB (p : UInt8 → Bool) : List UInt8 → Bool
  | [] => false
  | b :: _ => p b
theorem firI_p {p : Int → Bool} (hp : Low p) (l : List UInt8) : p (firI l) = hdB (byB p) l := by
  unfold firI
  cases l with
  | nil => exact Bool.eq_false_iff.2 fun e => by have := hp _ e; simp [bcond] at this
  | cons b l =>
    rw [bcT (b := decide (0 < (b :: l).length)) (by simp)]
    exact rune_byte hp (l := b :: l) (k := 0) (by simp)
theorem firI_eq {c : Int} (hc : 0 ≤ c ∧ c < 128) (l : List UInt8) : (firI l == c) = hdB (fun b => (b.toNat : Int) == c) l :=
  firI_p (p := fun x => x == c) (fun x h => by have := beq_iff_eq.1 h; omega) l
end Go.Proofs.YtebieapmoaaahaaGreatDoor

/- Layer 4: readers of pieces: the functions themselves, and their entries. -/
set_option linter.unusedVariables false
set_option linter.unusedSimpArgs false
namespace Go.Proofs.YtebieapmoaaahaaGreatDoor
open Go Sx
def lxo : LxO where
  tk := fun p l => l.takeWhile (byB p)
  dp := fun p l => l.dropWhile (byB p)
  fi := firI
  dm := fun l => (Dq.readR l).1
  dx := fun l => (Dq.readR l).2.1
  de := dcE
  rf := refB
  tr := truB
  nm := namB
  up := fun l => l.map upB
  tx := textB
  rp := Lib.replaceAll
  bb := betB
  bw := betW
  bl := betL
  pf := preB
  co := conB
  sg := fun l => sgL.contains l
  c1 := fun l => bcond (decide (ixC 93 l ≥ 0)) (l.take (ixC 93 l).toNat) l
  c2 := fun l => bcond (decide (ixC 93 l ≥ 0)) (l.drop ((ixC 93 l).toNat + 1)) []
  c3 := fun l => decide (ixC 93 l ≥ 0)
  p1 := fun l => bcond (cpB 46 l) (l.drop 1) l
  p2 := fun l => cpB 46 l
theorem sgnP_low {k : Nat} {f : Int → Bool} (h : sgnP k = some f) : Low f := by
  unfold sgnP at h
  split at h
  · cases h; exact low_blk
  · cases h; exact low_cel
  · cases h; exact low_wrd
  · cases h; exact low_dig
  · cases h
theorem oTake_ok : EntOK Tryz.prog 42 (oTake lxo) := fun args pre => by
  have h := take_ok args pre
  unfold oTake
  unfold eTake at h
  split
  · rename_i k l t
    simp only at h
    split
    · rename_i f hf
      rw [hf] at h
      simp only at h
      rw [takF_eq (sgnP_low hf), drpF_eq (sgnP_low hf)] at h
      exact h
    · trivial
  · trivial
theorem oCut_ok : EntOK Tryz.prog 74 (oCut lxo) := fun args pre => by
  unfold oCut
  split
  · rename_i l
    have e : Comes tab0 nolv 74 [.str l, .str [93]] [] (ctT 93 l) := by unfold Comes; kernel_rfl
    refine of_run (ans_comes tab0_ok e) fun r h => ct_run 93 l r ?_
    rw [← h]
    simp only [ctAns, Ans.chk, Ans.run, lxo]
    cases decide (l.length ≤ 1000000) with
    | false => rfl
    | true => cases decide (ixC 93 l ≥ 0) <;> rfl
  · trivial
theorem oCutP_ok : EntOK Tryz.prog 50 (oCutP lxo) := fun args pre => by
  unfold oCutP
  split
  · rename_i l
    have e : Comes tab0 nolv 50 [.str l, .str [46]] [] (cpT 46 l) := by unfold Comes; kernel_rfl
    refine of_run (ans_comes tab0_ok e) fun r h => cp_run 46 l r ?_
    rw [← h]
    simp only [cpAns, Ans.run, lxo]
    cases cpB 46 l <;> rfl
  · trivial
theorem tabX_ok : TabOK Tryz.prog (tabX lxo) :=
  .cons oTake_ok (.cons between_ok (.cons firstS_ok (.cons dcG_ok (.cons isRef_ok (.cons truth_ok (.cons isName_ok (.cons great_ok (.cons isText_ok (.cons repAll_ok (.cons pre_ok (.cons con_ok (.cons signs_ok (.cons oCut_ok (.cons oCutP_ok tabPr_ok))))))))))))))
end Go.Proofs.YtebieapmoaaahaaGreatDoor

/- Layer 4: the pieces that are read. -/
set_option linter.unusedVariables false
set_option linter.unusedSimpArgs false
namespace Go.Proofs.YtebieapmoaaahaaGreatDoor
open Go Sx
theorem tw_le (p : UInt8 → Bool) (l : List UInt8) : (l.takeWhile p).length ≤ l.length := (List.takeWhile_sublist p).length_le
theorem dw_le (p : UInt8 → Bool) (l : List UInt8) : (l.dropWhile p).length ≤ l.length := (List.dropWhile_sublist p).length_le
theorem bc_le {b : Bool} {x y : List UInt8} {n : Nat} (h1 : x.length ≤ n) (h2 : y.length ≤ n) : (bcond b x y).length ≤ n := by cases b <;> assumption
theorem p1_le (l : List UInt8) : (lxo.p1 l).length ≤ l.length := bc_le (by simp) (Nat.le_refl _)
theorem bw_le (c : Int) (l : List UInt8) : (betW c l).length ≤ l.length := by
  unfold betW; split
  · simp
  · rw [List.length_take]; omega
theorem bl_le (c : Int) (l : List UInt8) : (betL c l).length ≤ l.length := by unfold betL; split <;> simp
theorem bw_ge {c : Int} {l : List UInt8} (h : betB c l = true) : 2 ≤ (betW c l).length := by
  unfold betB at h; unfold betW
  cases hb : btI l c l.length 1 with
  | none => rw [hb] at h; cases h
  | some q =>
    have := btI_lt _ _ _ hb
    simp only [List.length_take]; omega
theorem repK_len (k : Nat) : ∀ s : List UInt8, (Lib.replaceK [34, 34] [34] k s).length ≤ s.length + k := by
  induction k with
  | zero => intro s; simp [Lib.replaceK]
  | succ k ih =>
    intro s
    unfold Lib.replaceK
    split
    · omega
    · have := ih (s.drop ((Lib.index s [34, 34]).toNat + [34, 34].length))
      simp only [List.length_append, List.length_take, List.length_cons, List.length_nil, List.length_drop] at this ⊢
      omega
theorem repA_len (s : List UInt8) : (Lib.replaceAll s [34, 34] [34]).length ≤ s.length + s.length := by
  unfold Lib.replaceAll Lib.replace
  have h1 : (([34, 34] : List UInt8) == [34]) = false := by decide
  rw [h1]
  simp only [Bool.false_eq_true, if_false]
  have h2 := repK_len (Lib.replaceNum s [34, 34] (-1)) s
  have h3 : Lib.replaceNum s [34, 34] (-1) = Lib.count s [34, 34] := by unfold Lib.replaceNum; rw [if_pos (.inl (by decide))]
  have h4 := Lib.countB_mul_le ⟨#[34, 34]⟩ (by decide) s.length ⟨s.toArray⟩ (by simp [ByteArray.size])
  have h5 : Lib.countB ⟨s.toArray⟩ ⟨#[34, 34]⟩ = Lib.count s [34, 34] := rfl
  rw [h5] at h4
  have h6 : (⟨s.toArray⟩ : ByteArray).size = s.length := by simp [ByteArray.size]
  have h7 : (⟨#[34, 34]⟩ : ByteArray).size = 2 := rfl
  rw [h6, h7] at h4
  omega
def numP (l : List UInt8) : Pc := bcond (lxo.p2 (lxo.dp digB l) && digB (firI (lxo.p1 (lxo.dp digB l)))) (num2 lxo l) (num1 lxo l)
def txtP (l : List UInt8) : Pc := bcond (betB 34 l) (txt1 lxo l) (noPc (betL 34 l))
def fauP (l : List UInt8) : Pc := match faL.find? (fun f => preB (l.map upB) f) with | none => noPc l | some f => fau1 f l
def behP (w l : List UInt8) : Pc := beh1 lxo w l
def quoP (l : List UInt8) : Pc := bcond (betB 39 l && firI (betL 39 l) == 33) (behP (betW 39 l) (betL 39 l)) (noPc (betL 39 l))
def cocB (l : List UInt8) : Bool := lxo.c3 (cut1 l) && (!(colN lxo l == []) && (decide ((colN lxo l).length ≤ 30) && (!conB 91 (colN lxo l) && textB (colN lxo l))))
def cocP (w l : List UInt8) : Pc := bcond (cocB l) (col1 lxo w l) (noPc l)
def sgsP (l : List UInt8) : Pc := bcond (decide (2 ≤ l.length) && sgL.contains (l.take 2)) (sg1 2 l) (bcond (decide (1 ≤ l.length) && sgL.contains (l.take 1)) (sg1 1 l) (noPc l))
theorem len_ok {n : Nat} {m : Nat} (h : n ≤ m) : decide (n ≤ m) = true := decide_eq_true h
theorem mx_ok {n : Nat} (h : n ≤ 1000000) : mxB n = true := decide_eq_true (by omega)
theorem of_pc {f : FuncId} {F : List UInt8 → Pc} {T : List UInt8 → Ans} {Tb : Tab} (hT : TabOK Tryz.prog Tb) (hc : ∀ l, Comes Tb nolv f [.ptr 0 0] [rdr l] (T l)) (h : ∀ l, l.length ≤ 1000 → (T l).run pure2 = (F l).ans.run pure2) : EntOK Tryz.prog f (ePc F) := fun args pre => by
  unfold ePc
  split
  · rename_i l t
    refine ⟨fun g => ?_, fun _ => trivial⟩
    obtain rfl := Nat.eq_of_beq_eq_true g
    refine of_run (ans_comes hT (hc l)) fun r hr => ?_
    obtain ⟨h1, hr⟩ := chk_run hr
    rw [← hr]
    exact h l (of_decide_eq_true h1)
  · trivial
theorem of_pcW {f : FuncId} {F : List UInt8 → List UInt8 → Pc} {T : List UInt8 → List UInt8 → Ans} {Tb : Tab} (hT : TabOK Tryz.prog Tb) (hc : ∀ w l, Comes Tb nolv f [.ptr 0 0, .str w] [rdr l] (T w l)) (h : ∀ w l, w.length ≤ 1000 → 1 ≤ l.length → l.length ≤ 1000 → (T w l).run pure2 = (F w l).ans.run pure2) : EntOK Tryz.prog f (ePcW F) := fun args pre => by
  unfold ePcW
  split
  · rename_i w l t
    refine ⟨fun g => ?_, fun _ => trivial⟩
    obtain rfl := Nat.eq_of_beq_eq_true g
    refine of_run (ans_comes hT (hc w l)) fun r hr => ?_
    obtain ⟨h1, hr⟩ := chk_run hr
    obtain ⟨h2, hr⟩ := chk_run hr
    rw [← hr]
    have h2 := of_decide_eq_true h2
    exact h w l (of_decide_eq_true h1) h2.1 h2.2
  · trivial
theorem number_ok : EntOK Tryz.prog 68 (ePc numP) := of_pc tabX_ok (num_comes lxo) fun l hl => by
  have h1 : (lxo.tk digB l).length ≤ 1000 := Nat.le_trans (tw_le _ _) hl
  have h2 : (lxo.dp digB l).length ≤ 1000 := Nat.le_trans (dw_le _ _) hl
  have h3 : (lxo.p1 (lxo.dp digB l)).length ≤ 1000 := Nat.le_trans (p1_le _) h2
  have h4 : (lxo.tk digB (lxo.p1 (lxo.dp digB l))).length ≤ 1000 := Nat.le_trans (tw_le _ _) h3
  have c1 : (chkA [decide ((lxo.tk digB l).length ≤ 999999)] (num1 lxo l).ans).run pure2 = (num1 lxo l).ans.run pure2 := chkA_run (by
    intro b hb; simp only [List.mem_cons, List.not_mem_nil, or_false] at hb; subst hb; exact len_ok (by omega))
  have c2 : (chkA [mxB (([46] : List UInt8).length + (lxo.tk digB (lxo.p1 (lxo.dp digB l))).length), mxB ((lxo.tk digB l).length + ([46] ++ lxo.tk digB (lxo.p1 (lxo.dp digB l))).length), decide ((numS lxo l).length ≤ 999999)] (num2 lxo l).ans).run pure2 = (num2 lxo l).ans.run pure2 := chkA_run (by
    intro b hb; simp only [List.mem_cons, List.not_mem_nil, or_false] at hb
    rcases hb with rfl | rfl | rfl
    · exact mx_ok (by simp only [List.length_cons, List.length_nil]; omega)
    · exact mx_ok (by simp only [List.length_append, List.length_cons, List.length_nil]; omega)
    · exact len_ok (by unfold numS; simp only [List.length_append, List.length_cons, List.length_nil]; omega))
  unfold numT numP
  simp only [Ans.run, c1, c2]
  show bcond _ (bcond (digB (firI _)) _ _) _ = _
  cases lxo.p2 (lxo.dp digB l) <;> cases digB (firI (lxo.p1 (lxo.dp digB l))) <;> rfl
theorem text_ok : EntOK Tryz.prog 69 (ePc txtP) := of_pc tabX_ok (txt_comes lxo) fun l hl => by
  have h1 : (lxo.bw 34 l).length ≤ 1000 := Nat.le_trans (bw_le 34 l) hl
  unfold txtT txtP
  rw [chkA_run (by intro b hb; simp only [List.mem_cons, List.not_mem_nil, or_false] at hb; subst hb; exact len_ok (by omega))]
  simp only [Ans.run]
  show bcond (!betB 34 l) _ _ = _
  cases hb : betB 34 l with
  | false => rfl
  | true =>
    have h2 : 2 ≤ (lxo.bw 34 l).length := bw_ge hb
    have hj : txtJ lxo l = (((lxo.bw 34 l).length - 1 : Nat) : Int) := by unfold txtJ; rw [i64_in (by omega) (by omega)]; omega
    have hm : (txtM lxo l).length ≤ 1000 := by unfold txtM; rw [List.length_take, List.length_drop]; omega
    have hs : (txtS' lxo l).length ≤ 2000 := by have := repA_len (txtM lxo l); show (Lib.replaceAll (txtM lxo l) [34, 34] [34]).length ≤ 2000; omega
    show (chkA _ _).run pure2 = _
    rw [chkA_run (by
      intro b hb; simp only [List.mem_cons, List.not_mem_nil, or_false] at hb
      rcases hb with rfl | rfl | rfl
      · rw [hj, decide_eq_true_eq, Int.toNat_natCast]; show _ ∧ _ ∧ 1 ≤ _ ∧ _; omega
      · rw [decide_eq_true_eq]; simp only [List.length_cons, List.length_nil]; omega
      · exact mx_ok (by omega))]
    rfl
theorem up_len (l : List UInt8) : (l.map upB).length = l.length := List.length_map ..
theorem fauG_run {l : List UInt8} : ∀ L, (fauG lxo l L).run pure2 = (match L.find? (fun f => preB (l.map upB) f) with | none => noPc l | some f => fau1 f l).ans.run pure2
  | [] => rfl
  | f :: L => by
    simp only [fauG, Ans.run, List.find?_cons]
    show bcond (!preB (l.map upB) f) _ _ = _
    cases hp : preB (l.map upB) f with
    | false => exact fauG_run L
    | true =>
      have := pre_len hp
      rw [up_len] at this
      show (chkA _ _).run pure2 = _
      rw [chkA_run (by intro b hb; simp only [List.mem_cons, List.not_mem_nil, or_false] at hb; subst hb; rw [decide_eq_true_eq]; omega)]
theorem fault_ok : EntOK Tryz.prog 70 (ePc fauP) := of_pc tabX_ok (fau_comes lxo) fun l hl => by
  unfold fauT fauP
  rw [chkA_run (by intro b hb; simp only [List.mem_cons, List.not_mem_nil, or_false] at hb; subst hb; exact len_ok (by omega))]
  exact fauG_run faL
theorem cut1_eq (l : List UInt8) : cut1 l = l.drop 1 := by
  unfold cut1
  show List.take (l.length - 1) (List.drop 1 l) = _
  exact List.take_of_length_le (by simp)
theorem behind_ok : EntOK Tryz.prog 104 (ePcW behP) := of_pcW tabX_ok (beh_comes lxo) fun w l hw h1 hl => by
  have h2 : (lxo.tk celB (cut1 l)).length ≤ 1000 := Nat.le_trans (tw_le _ _) (by rw [cut1_eq]; simp; omega)
  unfold behT behP
  rw [chkA_run (by
    intro b hb; simp only [List.mem_cons, List.not_mem_nil, or_false] at hb
    rcases hb with rfl | rfl | rfl | rfl
    · rw [decide_eq_true_eq]; show _ ∧ 1 ≤ _; omega
    · exact mx_ok (by simp only [List.length_cons, List.length_nil]; omega)
    · exact mx_ok (by simp only [List.length_append, List.length_cons, List.length_nil]; omega)
    · exact len_ok (by unfold behS; simp only [List.length_append, List.length_cons, List.length_nil]; omega))]
theorem c1_le (l : List UInt8) : (lxo.c1 l).length ≤ l.length := bc_le (by simp; omega) (Nat.le_refl _)
theorem column_ok : EntOK Tryz.prog 105 (ePcW cocP) := of_pcW tabX_ok (col_comes lxo) fun w l hw h1 hl => by
  have h2 : (cut1 l).length ≤ 1000 := by rw [cut1_eq]; simp; omega
  have h3 : (colN lxo l).length ≤ 1000 := Nat.le_trans (c1_le _) h2
  unfold cocT cocP cocB
  rw [chkA_run (by
    intro b hb; simp only [List.mem_cons, List.not_mem_nil, or_false] at hb
    rcases hb with rfl | rfl
    · rw [decide_eq_true_eq]; show _ ∧ 1 ≤ _; omega
    · exact len_ok (by omega))]
  simp only [Ans.run]
  have e1 : (chkA [mxB (w.length + ([91] : List UInt8).length), mxB ((w ++ [91]).length + (colN lxo l).length), mxB ((w ++ [91] ++ colN lxo l).length + ([93] : List UInt8).length)] (col1 lxo w l).ans).run pure2 = (col1 lxo w l).ans.run pure2 := chkA_run (by
    intro b hb; simp only [List.mem_cons, List.not_mem_nil, or_false] at hb
    rcases hb with rfl | rfl | rfl <;> exact mx_ok (by simp only [List.length_append, List.length_cons, List.length_nil]; omega))
  have e2 : ∀ X : Ans, (chkA [mxB (colN lxo l).length] X).run pure2 = X.run pure2 := fun X => chkA_run (by
    intro b hb; simp only [List.mem_cons, List.not_mem_nil, or_false] at hb; subst hb; exact mx_ok (by omega))
  rw [e2]
  simp only [Ans.run, e1]
  show bcond (!lxo.c3 (cut1 l)) _ (bcond _ _ (bcond _ _ (bcond (conB 91 _) _ (bcond (!textB _) _ _)))) = _
  cases lxo.c3 (cut1 l) with
  | false => rfl
  | true =>
    cases colN lxo l == [] with
    | true => rfl
    | false =>
      by_cases h4 : (colN lxo l).length ≤ 30
      · rw [decide_eq_false (show ¬ ((colN lxo l).length : Int) > 30 by omega), decide_eq_true h4]
        cases conB 91 (colN lxo l) <;> cases textB (colN lxo l) <;> rfl
      · rw [decide_eq_true (show ((colN lxo l).length : Int) > 30 by omega), decide_eq_false h4]; rfl
def tabZ : Tab := tabY lxo behP cocP
theorem tabZ_ok : TabOK Tryz.prog tabZ := .cons behind_ok (.cons column_ok tabX_ok)
theorem hdB_ne {p : UInt8 → Bool} {l : List UInt8} (h : hdB p l = true) : 1 ≤ l.length := by cases l with | nil => cases h | cons b l => simp
theorem quoted_ok : EntOK Tryz.prog 71 (ePc quoP) := of_pc tabZ_ok (quo_comes lxo behP cocP) fun l hl => by
  have h1 : (lxo.bw 39 l).length ≤ 1000 := Nat.le_trans (bw_le 39 l) hl
  have h2 : (lxo.bl 39 l).length ≤ 1000 := Nat.le_trans (bl_le 39 l) hl
  unfold quoT quoP
  rw [chkA_run (by intro b hb; simp only [List.mem_cons, List.not_mem_nil, or_false] at hb; subst hb; exact len_ok (by omega))]
  simp only [Ans.run]
  show bcond (!betB 39 l) _ (bcond (!(firI (betL 39 l) == 33)) _ _) = _
  cases hb : betB 39 l with
  | false => rfl
  | true =>
    cases hf : firI (betL 39 l) == 33 with
    | false => rfl
    | true =>
      have h3 : 1 ≤ (betL 39 l).length := by rw [firI_eq (by omega)] at hf; exact hdB_ne hf
      show (chkA _ _).run pure2 = _
      rw [chkA_run (by
        intro b hb; simp only [List.mem_cons, List.not_mem_nil, or_false] at hb
        rcases hb with rfl | rfl
        · exact len_ok h1
        · rw [decide_eq_true_eq]; exact ⟨h3, h2⟩)]
      rfl
theorem tkN_eq (n : Nat) (l : List UInt8) : tkN (n : Int) l = l.take n := by unfold tkN; simp
theorem sign_ok : EntOK Tryz.prog 73 (ePc sgsP) := of_pc tabX_ok (sgn_comes lxo) fun l hl => by
  unfold sgsP
  simp only [sgG, Ans.run]
  have e2 : tkN 2 l = l.take 2 := tkN_eq 2 l
  have e1 : tkN 1 l = l.take 1 := tkN_eq 1 l
  have k : ∀ (n : Int) (X : Ans), 0 ≤ n ∧ n.toNat ≤ l.length → (chkA [sgC n l, sgC n l] X).run pure2 = X.run pure2 ∧ (chkA [sgC n l] X).run pure2 = X.run pure2 := fun n X hn => by
    have : sgC n l = true := by unfold sgC; rw [decide_eq_true_eq]; exact hn
    rw [this]; exact ⟨rfl, rfl⟩
  have t1 : bcond (decide ((1 : Int) ≤ (l.length : Int))) ((chkA [sgC 1 l] (.br (lxo.sg (tkN 1 l)) (chkA [sgC 1 l, sgC 1 l] (sg1 1 l).ans) (noPc l).ans)).run pure2) ((noPc l).ans.run pure2) = (bcond (decide (1 ≤ l.length) && sgL.contains (l.take 1)) (sg1 1 l) (noPc l)).ans.run pure2 := by
    by_cases h : 1 ≤ l.length
    · rw [decide_eq_true (show (1 : Int) ≤ (l.length : Int) by omega), decide_eq_true h, bcT rfl, (k 1 _ ⟨by omega, h⟩).2]
      simp only [Ans.run]
      rw [(k 1 _ ⟨by omega, h⟩).1, e1]
      show bcond (sgL.contains (l.take 1)) _ _ = _
      cases sgL.contains (l.take 1) <;> rfl
    · rw [decide_eq_false (show ¬ (1 : Int) ≤ (l.length : Int) by omega), decide_eq_false h]; rfl
  rw [t1]
  by_cases h : 2 ≤ l.length
  · rw [decide_eq_true (show (2 : Int) ≤ (l.length : Int) by omega), decide_eq_true h, bcT rfl, (k 2 _ ⟨by omega, h⟩).2]
    simp only [Ans.run]
    rw [(k 2 _ ⟨by omega, h⟩).1, e2, t1]
    show bcond (sgL.contains (l.take 2)) _ _ = _
    cases sgL.contains (l.take 2) <;> rfl
  · rw [decide_eq_false (show ¬ (2 : Int) ≤ (l.length : Int) by omega), decide_eq_false h]; rfl
end Go.Proofs.YtebieapmoaaahaaGreatDoor

/- Layer 4: words, and which reader begins. -/
set_option linter.unusedVariables false
set_option linter.unusedSimpArgs false
namespace Go.Proofs.YtebieapmoaaahaaGreatDoor
open Go Sx
def w7 (w r : List UInt8) : Pc := ⟨7, w, true, r⟩
def w5 (w r : List UInt8) : Pc := ⟨5, w, true, r⟩
def w3 (O : LxO) (w r : List UInt8) : Pc := ⟨3, O.up w, true, r⟩
def w6 (O : LxO) (w r : List UInt8) : Pc := ⟨6, w, O.nm w, r⟩
def plnT (O : LxO) (w r : List UInt8) : Ans := chkA [decide (w.length ≤ 1000000)] (.br (O.rf w) (w5 w r).ans (chkA [decide (w.length ≤ 1000000)] (.br (O.tr w) (chkA [decide (w.length ≤ 1000000)] (w3 O w r).ans) (w6 O w r).ans)))
def worT (O : LxO) (B C : List UInt8 → List UInt8 → Pc) (w r : List UInt8) : Ans :=
  .br (O.fi r == 33) (chkA [decide (w.length ≤ 1000), decide (1 ≤ r.length ∧ r.length ≤ 1000)] (B w r).ans)
    (.br (O.fi r == 40) (.br (decide ((w.length : Int) ≤ 30)) (.br (!O.co 36 w) (w7 w r).ans (plnT O w r)) (plnT O w r))
      (.br (O.fi r == 91) (.br (O.nm w) (chkA [decide (w.length ≤ 1000), decide (1 ≤ r.length ∧ r.length ≤ 1000)] (C w r).ans) (plnT O w r)) (plnT O w r)))
theorem wor_comes (O : LxO) (B C : List UInt8 → List UInt8 → Pc) (l : List UInt8) : Comes (tabY O B C) nolv 72 [.ptr 0 0] [rdr l] (worT O B C (O.tk wrdB l) (O.dp wrdB l)) := by unfold Comes; kernel_rfl
def plnP (w r : List UInt8) : Pc := bcond (refB w) (w5 w r) (bcond (truB w) (w3 lxo w r) (w6 lxo w r))
def worQ (w r : List UInt8) : Pc :=
  bcond (firI r == 33) (behP w r) (bcond (firI r == 40) (bcond (decide (w.length ≤ 30) && !conB 36 w) (w7 w r) (plnP w r)) (bcond (firI r == 91 && namB w) (cocP w r) (plnP w r)))
def worP (l : List UInt8) : Pc := worQ (l.takeWhile (byB wrdB)) (l.dropWhile (byB wrdB))
theorem one_ok {n m : Nat} (h : n ≤ m) : ∀ b ∈ [decide (n ≤ m)], b = true := by
  intro b hb; simp only [List.mem_cons, List.not_mem_nil, or_false] at hb; subst hb; exact decide_eq_true h
theorem pln_run {w r : List UInt8} (hw : w.length ≤ 1000) : (plnT lxo w r).run pure2 = (plnP w r).ans.run pure2 := by
  unfold plnT plnP
  rw [chkA_run (one_ok (by omega))]
  simp only [Ans.run]
  rw [chkA_run (one_ok (by omega))]
  simp only [Ans.run]
  rw [chkA_run (one_ok (by omega))]
  show bcond (refB w) _ (bcond (truB w) _ _) = _
  cases refB w <;> cases truB w <;> rfl
theorem wordP_ok : EntOK Tryz.prog 72 (ePc worP) := of_pc tabZ_ok (wor_comes lxo behP cocP) fun l hl => by
  have hw : (l.takeWhile (byB wrdB)).length ≤ 1000 := Nat.le_trans (tw_le _ _) hl
  have hr : (l.dropWhile (byB wrdB)).length ≤ 1000 := Nat.le_trans (dw_le _ _) hl
  show (worT lxo behP cocP (l.takeWhile (byB wrdB)) (l.dropWhile (byB wrdB))).run pure2 = _
  unfold worP
  generalize l.takeWhile (byB wrdB) = w at hw
  generalize l.dropWhile (byB wrdB) = r at hr
  have k : ∀ {c : Int} (X : Ans), (0 ≤ c ∧ c < 128) → (firI r == c) = true → (chkA [decide (w.length ≤ 1000), decide (1 ≤ r.length ∧ r.length ≤ 1000)] X).run pure2 = X.run pure2 := fun X hc hf => chkA_run (by
    rw [firI_eq hc] at hf
    have := hdB_ne hf
    intro b hb; simp only [List.mem_cons, List.not_mem_nil, or_false] at hb
    rcases hb with rfl | rfl
    · exact decide_eq_true hw
    · rw [decide_eq_true_eq]; omega)
  unfold worT worQ
  simp only [Ans.run, pln_run hw]
  show bcond (firI r == 33) _ (bcond (firI r == 40) (bcond _ (bcond (!conB 36 w) _ _) _) (bcond (firI r == 91) (bcond (namB w) _ _) _)) = _
  cases h1 : firI r == 33 with
  | true => rw [bcT rfl, k _ (by omega) h1]; rfl
  | false =>
    cases h2 : firI r == 40 with
    | true =>
      by_cases h3 : w.length ≤ 30
      · rw [decide_eq_true (show (w.length : Int) ≤ 30 by omega), decide_eq_true h3]; cases conB 36 w <;> rfl
      · rw [decide_eq_false (show ¬ (w.length : Int) ≤ 30 by omega), decide_eq_false h3]; rfl
    | false =>
      cases h3 : firI r == 91 with
      | false => rfl
      | true =>
        cases namB w with
        | false => rfl
        | true => rw [bcF rfl, bcF rfl, bcT rfl, bcT rfl, k _ (by omega) h3]; rfl
-- which reader
def fnV (k : Nat) : AV := .func k [.ptr 0 0] []
def begT (O : LxO) (l : List UInt8) : Ans := .br (digB (O.fi l)) (.ret (fnV 68) [rdr l]) (.br (O.fi l == 34) (.ret (fnV 69) [rdr l]) (.br (O.fi l == 35) (.ret (fnV 70) [rdr l])
  (.br (O.fi l == 39) (.ret (fnV 71) [rdr l]) (.br (fstB (O.fi l)) (.ret (fnV 72) [rdr l]) (.ret (fnV 73) [rdr l])))))
theorem beg_comes (O : LxO) (l : List UInt8) : Comes (tabX O) nolv 44 [.ptr 0 0] [rdr l] (begT O l) := by unfold Comes; kernel_rfl
def eBeg (O : LxO) : Ent := fun args pre => match args, pre with
  | [.ptr 0 0], [.raw (.cells [.str l] t)] => .chk (Nat.beq t 68) (begT O l)
  | _, _ => .fail
theorem begun_ok : EntOK Tryz.prog 44 (eBeg lxo) := fun args pre => by
  unfold eBeg
  split
  · rename_i l t
    refine ⟨fun g => ?_, fun _ => trivial⟩
    obtain rfl := Nat.eq_of_beq_eq_true g
    exact ans_comes tabX_ok (beg_comes lxo l)
  · trivial
/-- The piece that begins there. -/
def pcF (l : List UInt8) : Pc := bcond (digB (firI l)) (numP l) (bcond (firI l == 34) (txtP l) (bcond (firI l == 35) (fauP l) (bcond (firI l == 39) (quoP l) (bcond (fstB (firI l)) (worP l) (sgsP l)))))
end Go.Proofs.YtebieapmoaaahaaGreatDoor

/- Layer 4: all pieces of a text: the loop's states. -/
set_option linter.unusedVariables false
set_option linter.unusedSimpArgs false
namespace Go.Proofs.YtebieapmoaaahaaGreatDoor
open Go Sx
structure PcF where
  n : List UInt8 → Pc
  t : List UInt8 → Pc
  f : List UInt8 → Pc
  q : List UInt8 → Pc
  w : List UInt8 → Pc
  s : List UInt8 → Pc
def tabT (O : LxO) (F : PcF) : Tab := (42, oTake O) :: (44, eBeg O) :: (68, ePc F.n) :: (69, ePc F.t) :: (70, ePc F.f) :: (71, ePc F.q) :: (72, ePc F.w) :: (73, ePc F.s) :: tab0
noncomputable abbrev loopTo : Code := (loopBodies (bodyOf Tryz.f17)).headD .skip
abbrev shTok : List CK := [.int .i64, .str, .int .i64]
def tokO (rows : List (List CV)) : PObj := .vecR shTok rows 25
def stT0 (s l : List UInt8) : PState := ⟨[some (.str s)] ++ nn 4 ++ [some (.ptr 0 0), some .nilslice] ++ nn 33, [some (rdr l)] ++ nn 64⟩
def stT1 (s l : List UInt8) (n : Nat) (rows : List (List CV)) : PState := ⟨[some (.str s)] ++ nn 4 ++ [some (.ptr 0 0), some (.vec 1 n)] ++ nn 33, [some (rdr l), some (tokO rows)] ++ nn 64⟩
end Go.Proofs.YtebieapmoaaahaaGreatDoor

/- Layer 4: all pieces of a text: rounds. -/
set_option linter.unusedVariables false
set_option linter.unusedSimpArgs false
namespace Go.Proofs.YtebieapmoaaahaaGreatDoor
open Go Sx
def tkRow (k : Int) (s : List UInt8) (a : Int) : List CV := [.mk k [] false [], .mk 0 s false [], .mk a [] false []]
def toOk0 : PState := ⟨nn 2 ++ [some .nilslice, some (.int .i64 0), some (.int .i64 0)] ++ nn 35, nn 64⟩
def toOk1 (n : Nat) (rows : List (List CV)) : PState := ⟨nn 2 ++ [some (.vec 0 n), some (.int .i64 0), some (.int .i64 0)] ++ nn 35, [some (tokO rows)] ++ nn 64⟩
def toErr (a : Int) : PState := ⟨nn 2 ++ [some .nilslice, some (.int .i64 a), some (.int .i64 40)] ++ nn 35, nn 64⟩
def atI (s l : List UInt8) : Int := IntKind.i64.wrap ((s.length : Int) - (l.length : Int))
def apB (n : Nat) (rows : List (List CV)) : Bool := true && decide ((tokO rows).len = n * 3) && decide (2 * (n + 1) * 32 ≤ 281474976710656 ∧ 2 * (n + 1) < 9223372036854775808)
def disp (O : LxO) (F : PcF) (X : Pc → Option (Ex × PState)) (l : List UInt8) : Option (Ex × PState) :=
  bcond (digB (O.fi l)) (X (F.n l)) (bcond (O.fi l == 34) (X (F.t l)) (bcond (O.fi l == 35) (X (F.f l)) (bcond (O.fi l == 39) (X (F.q l)) (bcond (fstB (O.fi l)) (X (F.w l)) (X (F.s l))))))
def leaf0 (s l : List UInt8) (x : Pc) : Option (Ex × PState) := bcond (decide (l.length ≤ 1000)) (bcond (!x.ok) (some (.ret, toErr (atI s l))) (some (.normal, stT1 s x.r 1 [tkRow x.k x.s (atI s l)]))) none
def leaf1 (s l : List UInt8) (n : Nat) (rows : List (List CV)) (x : Pc) : Option (Ex × PState) := bcond (decide (l.length ≤ 1000)) (bcond (!x.ok) (some (.ret, toErr (atI s l))) (bcond (apB n rows) (some (.normal, stT1 s x.r (n + 1) (rows ++ [tkRow x.k x.s (atI s l)]))) none)) none
theorem roundT0 (O : LxO) (F : PcF) (s l : List UInt8) : code (ent (R := Ex × PState) Tryz.prog (tabT O F) nolv 64 1 20) Tryz.prog {} 0 64 1 loopTo (stT0 s l) (endK 0 64 (fun n => hasN [0, 5, 6] n) (fun n => hasN [2, 3, 4] n)) =
  bcond (O.dp blkB l == []) (some (.ret, toOk0)) (disp O F (leaf0 s (O.dp blkB l)) (O.dp blkB l)) := by kernel_rfl
theorem roundT1 (O : LxO) (F : PcF) (s l : List UInt8) (n : Nat) (rows : List (List CV)) : code (ent (R := Ex × PState) Tryz.prog (tabT O F) nolv 64 1 20) Tryz.prog {} 0 64 1 loopTo (stT1 s l n rows) (endK 0 64 (fun n => hasN [0, 5, 6] n) (fun n => hasN [2, 3, 4] n)) =
  bcond (O.dp blkB l == []) (some (.ret, toOk1 n rows)) (disp O F (leaf1 s (O.dp blkB l) n rows) (O.dp blkB l)) := by kernel_rfl
end Go.Proofs.YtebieapmoaaahaaGreatDoor

/- Layer 4: each piece takes something; all pieces of a text. -/
set_option linter.unusedVariables false
set_option linter.unusedSimpArgs false
namespace Go.Proofs.YtebieapmoaaahaaGreatDoor
open Go Sx
theorem hd_dw {p : UInt8 → Bool} {l : List UInt8} (h : hdB p l = true) : (l.dropWhile p).length < l.length := by
  cases l with
  | nil => cases h
  | cons b l => rw [List.dropWhile_cons]; rw [show p b = true from h]; have := dw_le p l; simp only [if_true, List.length_cons]; omega
theorem fst_wrd {c : Int} (h : fstB c = true) : wrdB c = true := by unfold fstB at h; simp only [Bool.and_eq_true] at h; exact h.1
theorem hd_mono {p q : UInt8 → Bool} (h : ∀ b, p b = true → q b = true) {l : List UInt8} (hp : hdB p l = true) : hdB q l = true := by
  cases l with
  | nil => cases hp
  | cons b l => exact h b hp
theorem bl_lt {c : Int} {l : List UInt8} (h : betB c l = true) : (betL c l).length < l.length := by
  unfold betB at h; unfold betL
  cases hb : btI l c l.length 1 with
  | none => rw [hb] at h; cases h
  | some q => have := btI_lt _ _ _ hb; simp only [List.length_drop]; omega
theorem beh_r (w l : List UInt8) : (behP w l).r.length ≤ l.length := by
  show (List.dropWhile _ (cut1 l)).length ≤ _
  rw [cut1_eq]
  exact Nat.le_trans (dw_le _ _) (by simp)
theorem coc_r (w l : List UInt8) : (cocP w l).r.length ≤ l.length := by
  unfold cocP
  cases cocB l with
  | false => exact Nat.le_refl _
  | true =>
    show (bcond (decide (ixC 93 (cut1 l) ≥ 0)) ((cut1 l).drop _) []).length ≤ _
    rw [cut1_eq]
    exact bc_le (by rw [List.length_drop, List.length_drop]; omega) (by simp)
theorem pln_r (w l : List UInt8) : (plnP w l).r = l := by
  unfold plnP
  cases refB w <;> cases truB w <;> rfl
theorem worQ_r (w l : List UInt8) : (worQ w l).r.length ≤ l.length := by
  unfold worQ
  cases firI l == 33 with
  | true => exact beh_r w l
  | false =>
    cases firI l == 40 with
    | true => cases decide (w.length ≤ 30) && !conB 36 w with
      | true => exact Nat.le_refl _
      | false => show (plnP w l).r.length ≤ _; rw [pln_r]; exact Nat.le_refl _
    | false => cases firI l == 91 && namB w with
      | true => exact coc_r w l
      | false => show (plnP w l).r.length ≤ _; rw [pln_r]; exact Nat.le_refl _
theorem fau_pos : ∀ f ∈ faL, 1 ≤ f.length := by decide
/-- What is a piece takes something. -/
theorem pc_less {l : List UInt8} (h : (pcF l).ok = true) : (pcF l).r.length < l.length := by
  unfold pcF at h ⊢
  rw [firI_p low_dig, firI_eq (by omega), firI_eq (by omega), firI_eq (by omega), firI_p low_fst] at h ⊢
  cases h1 : hdB (byB digB) l with
  | true =>
    show (numP l).r.length < _
    have hd := hd_dw h1
    unfold numP
    cases lxo.p2 (lxo.dp digB l) && digB (firI (lxo.p1 (lxo.dp digB l))) with
    | true => exact Nat.lt_of_le_of_lt (Nat.le_trans (dw_le _ _) (p1_le _)) hd
    | false => exact hd
  | false =>
    rw [h1] at h
    cases h2 : hdB (fun b => (b.toNat : Int) == 34) l with
    | true =>
      rw [h2] at h
      show (txtP l).r.length < _
      have h : (txtP l).ok = true := h
      unfold txtP at h ⊢
      cases hb : betB 34 l with
      | false => rw [hb] at h; cases h
      | true => exact bl_lt hb
    | false =>
      rw [h2] at h
      cases h3 : hdB (fun b => (b.toNat : Int) == 35) l with
      | true =>
        rw [h3] at h
        show (fauP l).r.length < _
        have h : (fauP l).ok = true := h
        unfold fauP at h ⊢
        split
        · rename_i hf; rw [hf] at h; cases h
        · rename_i f hf
          have hm := fau_pos f (List.mem_of_find?_eq_some hf)
          have hp := pre_len (List.find?_some hf)
          rw [up_len] at hp
          show (List.take _ (List.drop _ l)).length < _
          rw [List.length_take, List.length_drop, Int.toNat_natCast]; omega
      | false =>
        rw [h3] at h
        cases h4 : hdB (fun b => (b.toNat : Int) == 39) l with
        | true =>
          rw [h4] at h
          show (quoP l).r.length < _
          have h : (quoP l).ok = true := h
          unfold quoP at h ⊢
          cases hb : betB 39 l with
          | false => rw [hb] at h; cases h
          | true =>
            rw [hb] at h
            cases hf : firI (betL 39 l) == 33 with
            | false => rw [hf] at h; cases h
            | true => exact Nat.lt_of_le_of_lt (beh_r _ _) (bl_lt hb)
        | false =>
          rw [h4] at h
          cases h5 : hdB (byB fstB) l with
          | true =>
            show (worP l).r.length < _
            exact Nat.lt_of_le_of_lt (worQ_r _ _) (hd_dw (hd_mono (fun b hb => fst_wrd hb) h5))
          | false =>
            rw [h5] at h
            show (sgsP l).r.length < _
            have h : (sgsP l).ok = true := h
            have k : ∀ n : Int, 0 < n.toNat ∧ n.toNat ≤ l.length → (sg1 n l).r.length < l.length := fun n hn => by
              show (List.take _ (List.drop _ l)).length < _
              rw [List.length_take, List.length_drop]; omega
            unfold sgsP at h ⊢
            by_cases e2 : 2 ≤ l.length
            · rw [decide_eq_true e2, decide_eq_true (show 1 ≤ l.length by omega)] at h ⊢
              cases c2 : sgL.contains (l.take 2) with
              | true => exact k 2 ⟨by decide, e2⟩
              | false =>
                rw [c2] at h
                cases c1 : sgL.contains (l.take 1) with
                | true => exact k 1 ⟨by decide, by show 1 ≤ _; omega⟩
                | false => rw [c1] at h; cases h
            · rw [decide_eq_false e2] at h ⊢
              by_cases e1 : 1 ≤ l.length
              · rw [decide_eq_true e1] at h ⊢
                cases c1 : sgL.contains (l.take 1) with
                | true => exact k 1 ⟨by decide, e1⟩
                | false => rw [c1] at h; cases h
              · rw [decide_eq_false e1] at h; cases h
/-- A piece that is told. -/
structure Tk where
  k : Int
  s : List UInt8
  a : Int
def Tk.row (t : Tk) : List CV := tkRow t.k t.s t.a
def blD (l : List UInt8) : List UInt8 := l.dropWhile (byB blkB)
/-- The pieces one by one, each with what was left where it begins; what was left where there is none. -/
def pcs : Nat → List UInt8 → List (Pc × List UInt8) × Option (List UInt8)
  | 0, _ => ([], none)
  | n + 1, l => if blD l = [] then ([], none) else if (pcF (blD l)).ok = true then ((pcF (blD l), blD l) :: (pcs n (pcF (blD l)).r).1, (pcs n (pcF (blD l)).r).2) else ([], some (blD l))
theorem pcs_succ (n : Nat) (l : List UInt8) : pcs (n + 1) l = if blD l = [] then ([], none) else if (pcF (blD l)).ok = true then ((pcF (blD l), blD l) :: (pcs n (pcF (blD l)).r).1, (pcs n (pcF (blD l)).r).2) else ([], some (blD l)) := rfl
def mkT (N : Nat) (x : Pc × List UInt8) : Tk := ⟨x.1.k, x.1.s, ((N - x.2.length : Nat) : Int)⟩
def toRes (acc : List Tk) : PState := match acc with | [] => toOk0 | t :: r => toOk1 (t :: r).length ((t :: r).map Tk.row)
def toSt (s l : List UInt8) (acc : List Tk) : PState := match acc with | [] => stT0 s l | t :: r => stT1 s l (t :: r).length ((t :: r).map Tk.row)
def pcR (N : Nat) (acc : List Tk) (x : List (Pc × List UInt8) × Option (List UInt8)) : PState := match x.2 with | none => toRes (acc ++ x.1.map (mkT N)) | some l => toErr ((N - l.length : Nat) : Int)
def pcG : PcF := ⟨numP, txtP, fauP, quoP, worP, sgsP⟩
theorem tabT_ok : TabOK Tryz.prog (tabT lxo pcG) := .cons oTake_ok (.cons begun_ok (.cons number_ok (.cons text_ok (.cons fault_ok (.cons quoted_ok (.cons wordP_ok (.cons sign_ok tab0_ok)))))))
theorem disp_eq (X : Pc → Option (Ex × PState)) (l : List UInt8) : disp lxo pcG X l = X (pcF l) := by
  unfold disp pcF
  show bcond (digB (firI l)) _ (bcond (firI l == 34) _ (bcond (firI l == 35) _ (bcond (firI l == 39) _ (bcond (fstB (firI l)) _ _)))) = _
  cases digB (firI l) with
  | true => rfl
  | false => cases firI l == 34 with
    | true => rfl
    | false => cases firI l == 35 with
      | true => rfl
      | false => cases firI l == 39 with
        | true => rfl
        | false => cases fstB (firI l) <;> rfl
theorem atI_eq {s l : List UInt8} (h : l.length ≤ s.length) (hs : s.length ≤ 200) : atI s l = ((s.length - l.length : Nat) : Int) := by
  unfold atI; rw [i64_in (by omega) (by omega)]; omega
theorem row_len (L : List Tk) : (tokO (L.map Tk.row)).len = L.length * 3 := by
  show (L.map Tk.row).length * shTok.length = _
  rw [List.length_map]; rfl
theorem loopTo_ok (s : List UInt8) (hs : s.length ≤ 200) : Tri Tryz.prog (.loop loopTo) (stT0 s s).toA .ret (pcR s.length [] (pcs s.length s)).toA 0 := by
  refine loop_rounds (ι := { x : Nat × List UInt8 × List Tk // x.2.1.length ≤ x.1 ∧ x.2.2.length + x.2.1.length ≤ s.length }) (ent_sound (NF := 64) (m := 1) tabT_ok host nolv_ok 20) (lv := {}) (NF := 64) (m := 1) (fun x hx id e h1 h2 => by cases h2) (fun n => hasN [0, 5, 6] n) (fun n => hasN [2, 3, 4] n)
    (fun x => toSt s x.1.2.1 x.1.2.2) (fun x => x.1.1) (fun x => (.ret, pcR s.length x.1.2.2 (pcs x.1.1 x.1.2.1))) ?_ (fun x => by simp) ⟨(s.length, s, []), by simp⟩
  rintro ⟨⟨n, l, acc⟩, h1, h2⟩
  simp only at h1 h2 ⊢
  have hb : (blD l).length ≤ l.length := dw_le _ _
  have hround : code (ent (R := Ex × PState) Tryz.prog (tabT lxo pcG) nolv 64 1 20) Tryz.prog {} 0 64 1 loopTo (toSt s l acc) (endK 0 64 (fun n => hasN [0, 5, 6] n) (fun n => hasN [2, 3, 4] n)) =
      bcond (blD l == []) (some (.ret, toRes acc)) (bcond (!(pcF (blD l)).ok) (some (.ret, toErr ((s.length - (blD l).length : Nat) : Int))) (some (.normal, toSt s (pcF (blD l)).r (acc ++ [mkT s.length (pcF (blD l), blD l)])))) := by
    cases acc with
    | nil =>
      refine (roundT0 lxo pcG s l).trans ?_
      rw [disp_eq]
      show bcond (blD l == []) _ (leaf0 s (blD l) _) = _
      unfold leaf0
      rw [decide_eq_true (show (blD l).length ≤ 1000 by omega), atI_eq (by omega) hs]
      rfl
    | cons t r =>
      refine (roundT1 lxo pcG s l _ _).trans ?_
      rw [disp_eq]
      show bcond (blD l == []) _ (leaf1 s (blD l) _ _ _) = _
      unfold leaf1
      have ha : apB (t :: r).length ((t :: r).map Tk.row) = true := by
        unfold apB
        simp only [List.length_cons] at h2
        rw [row_len, decide_eq_true rfl, decide_eq_true (by simp only [List.length_cons]; omega)]; rfl
      rw [decide_eq_true (show (blD l).length ≤ 1000 by omega), atI_eq (by omega) hs, ha]
      show bcond _ _ (bcond _ _ (some (Ex.normal, _))) = bcond _ _ (bcond _ _ (some (Ex.normal, stT1 s _ (t :: (r ++ [_])).length ((t :: (r ++ [_])).map Tk.row))))
      simp only [List.length_cons, List.length_append, List.map_cons, List.map_append, List.cons_append, List.map_nil, List.length_nil]
      rfl
  rw [hround]
  cases n with
  | zero =>
    have : blD l = [] := List.eq_nil_of_length_eq_zero (by omega)
    rw [this]
    refine .inr ?_
    simp [bcond, pcs, pcR]
  | succ n =>
    rw [pcs_succ]
    by_cases he : blD l = []
    · rw [if_pos he, he]
      refine .inr ?_
      simp [bcond, pcR]
    · rw [if_neg he, bcF (b := blD l == []) (by simpa using he)]
      cases ho : (pcF (blD l)).ok with
      | false => exact .inr (by simp [bcond, pcR])
      | true =>
        have hl := pc_less ho
        rw [if_pos rfl]
        refine .inl ⟨⟨(n, (pcF (blD l)).r, acc ++ [mkT s.length (pcF (blD l), blD l)]), by simp only; omega, by simp only [List.length_append, List.length_cons, List.length_nil]; omega⟩, by simp, ?_, rfl⟩
        simp only
        unfold pcR
        simp only
        cases (pcs n (pcF (blD l)).r).2 with
        | none => simp only [List.map_cons, List.append_assoc, List.cons_append, List.nil_append]
        | some m => rfl
end Go.Proofs.YtebieapmoaaahaaGreatDoor

/- Layer 4: lex.Tokens. -/
set_option linter.unusedVariables false
set_option linter.unusedSimpArgs false
namespace Go.Proofs.YtebieapmoaaahaaGreatDoor
open Go Sx
/-- The pieces of a text; the place where there is none; the error's number. -/
def tokP (s : List UInt8) : List (Pc × List UInt8) × Option (List UInt8) := pcs s.length s
def tokL (s : List UInt8) : List Tk := if s.length > 200 then [] else match (tokP s).2 with | none => (tokP s).1.map (mkT s.length) | some _ => []
def tokN (s : List UInt8) : Int := if s.length > 200 then 200 else match (tokP s).2 with | none => 0 | some l => ((s.length - l.length : Nat) : Int)
def tokE (s : List UInt8) : Int := if s.length > 200 then 40 else match (tokP s).2 with | none => 0 | some _ => 40
structure LxT where
  L : List UInt8 → List Tk
  n : List UInt8 → Int
  e : List UInt8 → Int
def lxt : LxT := ⟨tokL, tokN, tokE⟩
def tupN (n e : Int) : AV := .tuple [.nilslice, .int .i64 n, .int .i64 e]
def tupV (m : Nat) (n e : Int) : AV := .tuple [.vec 0 m, .int .i64 n, .int .i64 e]
def eTok (T : LxT) : Ent := fun args pre => match args, pre with
  | [.str s], [] => .br (T.L s).isEmpty (.ret (tupN (T.n s) (T.e s)) []) (.ret (tupV (T.L s).length (T.n s) (T.e s)) [tokO ((T.L s).map Tk.row)])
  | _, _ => .fail
def errI (s : List UInt8) : Int := match (tokP s).2 with | none => 0 | some l => ((s.length - l.length : Nat) : Int)
def allT (s : List UInt8) : List Tk := (tokP s).1.map (mkT s.length)
def ansTo (s : List UInt8) : LAns := .chk (decide (s.length ≤ 200)) (.br (tokP s).2.isSome (.out .ret (toErr (errI s))) (.br (allT s).isEmpty (.out .ret toOk0) (.out .ret (toOk1 (allT s).length ((allT s).map Tk.row)))))
theorem ansTo_ok (s : List UInt8) : LAnsOK Tryz.prog loopTo 0 (stT0 s s) (ansTo s) := by
  unfold ansTo
  refine ⟨fun h => ?_, fun _ => trivial⟩
  have key := loopTo_ok s (of_decide_eq_true h)
  change Tri _ _ _ _ (pcR s.length [] (tokP s)).toA 0 at key
  refine ⟨fun g => ?_, fun g => ?_⟩
  · cases he : (tokP s).2 with
    | none => rw [he] at g; cases g
    | some l =>
      unfold pcR at key; rw [he] at key
      unfold errI; rw [he]
      exact key
  · cases he : (tokP s).2 with
    | some l => rw [he] at g; cases g
    | none =>
      unfold pcR at key; rw [he] at key
      simp only [List.nil_append] at key
      change Tri _ _ _ _ (toRes (allT s)).toA 0 at key
      refine ⟨fun g2 => ?_, fun g2 => ?_⟩
      · rw [List.isEmpty_iff.1 g2] at key; exact key
      · cases hL : allT s with
        | nil => rw [hL] at g2; cases g2
        | cons t r => rw [hL] at key; exact key
noncomputable def lvTo (s : List UInt8) : FuncId → Lv := lvOf 17 (fun _ => some [0, 5, 6]) (oneL 5 (eAt 0 (stT0 s s) (ansTo s)))
theorem lvTo_ok (s : List UInt8) : LvOK Tryz.prog (lvTo s) :=
  lvOne_ok Tryz.func17 (by kernel_rfl) fun K t => eAt_ok (ansTo_ok s) K t
theorem tokens_comes (s : List UInt8) : Comes (tabT lxo pcG) (lvTo s) 17 [.str s] [] (.br (decide ((s.length : Int) > 200)) (.ret (tupN 200 40) [])
    (.br (eqSt (stT0 s s) (stT0 s s)) (.br (decide (s.length ≤ 200)) (.br (tokP s).2.isSome (.ret (tupN (errI s) 40) []) (.br (allT s).isEmpty (.ret (tupN 0 0) []) (.ret (tupV (allT s).length 0 0) [tokO ((allT s).map Tk.row)]))) .fail) .fail)) := by unfold Comes; kernel_rfl
theorem tokens_ok : EntOK Tryz.prog 17 (eTok lxt) := fun args pre => by
  unfold eTok
  split
  · rename_i s
    refine of_run (ans_comes tabT_ok (tokens_comes s) (lvTo_ok s)) fun r h => ?_
    rw [← h]
    simp only [Ans.run, lxt]
    rw [bcT (eqSt_refl _)]
    by_cases hs : s.length > 200
    · rw [bcT (b := decide ((s.length : Int) > 200)) (decide_eq_true (by omega))]
      unfold tokL tokN tokE
      rw [if_pos hs, if_pos hs, if_pos hs]; rfl
    · rw [bcF (b := decide ((s.length : Int) > 200)) (decide_eq_false (by omega)), bcT (b := decide (s.length ≤ 200)) (decide_eq_true (by omega))]
      unfold tokL tokN tokE errI
      rw [if_neg hs, if_neg hs, if_neg hs]
      show bcond _ _ (bcond (allT s).isEmpty _ _) = _
      unfold allT
      cases (tokP s).2 <;> rfl
  · trivial
end Go.Proofs.YtebieapmoaaahaaGreatDoor

/- Layer 4: a piece, with something behind it: plain mathematics. -/
set_option linter.unusedVariables false
set_option linter.unusedSimpArgs false
namespace Go.Proofs.YtebieapmoaaahaaGreatDoor
open Go Sx
section app
variable {c : UInt8} {t : List UInt8}
theorem tw_app {p : UInt8 → Bool} (hc : p c = false) : ∀ l : List UInt8, (l ++ c :: t).takeWhile p = l.takeWhile p ∧ (l ++ c :: t).dropWhile p = l.dropWhile p ++ c :: t
  | [] => by simp [hc]
  | b :: l => by
    have := tw_app hc l
    simp only [List.cons_append, List.takeWhile_cons, List.dropWhile_cons]
    cases p b with
    | true => simp [this.1, this.2]
    | false => simp
theorem hd_app {p : UInt8 → Bool} (hc : p c = false) (l : List UInt8) : hdB p (l ++ c :: t) = hdB p l := by
  cases l with
  | nil => exact hc
  | cons b l => rfl
theorem cp_app {d : UInt8} (hc : c ≠ d) (l : List UInt8) : cpB d (l ++ c :: t) = cpB d l := by
  cases l with
  | nil => unfold cpB; simp [hc]
  | cons b l => unfold cpB; simp
theorem byteAt_app {l : List UInt8} {i : Nat} (h : i < l.length) : byteAt (l ++ c :: t) i = byteAt l i := by
  unfold byteAt
  rw [List.getD_eq_getElem?_getD, List.getD_eq_getElem?_getD, List.getElem?_append_left h]
theorem byteAt_here (l : List UInt8) : byteAt (l ++ c :: t) l.length = (c.toNat : Int) := by
  unfold byteAt
  rw [List.getD_eq_getElem?_getD, List.getElem?_append_right (Nat.le_refl _)]
  simp
theorem bt_app {d : Int} (hc : (c.toNat : Int) ≠ d) {l : List UInt8} : ∀ (n m i q : Nat), btI l d n i = some q → n ≤ m → btI (l ++ c :: t) d m i = some q
  | 0, m, i, q, h, _ => by cases h
  | n + 1, 0, i, q, h, hm => by omega
  | n + 1, m + 1, i, q, h, hm => by
    simp only [btI] at h ⊢
    by_cases h1 : i < l.length
    · rw [bcT (b := decide (i < l.length)) (decide_eq_true h1)] at h
      rw [bcT (b := decide (i < (l ++ c :: t).length)) (decide_eq_true (by simp; omega)), byteAt_app h1]
      cases h2 : byteAt l i != d with
      | true => rw [h2] at h; exact bt_app hc n m _ q h (by omega)
      | false =>
        rw [h2] at h
        show bcond _ _ _ = _
        by_cases h3 : i + 1 < l.length
        · rw [byteAt_app h3, decide_eq_true (show i + 1 < (l ++ c :: t).length by simp; omega)]
          rw [decide_eq_true h3] at h
          cases h4 : byteAt l (i + 1) == d with
          | true => rw [h4] at h; exact bt_app hc n m _ q h (by omega)
          | false => rw [h4] at h; exact h
        · have e : i + 1 = l.length := by omega
          rw [decide_eq_false h3] at h
          rw [e, byteAt_here]
          have : ((c.toNat : Int) == d) = false := beq_eq_false_iff_ne.2 hc
          rw [this, Bool.and_false]; exact h
    · rw [bcF (b := decide (i < l.length)) (decide_eq_false h1)] at h; cases h
theorem bet_app {d : Int} (hc : (c.toNat : Int) ≠ d) {l : List UInt8} (h : betB d l = true) : betB d (l ++ c :: t) = true ∧ betW d (l ++ c :: t) = betW d l ∧ betL d (l ++ c :: t) = betL d l ++ c :: t := by
  unfold betB at h
  obtain ⟨q, hq⟩ := Option.isSome_iff_exists.1 h
  have h2 := bt_app (t := t) hc _ (l ++ c :: t).length _ _ hq (by simp)
  have h3 := btI_lt _ _ _ hq
  unfold betB betW betL
  rw [h2, hq]
  refine ⟨rfl, ?_, ?_⟩
  · exact List.take_append_of_le_length (by omega)
  · exact List.drop_append_of_le_length (by omega)
theorem pre_app {l f : List UInt8} (hf : ∀ b ∈ f, b ≠ c) : preB (l ++ c :: t) f = preB l f := by
  by_cases h : f.length ≤ l.length
  · unfold preB; rw [List.take_append_of_le_length h]
  · have h1 : preB l f = false := Bool.eq_false_iff.2 fun e => h (pre_len e)
    rw [h1]
    refine Bool.eq_false_iff.2 fun e => ?_
    have e := beq_iff_eq.1 e
    have hx : f[l.length]? = some c := by
      rw [← e, List.getElem?_take, if_pos (by omega), List.getElem?_append_right (Nat.le_refl _)]
      simp
    exact hf c (List.mem_of_getElem? hx) rfl
theorem ix_cons (b : UInt8) (l : List UInt8) (d : UInt8) : Lib.indexByte (b :: l) d = if (b == d) = true then 0 else if (Lib.indexByte l d == -1) = true then -1 else Lib.indexByte l d + 1 := rfl
theorem ix_app {d : UInt8} {l : List UInt8} (h : ixC d l ≥ 0) : ixC d (l ++ c :: t) = ixC d l ∧ (ixC d l).toNat < l.length := by
  unfold ixC at *
  induction l with
  | nil => simp [Lib.indexByte] at h
  | cons b l ih =>
    rw [List.cons_append]
    simp only [ix_cons] at h ⊢
    by_cases hb : (b == d) = true
    · rw [if_pos hb, if_pos hb]; exact ⟨rfl, by simp⟩
    · have hge := Lib.indexByte_ge l d
      rw [if_neg hb] at h
      by_cases hm : (Lib.indexByte l d == -1) = true
      · rw [if_pos hm] at h; omega
      · have hne : Lib.indexByte l d ≠ -1 := by simpa using hm
        obtain ⟨h1, h2⟩ := ih (by omega)
        rw [if_neg hb, if_neg hb, h1, if_neg hm]
        exact ⟨rfl, by simp only [List.length_cons]; omega⟩
end app
/-- What may stand behind a piece: no sign that would go on with it. -/
structure Stop (c : UInt8) (l : List UInt8) : Prop where
  w : byB wrdB c = false
  n33 : c ≠ 33
  n34 : c ≠ 34
  n39 : c ≠ 39
  n91 : c ≠ 91
  up : upB c = c
  fa : hdB (fun b => (b.toNat : Int) == 35) l = true → ∀ f ∈ faL, ∀ b ∈ f, b ≠ c
  call : c = 40 → hdB (byB fstB) l = true → l.dropWhile (byB wrdB) ≠ []
  sg : ∀ b, l = [b] → sgL.contains [b, c] = false
theorem wrd_dig {c : UInt8} (h : byB wrdB c = false) : byB digB c = false := by
  unfold byB wrdB celB at *; simp only [Bool.or_eq_false_iff] at h; exact h.1.2.1
theorem wrd_cel {c : UInt8} (h : byB wrdB c = false) : byB celB c = false := by
  unfold byB wrdB at *; simp only [Bool.or_eq_false_iff] at h; exact h.1
theorem wrd_46 {c : UInt8} (h : byB wrdB c = false) : c ≠ 46 := by
  rintro rfl; exact absurd h (by decide)
theorem ne_int {c d : UInt8} (h : c ≠ d) : (c.toNat : Int) ≠ (d.toNat : Int) := fun e => h (UInt8.toNat_inj.1 (by omega))
/-- A piece with more behind it. -/
def Pc.more (x : Pc) (t : List UInt8) : Pc := ⟨x.k, x.s, x.ok, x.r ++ t⟩
section
variable {c : UInt8} {t l : List UInt8}
theorem num_app (h : byB wrdB c = false) : numP (l ++ c :: t) = (numP l).more (c :: t) := by
  have hd := wrd_dig h
  obtain ⟨e1, e2⟩ := tw_app (t := t) hd l
  have hn := wrd_46 h
  unfold numP num2 num1 numS
  simp only [lxo]
  rw [e1, e2, cp_app hn, firI_p low_dig, firI_p low_dig]
  cases hp : cpB 46 (l.dropWhile (byB digB)) with
  | false => simp only [Bool.false_and, bcond, Pc.more]
  | true =>
    simp only [bcond, Bool.true_and]
    obtain ⟨b, r, hr⟩ : ∃ b r, l.dropWhile (byB digB) = b :: r := by
      cases hl : l.dropWhile (byB digB) with
      | nil => rw [hl] at hp; simp [cpB] at hp
      | cons b r => exact ⟨b, r, rfl⟩
    rw [hr]
    simp only [List.cons_append, List.drop_succ_cons, List.drop_zero]
    obtain ⟨e3, e4⟩ := tw_app (t := t) hd r
    rw [hd_app hd, e3, e4]
    cases hdB (byB digB) r <;> rfl
theorem txt_app (h : c ≠ 34) (ho : (txtP l).ok = true) : txtP (l ++ c :: t) = (txtP l).more (c :: t) := by
  unfold txtP at ho ⊢
  cases hb : betB 34 l with
  | false => rw [hb] at ho; cases ho
  | true =>
    obtain ⟨e1, e2, e3⟩ := bet_app (t := t) (d := 34) (ne_int (d := 34) h) hb
    rw [e1]
    have e2' : lxo.bw 34 (l ++ c :: t) = lxo.bw 34 l := e2
    have e3' : lxo.bl 34 (l ++ c :: t) = lxo.bl 34 l ++ c :: t := e3
    simp only [bcond, txt1, txtS', txtM, txtJ, e2', e3', Pc.more]
theorem fau_app (hu : upB c = c) (hf : ∀ f ∈ faL, ∀ b ∈ f, b ≠ c) (ho : (fauP l).ok = true) : fauP (l ++ c :: t) = (fauP l).more (c :: t) := by
  have key : ∀ L : List (List UInt8), (∀ f ∈ L, ∀ b ∈ f, b ≠ c) → L.find? (fun f => preB ((l ++ c :: t).map upB) f) = L.find? (fun f => preB (l.map upB) f) := by
    intro L
    induction L with
    | nil => intro _; rfl
    | cons f L ih =>
      intro hL
      rw [List.find?_cons, List.find?_cons, List.map_append, List.map_cons, hu, pre_app (hL f (List.mem_cons_self ..))]
      rw [← ih fun g hg => hL g (List.mem_cons_of_mem _ hg), List.map_append, List.map_cons, hu]
  unfold fauP at ho ⊢
  rw [key faL hf]
  split
  · rename_i hn; rw [hn] at ho; cases ho
  · rename_i f hs
    have hp := pre_len (List.find?_some hs)
    rw [up_len] at hp
    unfold fau1 Pc.more
    simp only [Int.toNat_natCast]
    rw [List.drop_append_of_le_length hp, List.take_of_length_le (by simp; omega), List.take_of_length_le (l := List.drop f.length l) (by simp)]
theorem beh_app (h : byB wrdB c = false) (w : List UInt8) (hl : 1 ≤ l.length) : behP w (l ++ c :: t) = (behP w l).more (c :: t) := by
  obtain ⟨b, r, rfl⟩ : ∃ b r, l = b :: r := by cases l with | nil => simp at hl | cons b r => exact ⟨b, r, rfl⟩
  have e : cut1 (b :: r ++ c :: t) = r ++ c :: t := by rw [cut1_eq]; rfl
  have e' : cut1 (b :: r) = r := by rw [cut1_eq]; rfl
  obtain ⟨e1, e2⟩ := tw_app (t := t) (wrd_cel h) r
  unfold behP beh1 behS Pc.more
  simp only [lxo, e, e', e1, e2]
theorem quo_app (h : byB wrdB c = false) (h33 : c ≠ 33) (h39 : c ≠ 39) (ho : (quoP l).ok = true) : quoP (l ++ c :: t) = (quoP l).more (c :: t) := by
  unfold quoP at ho ⊢
  cases hb : betB 39 l with
  | false => rw [hb] at ho; cases ho
  | true =>
    obtain ⟨e1, e2, e3⟩ := bet_app (t := t) (d := 39) (ne_int (d := 39) h39) hb
    rw [hb] at ho
    rw [e1, e2, e3, firI_eq (by omega), firI_eq (by omega), hd_app (p := fun b => (b.toNat : Int) == 33) (beq_eq_false_iff_ne.2 (ne_int (d := 33) h33))]
    rw [firI_eq (by omega)] at ho
    cases hf : hdB (fun b => (b.toNat : Int) == 33) (betL 39 l) with
    | false => rw [hf] at ho; cases ho
    | true => exact beh_app h _ (hdB_ne hf)
theorem coc_app (w : List UInt8) (hl : 1 ≤ l.length) (ho : (cocP w l).ok = true) : cocP w (l ++ c :: t) = (cocP w l).more (c :: t) := by
  obtain ⟨b, r, rfl⟩ : ∃ b r, l = b :: r := by cases l with | nil => simp at hl | cons b r => exact ⟨b, r, rfl⟩
  have e : cut1 (b :: r ++ c :: t) = r ++ c :: t := by rw [cut1_eq]; rfl
  have e' : cut1 (b :: r) = r := by rw [cut1_eq]; rfl
  unfold cocP at ho ⊢
  cases hb : cocB (b :: r) with
  | false => rw [hb] at ho; cases ho
  | true =>
    have hi : ixC 93 r ≥ 0 := by
      unfold cocB at hb
      simp only [Bool.and_eq_true] at hb
      have := hb.1
      rw [e'] at this
      exact of_decide_eq_true this
    obtain ⟨i1, i2⟩ := ix_app (c := c) (t := t) hi
    have c1 : lxo.c1 (r ++ c :: t) = lxo.c1 r := by
      simp only [lxo]; rw [i1, decide_eq_true hi]; exact List.take_append_of_le_length (by omega)
    have c2 : lxo.c2 (r ++ c :: t) = lxo.c2 r ++ c :: t := by
      simp only [lxo]; rw [i1, decide_eq_true hi]; exact List.drop_append_of_le_length (by omega)
    have c3 : lxo.c3 (r ++ c :: t) = lxo.c3 r := by simp only [lxo]; rw [i1]
    have hb2 : cocB (b :: r ++ c :: t) = true := by
      rw [← hb]
      unfold cocB colN
      rw [e, e', c1, c3]
    rw [hb2]
    unfold col1 colN Pc.more
    simp only [bcond, e, e', c1, c2]
theorem pln_app (w : List UInt8) : plnP w (l ++ c :: t) = (plnP w l).more (c :: t) := by
  unfold plnP
  cases refB w <;> cases truB w <;> rfl
theorem worQ_app (h : byB wrdB c = false) (h33 : c ≠ 33) (h91 : c ≠ 91) (w : List UInt8) (h40 : c = 40 → l ≠ []) (ho : (worQ w l).ok = true) : worQ w (l ++ c :: t) = (worQ w l).more (c :: t) := by
  unfold worQ at ho ⊢
  rw [firI_eq (by omega), firI_eq (by omega), firI_eq (by omega)] at ho
  rw [firI_eq (by omega), firI_eq (by omega), firI_eq (by omega), firI_eq (by omega), firI_eq (by omega), firI_eq (by omega)]
  rw [hd_app (p := fun b => (b.toNat : Int) == 33) (beq_eq_false_iff_ne.2 (ne_int (d := 33) h33)), hd_app (p := fun b => (b.toNat : Int) == 91) (beq_eq_false_iff_ne.2 (ne_int (d := 91) h91))]
  have e40 : hdB (fun b => (b.toNat : Int) == 40) (l ++ c :: t) = hdB (fun b => (b.toNat : Int) == 40) l := by
    cases l with
    | cons b l => rfl
    | nil =>
      have : c ≠ 40 := fun e => h40 e rfl
      exact beq_eq_false_iff_ne.2 (ne_int (d := 40) this)
  rw [e40]
  cases h1 : hdB (fun b => (b.toNat : Int) == 33) l with
  | true => exact beh_app h w (hdB_ne h1)
  | false =>
    rw [h1] at ho
    cases h2 : hdB (fun b => (b.toNat : Int) == 40) l with
    | true => cases decide (w.length ≤ 30) && !conB 36 w with
      | true => rfl
      | false => exact pln_app w
    | false =>
      rw [h2] at ho
      cases h3 : hdB (fun b => (b.toNat : Int) == 91) l with
      | false => exact pln_app w
      | true =>
        rw [h3] at ho
        cases h4 : namB w with
        | false => exact pln_app w
        | true => rw [h4] at ho; exact coc_app w (hdB_ne h3) ho
theorem sgs_app (hs : ∀ b, l = [b] → sgL.contains [b, c] = false) (ho : (sgsP l).ok = true) : sgsP (l ++ c :: t) = (sgsP l).more (c :: t) := by
  have k : ∀ n : Int, n.toNat ≤ l.length → sg1 n (l ++ c :: t) = (sg1 n l).more (c :: t) := fun n hn => by
    unfold sg1 tkN Pc.more
    simp only [List.drop_zero, Nat.sub_zero]
    rw [List.take_append_of_le_length hn, List.drop_append_of_le_length hn, List.take_of_length_le (l := List.drop n.toNat l ++ c :: t) (by simp; omega), List.take_of_length_le (l := List.drop n.toNat l) (by simp)]
  unfold sgsP at ho ⊢
  rw [decide_eq_true (show 1 ≤ (l ++ c :: t).length by simp; omega)]
  match l, hs, ho, k with
  | [], hs, ho, k => cases ho
  | [b], hs, ho, k =>
    have e2 : (decide (2 ≤ ([b] ++ c :: t).length) && sgL.contains (([b] ++ c :: t).take 2)) = false := by
      show (_ && sgL.contains [b, c]) = false
      rw [hs b rfl, Bool.and_false]
    rw [e2]
    have e1 : ([b] ++ c :: t).take 1 = [b] := rfl
    rw [e1]
    have ho : (bcond (sgL.contains [b]) (sg1 1 [b]) (noPc [b])).ok = true := ho
    show bcond (sgL.contains [b]) _ _ = (bcond (sgL.contains [b]) (sg1 1 [b]) (noPc [b])).more _
    cases h1 : sgL.contains [b] with
    | false => rw [h1] at ho; cases ho
    | true => exact k 1 (by simp)
  | b :: b' :: l, hs, ho, k =>
    rw [decide_eq_true (show 2 ≤ (b :: b' :: l ++ c :: t).length by simp)]
    have ho : (bcond (sgL.contains [b, b']) (sg1 2 (b :: b' :: l)) (bcond (sgL.contains [b]) (sg1 1 (b :: b' :: l)) (noPc (b :: b' :: l)))).ok = true := ho
    show bcond (sgL.contains [b, b']) _ (bcond (sgL.contains [b]) _ _) = (bcond (sgL.contains [b, b']) (sg1 2 (b :: b' :: l)) (bcond (sgL.contains [b]) (sg1 1 (b :: b' :: l)) (noPc (b :: b' :: l)))).more _
    cases h2 : sgL.contains [b, b'] with
    | true => exact k 2 (by simp)
    | false =>
      rw [h2] at ho
      cases h1 : sgL.contains [b] with
      | true => exact k 1 (by simp)
      | false => rw [h1] at ho; cases ho
/-- THE PIECE STAYS, whatever stands behind that does not go on with it. -/
theorem pc_app (hl : l ≠ []) (hs : Stop c l) (ho : (pcF l).ok = true) : pcF (l ++ c :: t) = (pcF l).more (c :: t) := by
  obtain ⟨b, r, rfl⟩ : ∃ b r, l = b :: r := by cases l with | nil => exact absurd rfl hl | cons b r => exact ⟨b, r, rfl⟩
  have hh : ∀ p : UInt8 → Bool, hdB p (b :: r ++ c :: t) = hdB p (b :: r) := fun p => rfl
  unfold pcF at ho ⊢
  rw [firI_p low_dig, firI_eq (by omega), firI_eq (by omega), firI_eq (by omega), firI_p low_fst] at ho
  rw [firI_p low_dig, firI_eq (by omega), firI_eq (by omega), firI_eq (by omega), firI_p low_fst, firI_p low_dig, firI_eq (by omega), firI_eq (by omega), firI_eq (by omega), firI_p low_fst, hh, hh, hh, hh, hh]
  cases h1 : hdB (byB digB) (b :: r) with
  | true => exact num_app hs.w
  | false =>
    rw [h1] at ho
    cases h2 : hdB (fun b => (b.toNat : Int) == 34) (b :: r) with
    | true => rw [h2] at ho; exact txt_app hs.n34 ho
    | false =>
      rw [h2] at ho
      cases h3 : hdB (fun b => (b.toNat : Int) == 35) (b :: r) with
      | true => rw [h3] at ho; exact fau_app hs.up (hs.fa h3) ho
      | false =>
        rw [h3] at ho
        cases h4 : hdB (fun b => (b.toNat : Int) == 39) (b :: r) with
        | true => rw [h4] at ho; exact quo_app hs.w hs.n33 hs.n39 ho
        | false =>
          rw [h4] at ho
          cases h5 : hdB (byB fstB) (b :: r) with
          | true =>
            rw [h5] at ho
            show worP _ = (worP _).more _
            have ho : (worP (b :: r)).ok = true := ho
            unfold worP at ho ⊢
            obtain ⟨e1, e2⟩ := tw_app (t := t) hs.w (b :: r)
            rw [e1, e2]
            exact worQ_app hs.w hs.n33 hs.n91 _ (fun e => hs.call e h5) ho
          | false => rw [h5] at ho; exact sgs_app hs.sg ho
end
theorem sg_32 : ∀ x ∈ sgL, ∀ b ∈ x, b ≠ (32 : UInt8) := by decide
/-- A blank may stand behind all. -/
theorem stop_blank (l : List UInt8) : Stop 32 l := {
  w := by decide, n33 := by decide, n34 := by decide, n39 := by decide, n91 := by decide, up := by decide, fa := fun _ => by decide
  call := fun e => absurd e (by decide)
  sg := fun b _ => by
    cases h : sgL.contains [b, 32] with
    | false => rfl
    | true => exact absurd rfl (sg_32 _ (List.contains_iff_mem.1 h) 32 (by simp)) }
end Go.Proofs.YtebieapmoaaahaaGreatDoor

/- Layer 4: are two lists of pieces the same, but for places? -/
set_option linter.unusedVariables false
set_option linter.unusedSimpArgs false
namespace Go.Proofs.YtebieapmoaaahaaGreatDoor
open Go Sx
def kR (A : List (List CV)) (i : Int) : Int := (rowCV (Sx.rowAt A i.toNat) 0).n
def sR (A : List (List CV)) (i : Int) : List UInt8 := (rowCV (Sx.rowAt A i.toNat) 1).s
def bR (i : Int) (n : Nat) : Bool := decide (0 ≤ i ∧ i < (n : Int))
def rR (i : Int) (A : List (List CV)) : Bool := decide (i.toNat < A.length) && true && true
noncomputable abbrev loopSm : Code := (loopBodies (bodyOf Tryz.f18)).headD .skip
def stSm (n m : Nat) (A B : List (List CV)) (i : Int) : PState := ⟨[some (.vec 0 n), some (.vec 1 m)] ++ nn 2 ++ [some (.bool false), some (.int .i64 i)] ++ nn 35, [some (tokO A), some (tokO B)] ++ nn 64⟩
def smOut (n m : Nat) (A B : List (List CV)) : PState := ⟨[some (.vec 0 n), some (.vec 1 m)] ++ nn 2 ++ [some (.bool false)] ++ nn 36, [some (tokO A), some (tokO B)] ++ nn 64⟩
theorem roundSm (n m : Nat) (A B : List (List CV)) (i : Int) : code (ent (R := Ex × PState) Tryz.prog tab0 nolv 64 1 20) Tryz.prog {} 2 64 1 loopSm (stSm n m A B i) (endK 2 64 (fun n => hasN [0, 1, 4, 5] n) (fun n => hasN [0, 1, 4] n)) =
  bcond (decide (i < (n : Int))) (chks (bcond (kR A i != kR B i) (some (.ret, smOut n m A B)) (chks (bcond (!(sR A i == sR B i)) (some (.ret, smOut n m A B)) (some (.normal, stSm n m A B (IntKind.i64.wrap (i + 1))))) [bR i n, rR i A, bR i m, rR i B])) [bR i n, rR i A, bR i m, rR i B]) (some (.exit 0, smOut n m A B)) := by kernel_rfl
/-- The kinds and texts of rows. -/
def ksR (r : List CV) : Int × List UInt8 := ((rowCV r 0).n, (rowCV r 1).s)
def samR (A B : List (List CV)) : Bool := A.map ksR == B.map ksR
theorem ks_cons {A B : List (List CV)} {i : Nat} (hA : i < A.length) (hB : i < B.length) : samR (A.drop i) (B.drop i) = (!(kR A i != kR B i) && ((sR A i == sR B i) && samR (A.drop (i + 1)) (B.drop (i + 1)))) := by
  have rA : ∀ {A : List (List CV)}, i < A.length → A.drop i = Sx.rowAt A i :: A.drop (i + 1) := fun h => by
    rw [List.drop_eq_getElem_cons h]; unfold Sx.rowAt; rw [List.getD_eq_getElem?_getD, List.getElem?_eq_getElem h]; rfl
  unfold samR
  rw [rA hA, rA hB, List.map_cons, List.map_cons, List.cons_beq_cons]
  unfold ksR kR sR
  rw [Int.toNat_natCast]
  simp only [bne, Bool.not_not]
  rw [← Bool.and_assoc]; rfl
theorem loopSm_ok (A B : List (List CV)) (h : A.length = B.length) (hs : A.length ≤ 1000) : Tri Tryz.prog (.loop loopSm) (stSm A.length B.length A B 0).toA (bcond (samR A B) (.exit 0) .ret) (smOut A.length B.length A B).toA 2 := by
  refine loop_rounds (ι := { x : Nat // x ≤ A.length }) (ent_sound (NF := 64) (m := 1) tab0_ok host nolv_ok 20) (lv := {}) (NF := 64) (m := 1) (fun x hx id e h1 h2 => by cases h2) (fun n => hasN [0, 1, 4, 5] n) (fun n => hasN [0, 1, 4] n)
    (fun x => stSm A.length B.length A B (x.1 : Int)) (fun x => A.length - x.1) (fun x => (bcond (samR (A.drop x.1) (B.drop x.1)) (.exit 0) .ret, smOut A.length B.length A B)) ?_ (fun x => by simp only; cases samR (A.drop x.1) (B.drop x.1) <;> simp [bcond]) ⟨0, by omega⟩
  rintro ⟨i, hi⟩
  simp only
  rw [roundSm]
  by_cases hl : i < A.length
  · have c : ∀ {x : Option (Ex × PState)}, chks x [bR i A.length, rR i A, bR i B.length, rR i B] = x := chks_true (by
      intro b hb
      simp only [List.mem_cons, List.not_mem_nil, or_false] at hb
      rcases hb with rfl | rfl | rfl | rfl
      · exact decide_eq_true (by omega)
      · unfold rR; rw [Bool.and_true, Bool.and_true]; exact decide_eq_true (by omega)
      · exact decide_eq_true (by omega)
      · unfold rR; rw [Bool.and_true, Bool.and_true]; exact decide_eq_true (by omega))
    rw [bcT (b := decide ((i : Int) < _)) (decide_eq_true (by omega)), c, c, ks_cons hl (by omega)]
    cases h1 : kR A i != kR B i with
    | true => exact .inr rfl
    | false =>
      cases h2 : sR A i == sR B i with
      | false => exact .inr rfl
      | true =>
        refine .inl ⟨⟨i + 1, by omega⟩, by simp only; omega, rfl, ?_⟩
        rw [i64_in (by omega) (by omega)]; rfl
  · rw [bcF (b := decide ((i : Int) < _)) (decide_eq_false (by omega))]
    have e1 : A.drop i = [] := List.drop_of_length_le (by omega)
    have e2 : B.drop i = [] := List.drop_of_length_le (by omega)
    rw [e1, e2]; exact .inr rfl
structure SmF where
  r : List (List CV) → List (List CV) → Bool
def smf : SmF := ⟨samR⟩
def eSm (F : SmF) : Ent := fun args pre => match args, pre with
  | [.nilslice, .nilslice], [] => .ret (.bool true) []
  | [.vec 0 n, .nilslice], [.vecR [.int .i64, .str, .int .i64] A t] => .chk (Nat.beq t 25) (.chk (Nat.blt 0 n) (.ret (.bool false) [tokO A]))
  | [.nilslice, .vec 0 n], [.vecR [.int .i64, .str, .int .i64] A t] => .chk (Nat.beq t 25) (.chk (Nat.blt 0 n) (.ret (.bool false) [tokO A]))
  | [.vec 0 n, .vec 1 m], [.vecR [.int .i64, .str, .int .i64] A t, .vecR [.int .i64, .str, .int .i64] B u] => .chk (Nat.beq t 25) (.chk (Nat.beq u 25) (.chk (Nat.beq n A.length) (.chk (Nat.beq m B.length) (.chk (decide (n ≤ 1000)) (.ret (.bool (F.r A B)) [tokO A, tokO B])))))
  | _, _ => .fail
def lansSm (A B : List (List CV)) : LAns := .chk (Nat.beq A.length B.length) (.chk (decide (A.length ≤ 1000)) (.br (samR A B) (.out (.exit 0) (smOut A.length B.length A B)) (.out .ret (smOut A.length B.length A B))))
theorem lansSm_ok (A B : List (List CV)) : LAnsOK Tryz.prog loopSm 2 (stSm A.length B.length A B 0) (lansSm A B) := by
  refine ⟨fun h1 => ⟨fun h2 => ?_, fun _ => trivial⟩, fun _ => trivial⟩
  have key := loopSm_ok A B (Nat.eq_of_beq_eq_true h1) (of_decide_eq_true h2)
  refine ⟨fun g => ?_, fun g => ?_⟩
  · rw [g] at key; exact key
  · rw [g] at key; exact key
noncomputable def lvSm (A B : List (List CV)) : FuncId → Lv := lvOf 18 (fun _ => some [0, 1, 4, 5]) (oneL 4 (eAt 2 (stSm A.length B.length A B 0) (lansSm A B)))
theorem lvSm_ok (A B : List (List CV)) : LvOK Tryz.prog (lvSm A B) := lvOne_ok Tryz.func18 (by kernel_rfl) fun K t => eAt_ok (lansSm_ok A B) K t
end Go.Proofs.YtebieapmoaaahaaGreatDoor

/- Layer 4: the pieces of two texts with a blank between: plain mathematics. -/
set_option linter.unusedVariables false
set_option linter.unusedSimpArgs false
namespace Go.Proofs.YtebieapmoaaahaaGreatDoor
open Go Sx
theorem blD_le (l : List UInt8) : (blD l).length ≤ l.length := dw_le _ _
/-- Enough is enough. -/
theorem pcs_fuel : ∀ (n m : Nat) (l : List UInt8), l.length ≤ n → l.length ≤ m → pcs n l = pcs m l
  | 0, 0, l, _, _ => rfl
  | 0, m + 1, l, h, _ => by
    obtain rfl := List.eq_nil_of_length_eq_zero (Nat.le_zero.1 h)
    rw [pcs_succ]; rfl
  | n + 1, 0, l, _, h => by
    obtain rfl := List.eq_nil_of_length_eq_zero (Nat.le_zero.1 h)
    rw [pcs_succ]; rfl
  | n + 1, m + 1, l, hn, hm => by
    have hb := blD_le l
    rw [pcs_succ, pcs_succ]
    by_cases he : blD l = []
    · rw [if_pos he, if_pos he]
    · rw [if_neg he, if_neg he]
      by_cases ho : (pcF (blD l)).ok = true
      · have hl := pc_less ho
        rw [if_pos ho, if_pos ho, pcs_fuel n m _ (by omega) (by omega)]
      · rw [if_neg ho, if_neg ho]
theorem blk_32 : byB blkB 32 = true := by decide
theorem tok_none {s : List UInt8} (h : tokE s = 0) : s.length ≤ 200 ∧ (tokP s).2 = none := by
  unfold tokE at h
  by_cases hs : s.length > 200
  · rw [if_pos hs] at h; omega
  · rw [if_neg hs] at h
    refine ⟨by omega, ?_⟩
    cases he : (tokP s).2 with
    | none => rfl
    | some l => rw [he] at h; simp at h
theorem tok_of {s : List UInt8} (hs : s.length ≤ 200) (h : (tokP s).2 = none) : tokE s = 0 ∧ tokN s = 0 ∧ tokL s = (tokP s).1.map (mkT s.length) := by
  unfold tokE tokN tokL
  rw [if_neg (by omega), if_neg (by omega), if_neg (by omega), h]
  exact ⟨rfl, rfl, rfl⟩
/-- Of the kinds and texts of pieces. -/
def ksT (t : Tk) : Int × List UInt8 := (t.k, t.s)
theorem sam_iff (x y : List Tk) : samR (x.map Tk.row) (y.map Tk.row) = (x.map ksT == y.map ksT) := by
  unfold samR; rw [List.map_map, List.map_map]; rfl
theorem ks_map (N : Nat) (P : List (Pc × List UInt8)) : (P.map (mkT N)).map ksT = P.map fun x => (x.1.k, x.1.s) := by rw [List.map_map]; rfl
end Go.Proofs.YtebieapmoaaahaaGreatDoor

/- Layer 4: what is known of a piece: its length, and what its kind says. Plain mathematics. -/
set_option linter.unusedVariables false
set_option linter.unusedSimpArgs false
namespace Go.Proofs.YtebieapmoaaahaaGreatDoor
open Go Sx
theorem tdw_len (p : UInt8 → Bool) (l : List UInt8) : (l.takeWhile p).length + (l.dropWhile p).length = l.length := by
  rw [← List.length_append, List.takeWhile_append_dropWhile]
def refTx : List UInt8 := [35, 82, 69, 70, 33]
/-- What a piece's kind says of it. -/
structure Kd (x : Pc) (l : List UInt8) : Prop where
  len : x.k ≠ 2 → x.s.length + x.r.length = l.length
  txt : x.k = 2 → x.s.length ≤ 2 * l.length
  num : x.k = 1 → dcE x.s = 0 ∧ hdB (byB digB) x.s = true
  tru : x.k = 3 → x.s = [84, 82, 85, 69] ∨ x.s = [70, 65, 76, 83, 69]
  fau : x.k = 4 → byteAt x.s 0 = 35 ∧ x.s ≠ refTx ∧ 1 ≤ x.s.length
  ref : x.k = 5 → refB x.s = true
  nam : x.k = 6 → namB x.s = true ∧ refB x.s = false ∧ hdB (byB fstB) x.s = true
  cal : x.k = 7 → hdB (fun b => (b.toNat : Int) == 40) x.r = true
  sgn : x.k = 8 → x.s.length = 1 ∨ x.s.length = 2
  col : x.k = 9 → 1 ≤ x.s.length ∧ byteAt x.s (x.s.length - 1) = 93
  lo : 1 ≤ x.k
  hi : x.k ≤ 9
theorem cp_cons {c : UInt8} {l : List UInt8} (h : cpB c l = true) : ∃ r, l = c :: r := by
  cases l with
  | nil => simp [cpB] at h
  | cons b r => unfold cpB at h; simp at h; exact ⟨r, by rw [h]⟩
theorem num_kd {l : List UInt8} (h1 : hdB (byB digB) l = true) (ho : (numP l).ok = true) : Kd (numP l) l := by
  have e1 := tdw_len (byB digB) l
  have hh : ∀ t : List UInt8, hdB (byB digB) (l.takeWhile (byB digB) ++ t) = true := by
    intro t
    cases l with
    | nil => cases h1
    | cons b r => rw [List.takeWhile_cons, if_pos (show byB digB b = true from h1)]; exact h1
  unfold numP at ho ⊢
  cases hc : lxo.p2 (lxo.dp digB l) && digB (firI (lxo.p1 (lxo.dp digB l))) with
  | true =>
    rw [hc] at ho
    simp only [Bool.and_eq_true] at hc
    obtain ⟨r, hr⟩ := cp_cons hc.1
    have hr' : l.dropWhile (byB digB) = 46 :: r := hr
    have p1 : lxo.p1 (lxo.dp digB l) = r := by
      show bcond (cpB 46 (l.dropWhile (byB digB))) _ _ = _
      rw [hr', show cpB 46 (46 :: r) = true by simp [cpB], hr]; rfl
    have e2 := tdw_len (byB digB) r
    rw [hr'] at e1
    refine { len := fun _ => ?_, txt := fun e => absurd e (by decide : (1 : Int) ≠ 2), num := fun _ => ⟨beq_iff_eq.1 ho, hh _⟩, tru := fun e => absurd e (by decide : (1 : Int) ≠ 3), fau := fun e => absurd e (by decide : (1 : Int) ≠ 4), ref := fun e => absurd e (by decide : (1 : Int) ≠ 5), nam := fun e => absurd e (by decide : (1 : Int) ≠ 6), cal := fun e => absurd e (by decide : (1 : Int) ≠ 7), sgn := fun e => absurd e (by decide : (1 : Int) ≠ 8), col := fun e => absurd e (by decide : (1 : Int) ≠ 9), lo := (by decide : (1 : Int) ≤ 1), hi := (by decide : (1 : Int) ≤ 9) }
    show (numS lxo l).length + (lxo.dp digB (lxo.p1 (lxo.dp digB l))).length = _
    unfold numS
    rw [p1]
    show (l.takeWhile (byB digB) ++ ([46] ++ r.takeWhile (byB digB))).length + (r.dropWhile (byB digB)).length = _
    simp only [List.length_append, List.length_cons, List.length_nil] at *
    omega
  | false =>
    rw [hc] at ho
    refine { len := fun _ => e1, txt := fun e => absurd e (by decide : (1 : Int) ≠ 2), num := fun _ => ⟨beq_iff_eq.1 ho, ?_⟩, tru := fun e => absurd e (by decide : (1 : Int) ≠ 3), fau := fun e => absurd e (by decide : (1 : Int) ≠ 4), ref := fun e => absurd e (by decide : (1 : Int) ≠ 5), nam := fun e => absurd e (by decide : (1 : Int) ≠ 6), cal := fun e => absurd e (by decide : (1 : Int) ≠ 7), sgn := fun e => absurd e (by decide : (1 : Int) ≠ 8), col := fun e => absurd e (by decide : (1 : Int) ≠ 9), lo := (by decide : (1 : Int) ≤ 1), hi := (by decide : (1 : Int) ≤ 9) }
    have := hh []
    rw [List.append_nil] at this; exact this
theorem kd_other {x : Pc} {l : List UInt8} {k : Int} (hk : x.k = k) (h : k = 2 ∨ k = 3 ∨ k = 4 ∨ k = 5 ∨ k = 6 ∨ k = 7 ∨ k = 8 ∨ k = 9)
    (len : k ≠ 2 → x.s.length + x.r.length = l.length) (txt : k = 2 → x.s.length ≤ 2 * l.length) (tru : k = 3 → x.s = [84, 82, 85, 69] ∨ x.s = [70, 65, 76, 83, 69]) (fau : k = 4 → byteAt x.s 0 = 35 ∧ x.s ≠ refTx ∧ 1 ≤ x.s.length)
    (ref : k = 5 → refB x.s = true) (nam : k = 6 → namB x.s = true ∧ refB x.s = false ∧ hdB (byB fstB) x.s = true) (cal : k = 7 → hdB (fun b => (b.toNat : Int) == 40) x.r = true)
    (sgn : k = 8 → x.s.length = 1 ∨ x.s.length = 2) (col : k = 9 → 1 ≤ x.s.length ∧ byteAt x.s (x.s.length - 1) = 93) : Kd x l := by
  subst hk
  exact { len := len, txt := txt, num := fun e => by omega, tru := tru, fau := fau, ref := ref, nam := nam, cal := cal, sgn := sgn, col := col, lo := by omega, hi := by omega }
theorem txt_kd {l : List UInt8} (ho : (txtP l).ok = true) : Kd (txtP l) l := by
  unfold txtP at ho ⊢
  cases hb : betB 34 l with
  | false => rw [hb] at ho; cases ho
  | true =>
    refine kd_other (k := 2) rfl (by omega) (by omega) (fun _ => ?_) (by omega) (by omega) (by omega) (by omega) (by omega) (by omega) (by omega)
    show (Lib.replaceAll (txtM lxo l) [34, 34] [34]).length ≤ _
    have h1 := repA_len (txtM lxo l)
    have h2 : (txtM lxo l).length ≤ l.length := by
      have := bw_le 34 l
      show (List.take _ (List.drop _ (betW 34 l))).length ≤ _
      simp only [List.length_take, List.length_drop]; omega
    omega
theorem fau_first : ∀ f ∈ faL, byteAt f 0 = 35 := by decide
theorem fauK_or : ∀ f ∈ faL, (fauK f = 5 ∧ refB f = true) ∨ (fauK f = 4 ∧ f ≠ refTx) := by
  have h : (faL.all fun f => (decide (fauK f = 5) && refB f) || (decide (fauK f = 4) && !(f == refTx))) = true := by kernel_rfl
  intro f hf
  have := List.all_eq_true.1 h f hf
  simpa [Bool.or_eq_true, Bool.and_eq_true] using this
theorem fau_kd {l : List UInt8} (ho : (fauP l).ok = true) : Kd (fauP l) l := by
  unfold fauP at ho ⊢
  split
  · rename_i hf; rw [hf] at ho; cases ho
  · rename_i f hf
    have hm := List.mem_of_find?_eq_some hf
    have hp := pre_len (List.find?_some hf)
    rw [up_len] at hp
    have h1 := fau_pos f hm
    have h0 := fau_first f hm
    have hl : f.length + (List.take (l.length - ((f.length : Int)).toNat) (List.drop ((f.length : Int)).toNat l)).length = l.length := by
      rw [Int.toNat_natCast, List.length_take, List.length_drop]; omega
    rcases fauK_or f hm with ⟨h2, h3⟩ | ⟨h2, h3⟩
    · exact kd_other (x := fau1 f l) (k := 5) h2 (by omega) (fun _ => hl) (by omega) (by omega) (by omega) (fun _ => h3) (by omega) (by omega) (by omega) (by omega)
    · exact kd_other (x := fau1 f l) (k := 4) h2 (by omega) (fun _ => hl) (by omega) (by omega) (fun _ => ⟨h0, h3, h1⟩) (by omega) (by omega) (by omega) (by omega) (by omega)
theorem beh_kd {w r l : List UInt8} (hr : 1 ≤ r.length) (hl : w.length + r.length = l.length) (ho : (behP w r).ok = true) : Kd (behP w r) l := by
  refine kd_other (k := 5) rfl (by omega) (fun _ => ?_) (by omega) (by omega) (by omega) (fun _ => ho) (by omega) (by omega) (by omega) (by omega)
  show (w ++ [33] ++ (cut1 r).takeWhile (byB celB)).length + ((cut1 r).dropWhile (byB celB)).length = _
  have := tdw_len (byB celB) (cut1 r)
  rw [cut1_eq] at this ⊢
  simp only [List.length_append, List.length_cons, List.length_nil, List.length_drop] at *
  omega
theorem quo_kd {l : List UInt8} (ho : (quoP l).ok = true) : Kd (quoP l) l := by
  unfold quoP at ho ⊢
  cases hb : betB 39 l with
  | false => rw [hb] at ho; cases ho
  | true =>
    rw [hb] at ho
    cases hf : firI (betL 39 l) == 33 with
    | false => rw [hf] at ho; cases ho
    | true =>
      rw [hf] at ho
      have h1 : 1 ≤ (betL 39 l).length := by rw [firI_eq (by omega)] at hf; exact hdB_ne hf
      refine beh_kd h1 ?_ ho
      unfold betB at hb
      obtain ⟨q, hq⟩ := Option.isSome_iff_exists.1 hb
      have := btI_lt _ _ _ hq
      unfold betW betL
      rw [hq, List.length_take, List.length_drop]; omega
theorem ixB_lt {d : UInt8} {l : List UInt8} (h : ixC d l ≥ 0) : (ixC d l).toNat < l.length := (ix_app (c := 0) (t := []) h).2
theorem coc_kd {w r l : List UInt8} (hr : 1 ≤ r.length) (hl : w.length + r.length = l.length) (ho : (cocP w r).ok = true) : Kd (cocP w r) l := by
  unfold cocP at ho ⊢
  cases hb : cocB r with
  | false => rw [hb] at ho; cases ho
  | true =>
    have hi : ixC 93 (cut1 r) ≥ 0 := by
      unfold cocB at hb
      simp only [Bool.and_eq_true] at hb
      exact of_decide_eq_true hb.1
    have hlt := ixB_lt hi
    have c1 : colN lxo r = (cut1 r).take (ixC 93 (cut1 r)).toNat := by
      show bcond (decide (ixC 93 (cut1 r) ≥ 0)) _ _ = _
      rw [decide_eq_true hi]; rfl
    have c2 : lxo.c2 (cut1 r) = (cut1 r).drop ((ixC 93 (cut1 r)).toNat + 1) := by
      show bcond (decide (ixC 93 (cut1 r) ≥ 0)) _ _ = _
      rw [decide_eq_true hi]; rfl
    have hc : (cut1 r).length = r.length - 1 := by rw [cut1_eq, List.length_drop]
    refine kd_other (x := col1 lxo w r) (k := 9) rfl (by omega) (fun _ => ?_) (by omega) (by omega) (by omega) (by omega) (by omega) (by omega) (by omega) (fun _ => ⟨?_, ?_⟩)
    · show (w ++ [91] ++ colN lxo r ++ [93]).length + (lxo.c2 (cut1 r)).length = _
      rw [c1, c2]
      simp only [List.length_append, List.length_cons, List.length_nil, List.length_take, List.length_drop]
      omega
    · show 1 ≤ (w ++ [91] ++ colN lxo r ++ [93]).length
      simp only [List.length_append, List.length_cons, List.length_nil]; omega
    · show byteAt (w ++ [91] ++ colN lxo r ++ [93]) ((w ++ [91] ++ colN lxo r ++ [93]).length - 1) = 93
      generalize w ++ [91] ++ colN lxo r = z
      have e : (z ++ [93]).length - 1 = z.length := by simp
      rw [e]
      exact byteAt_here (c := 93) (t := []) z
theorem pln_kd {w r l : List UInt8} (hw : hdB (byB fstB) w = true) (hl : w.length + r.length = l.length) (ho : (plnP w r).ok = true) : Kd (plnP w r) l := by
  unfold plnP at ho ⊢
  cases h1 : refB w with
  | true => exact kd_other (x := w5 w r) (k := 5) rfl (by omega) (fun _ => hl) (by omega) (by omega) (by omega) (fun _ => h1) (by omega) (by omega) (by omega) (by omega)
  | false =>
    rw [h1] at ho
    cases h2 : truB w with
    | true =>
      refine kd_other (x := w3 lxo w r) (k := 3) rfl (by omega) (fun _ => ?_) (by omega) (fun _ => ?_) (by omega) (by omega) (by omega) (by omega) (by omega) (by omega)
      · show (w.map upB).length + r.length = _
        rw [up_len]; exact hl
      · unfold truB at h2
        show w.map upB = _ ∨ w.map upB = _
        simpa [Bool.or_eq_true] using h2
    | false =>
      rw [h2] at ho
      exact kd_other (x := w6 lxo w r) (k := 6) rfl (by omega) (fun _ => hl) (by omega) (by omega) (by omega) (by omega) (fun _ => ⟨ho, h1, hw⟩) (by omega) (by omega) (by omega)
theorem wor_kd {l : List UInt8} (h5 : hdB (byB fstB) l = true) (ho : (worP l).ok = true) : Kd (worP l) l := by
  have hl := tdw_len (byB wrdB) l
  have hw : hdB (byB fstB) (l.takeWhile (byB wrdB)) = true := by
    cases l with
    | nil => cases h5
    | cons b r => rw [List.takeWhile_cons, if_pos (show byB wrdB b = true from fst_wrd h5)]; exact h5
  unfold worP at ho ⊢
  generalize l.takeWhile (byB wrdB) = w at hl hw ho
  generalize l.dropWhile (byB wrdB) = r at hl ho
  unfold worQ at ho ⊢
  cases h1 : firI r == 33 with
  | true =>
    rw [h1] at ho
    rw [firI_eq (by omega)] at h1
    exact beh_kd (hdB_ne h1) hl ho
  | false =>
    rw [h1] at ho
    cases h2 : firI r == 40 with
    | true =>
      rw [h2] at ho
      rw [firI_eq (by omega)] at h2
      cases h3 : decide (w.length ≤ 30) && !conB 36 w with
      | true => exact kd_other (x := w7 w r) (k := 7) rfl (by omega) (fun _ => hl) (by omega) (by omega) (by omega) (by omega) (by omega) (fun _ => h2) (by omega) (by omega)
      | false => rw [h3] at ho; exact pln_kd hw hl ho
    | false =>
      rw [h2] at ho
      cases h3 : firI r == 91 && namB w with
      | true =>
        rw [h3] at ho
        simp only [Bool.and_eq_true] at h3
        have h4 := h3.1
        rw [firI_eq (by omega)] at h4
        exact coc_kd (hdB_ne h4) hl ho
      | false => rw [h3] at ho; exact pln_kd hw hl ho
theorem sgs_kd {l : List UInt8} (ho : (sgsP l).ok = true) : Kd (sgsP l) l := by
  have k : ∀ n : Int, n.toNat ≤ l.length → (n.toNat = 1 ∨ n.toNat = 2) → Kd (sg1 n l) l := fun n hn h12 => by
    have e1 : (tkN n l).length = n.toNat := by unfold tkN; rw [List.length_take, List.length_drop]; omega
    refine kd_other (k := 8) rfl (by omega) (fun _ => ?_) (by omega) (by omega) (by omega) (by omega) (by omega) (by omega) (fun _ => ?_) (by omega)
    · show (tkN n l).length + (List.take _ (List.drop _ l)).length = _
      rw [e1, List.length_take, List.length_drop]; omega
    · show (tkN n l).length = 1 ∨ (tkN n l).length = 2
      rw [e1]; exact h12
  unfold sgsP at ho ⊢
  cases c2 : decide (2 ≤ l.length) && sgL.contains (l.take 2) with
  | true =>
    simp only [Bool.and_eq_true, decide_eq_true_eq] at c2
    exact k 2 c2.1 (.inr rfl)
  | false =>
    rw [c2] at ho
    cases c1 : decide (1 ≤ l.length) && sgL.contains (l.take 1) with
    | true =>
      simp only [Bool.and_eq_true, decide_eq_true_eq] at c1
      exact k 1 c1.1 (.inl rfl)
    | false => rw [c1] at ho; cases ho
/-- What is known of a piece. -/
theorem pc_kd {l : List UInt8} (ho : (pcF l).ok = true) : Kd (pcF l) l := by
  unfold pcF at ho ⊢
  rw [firI_p low_dig, firI_eq (by omega), firI_eq (by omega), firI_eq (by omega), firI_p low_fst] at ho ⊢
  cases h1 : hdB (byB digB) l with
  | true => rw [h1] at ho; exact num_kd h1 ho
  | false =>
    rw [h1] at ho
    cases h2 : hdB (fun b => (b.toNat : Int) == 34) l with
    | true => rw [h2] at ho; exact txt_kd ho
    | false =>
      rw [h2] at ho
      cases h3 : hdB (fun b => (b.toNat : Int) == 35) l with
      | true => rw [h3] at ho; exact fau_kd ho
      | false =>
        rw [h3] at ho
        cases h4 : hdB (fun b => (b.toNat : Int) == 39) l with
        | true => rw [h4] at ho; exact quo_kd ho
        | false =>
          rw [h4] at ho
          cases h5 : hdB (byB fstB) l with
          | true => rw [h5] at ho; exact wor_kd h5 ho
          | false => rw [h5] at ho; exact sgs_kd ho
/-- A bracket is a sign. -/
theorem pc_br (t : List UInt8) : pcF (40 :: t) = ⟨8, [40], true, t⟩ := by
  unfold pcF
  rw [firI_p low_dig, firI_eq (by omega), firI_eq (by omega), firI_eq (by omega), firI_p low_fst]
  have h1 : hdB (byB digB) (40 :: t) = false := by show byB digB 40 = false; decide
  have h2 : hdB (fun b => (b.toNat : Int) == 34) (40 :: t) = false := rfl
  have h3 : hdB (fun b => (b.toNat : Int) == 35) (40 :: t) = false := rfl
  have h4 : hdB (fun b => (b.toNat : Int) == 39) (40 :: t) = false := rfl
  have h5 : hdB (byB fstB) (40 :: t) = false := by show byB fstB 40 = false; decide
  rw [h1, h2, h3, h4, h5]
  show sgsP (40 :: t) = _
  unfold sgsP
  have c2 : (decide (2 ≤ (40 :: t).length) && sgL.contains ((40 :: t).take 2)) = false := by
    cases t with
    | nil => rfl
    | cons b t =>
      have : sgL.contains [40, b] = false := by
        refine Bool.eq_false_iff.2 fun e => ?_
        have : ∀ x ∈ sgL, x.length = 2 → x.head? ≠ some 40 := by decide
        exact this _ (List.contains_iff_mem.1 e) rfl rfl
      show (_ && sgL.contains [40, b]) = false
      rw [this, Bool.and_false]
  have c1 : (decide (1 ≤ (40 :: t).length) && sgL.contains ((40 :: t).take 1)) = true := by
    show (decide (1 ≤ (40 :: t).length) && sgL.contains [40]) = true
    rw [decide_eq_true (by simp)]; rfl
  rw [c2, c1]
  show sg1 1 (40 :: t) = _
  unfold sg1 tkN
  simp
end Go.Proofs.YtebieapmoaaahaaGreatDoor

/- Layer 4: what is known of the pieces of a text, one by one. Plain mathematics. -/
set_option linter.unusedVariables false
set_option linter.unusedSimpArgs false
namespace Go.Proofs.YtebieapmoaaahaaGreatDoor
open Go Sx
theorem beq_f {a b : Int} (h : a ≠ b) : (a == b) = false := beq_eq_false_iff_ne.2 h
end Go.Proofs.YtebieapmoaaahaaGreatDoor

/- Layer 4: a word alone, and with a bracket behind it: plain mathematics. -/
set_option linter.unusedVariables false
set_option linter.unusedSimpArgs false
namespace Go.Proofs.YtebieapmoaaahaaGreatDoor
open Go Sx
/-- A word: its bytes; its first one. -/
structure IsW (w : List UInt8) : Prop where
  all : ∀ b ∈ w, byB wrdB b = true
  hd : hdB (byB fstB) w = true
  len : w.length ≤ 12
end Go.Proofs.YtebieapmoaaahaaGreatDoor

/- Layer 4: the chapter's examples. -/
set_option linter.unusedVariables false
namespace Go.Proofs.YtebieapmoaaahaaGreatDoor
open Go Sx
set_option maxRecDepth 1000000
def tabW (T : LxT) (O : LxO) : Tab := (17, eTok T) :: (14, oNam O) :: (59, oRep O) :: (84, oPre O) :: tab0
theorem tabW_ok : TabOK Tryz.prog (tabW lxt lxo) := .cons tokens_ok (.cons isName_ok (.cons repAll_ok (.cons pre_ok tab0_ok)))
theorem examples_ok : EntOK Tryz.prog 10 eTrue := fun args pre => by
  unfold eTrue
  split
  · exact ans_comes (lv := nolv) tabW_ok (by unfold Comes; kernel_rfl)
  · trivial
end Go.Proofs.YtebieapmoaaahaaGreatDoor

/- Layer 4: are two lists of pieces the same, but for places? The contract. -/
set_option linter.unusedVariables false
set_option linter.unusedSimpArgs false
namespace Go.Proofs.YtebieapmoaaahaaGreatDoor
open Go Sx
theorem same_comes (A B : List (List CV)) : Comes tab0 (lvSm A B) 18 [.vec 0 A.length, .vec 1 B.length] [tokO A, tokO B] (.br ((A.length : Int) != (B.length : Int)) (.ret (.bool false) [tokO A, tokO B])
    (.br (eqSt (stSm A.length B.length A B 0) (stSm A.length B.length A B 0)) (.br (Nat.beq A.length B.length) (.br (decide (A.length ≤ 1000)) (.br (samR A B) (.ret (.bool true) [tokO A, tokO B]) (.ret (.bool false) [tokO A, tokO B])) .fail) .fail) .fail)) := by unfold Comes; kernel_rfl
theorem same_nil : Comes tab0 nolv 18 [.nilslice, .nilslice] [] (.ret (.bool true) []) := by unfold Comes; kernel_rfl
noncomputable def lvNo : FuncId → Lv := lvOf 18 (fun _ => some [0, 1, 4, 5]) (oneL 4 (eAt 0 (stSm 0 0 [] [] 0) (.chk false (.out .ret (smOut 0 0 [] [])))))
theorem lansNo {x : Code} {K : Nat} {t : PState} {a : LAns} : LAnsOK Tryz.prog x K t (.chk false a) := by
  unfold LAns.chk
  exact ⟨fun h => absurd h (by decide), fun _ => trivial⟩
theorem lvNo_ok : LvOK Tryz.prog lvNo := lvOne_ok (x := loopSm) Tryz.func18 (by kernel_rfl) fun K t => eAt_ok lansNo K t
theorem same_vn (n : Nat) (A : List (List CV)) : Comes tab0 lvNo 18 [.vec 0 n, .nilslice] [tokO A] (.br ((n : Int) != 0) (.ret (.bool false) [tokO A]) .fail) := by unfold Comes; kernel_rfl
theorem same_nv (n : Nat) (A : List (List CV)) : Comes tab0 nolv 18 [.nilslice, .vec 0 n] [tokO A] (.br ((0 : Int) != (n : Int)) (.ret (.bool false) [tokO A]) (.ret (.bool true) [tokO A])) := by unfold Comes; kernel_rfl
theorem int_ne {n : Nat} (h : Nat.blt 0 n = true) : ((n : Int) != 0) = true ∧ ((0 : Int) != (n : Int)) = true := by
  have : 0 < n := by simpa using h
  exact ⟨bne_iff_ne.2 (by omega), bne_iff_ne.2 (by omega)⟩
theorem same_ok : EntOK Tryz.prog 18 (eSm smf) := fun args pre => by
  unfold eSm
  split
  · exact ans_comes tab0_ok same_nil
  · rename_i n A t
    refine ⟨fun g => ⟨fun g2 => ?_, fun _ => trivial⟩, fun _ => trivial⟩
    obtain rfl := Nat.eq_of_beq_eq_true g
    refine of_run (ans_comes tab0_ok (same_vn n A) lvNo_ok) fun r h => ?_
    rw [← h]
    simp only [Ans.run]
    rw [bcT (int_ne g2).1]
  · rename_i n A t
    refine ⟨fun g => ⟨fun g2 => ?_, fun _ => trivial⟩, fun _ => trivial⟩
    obtain rfl := Nat.eq_of_beq_eq_true g
    refine of_run (ans_comes tab0_ok (same_nv n A)) fun r h => ?_
    rw [← h]
    simp only [Ans.run]
    rw [bcT (int_ne g2).2]
  · rename_i n m A t B u
    refine ⟨fun g1 => ⟨fun g2 => ⟨fun g3 => ⟨fun g4 => ⟨fun g5 => ?_, fun _ => trivial⟩, fun _ => trivial⟩, fun _ => trivial⟩, fun _ => trivial⟩, fun _ => trivial⟩
    obtain rfl := Nat.eq_of_beq_eq_true g1
    obtain rfl := Nat.eq_of_beq_eq_true g2
    obtain rfl := Nat.eq_of_beq_eq_true g3
    obtain rfl := Nat.eq_of_beq_eq_true g4
    refine of_run (ans_comes tab0_ok (same_comes A B) (lvSm_ok A B)) fun r h => ?_
    rw [← h]
    simp only [Ans.run, smf]
    by_cases hl : A.length = B.length
    · rw [bcF (b := (A.length : Int) != (B.length : Int)) (by rw [hl]; simp), bcT (eqSt_refl _), bcT (by rw [hl]; exact Nat.beq_refl _), bcT g5]
      cases samR A B <;> rfl
    · rw [bcT (b := (A.length : Int) != (B.length : Int)) (bne_iff_ne.2 (by omega))]
      have : samR A B = false := Bool.eq_false_iff.2 fun e => hl (by have := congrArg List.length (beq_iff_eq.1 e); simpa using this)
      rw [this]
  · trivial
end Go.Proofs.YtebieapmoaaahaaGreatDoor

/- Layer 4: the law of joins. -/
set_option linter.unusedVariables false
set_option linter.unusedSimpArgs false
namespace Go.Proofs.YtebieapmoaaahaaGreatDoor
open Go Sx
def roomT (n : Nat) : Bool := decide (2 * n * 32 ≤ 281474976710656 ∧ 2 * n < 9223372036854775808)
-- mathematics
theorem roomT_ok {n : Nat} (h : n ≤ 1000) : roomT n = true := decide_eq_true (by omega)
theorem tokL_len (s : List UInt8) : (tokL s).length ≤ 200 := by
  have key : ∀ (n : Nat) (l : List UInt8), (pcs n l).1.length ≤ l.length := by
    intro n
    induction n with
    | zero => intro l; exact Nat.zero_le _
    | succ n ih =>
      intro l
      have hb := blD_le l
      rw [pcs_succ]
      by_cases he : blD l = []
      · rw [if_pos he]; exact Nat.zero_le _
      · rw [if_neg he]
        by_cases ho : (pcF (blD l)).ok = true
        · have hl := pc_less ho
          have := ih (pcF (blD l)).r
          rw [if_pos ho, List.length_cons]; omega
        · rw [if_neg ho]; exact Nat.zero_le _
  unfold tokL
  by_cases hs : s.length > 200
  · rw [if_pos hs]; exact Nat.zero_le _
  · rw [if_neg hs]
    split
    · have := key s.length s
      rw [List.length_map]; unfold tokP; omega
    · exact Nat.zero_le _
end Go.Proofs.YtebieapmoaaahaaGreatDoor

/- Layer 4: the law of kinds: the loop. -/
set_option linter.unusedVariables false
set_option linter.unusedSimpArgs false
namespace Go.Proofs.YtebieapmoaaahaaGreatDoor
open Go Sx
def tabK (T : LxT) (O : LxO) (F : RdF) : Tab := (10, eTrue) :: (17, eTok T) :: (20, entRd 1000000 F.v F.e) :: tabX O
def aR (A : List (List CV)) (i : Int) : Int := (rowCV (Sx.rowAt A i.toNat) 2).n
abbrev W (i : Int) : Int := IntKind.i64.wrap i
abbrev b2 (i : Int) (n : Nat) (A : List (List CV)) : List Bool := [bR i n, rR i A]
def sqA : Code → Code
  | .seq a _ => a
  | c => c
def sqB : Code → Code
  | .seq _ b => b
  | c => c
def blB : Code → Code
  | .block _ b => b
  | c => c
end Go.Proofs.YtebieapmoaaahaaGreatDoor

/- Layer 4: the law of kinds: a round, in parts. -/
set_option linter.unusedVariables false
set_option linter.unusedSimpArgs false
namespace Go.Proofs.YtebieapmoaaahaaGreatDoor
open Go Sx
end Go.Proofs.YtebieapmoaaahaaGreatDoor

/- Layer 4: the law of kinds. -/
set_option linter.unusedVariables false
set_option linter.unusedSimpArgs false
namespace Go.Proofs.YtebieapmoaaahaaGreatDoor
open Go Sx
-- mathematics
theorem at_row {L : List Tk} {i : Nat} {t : Tk} (h : L[i]? = some t) : kR (L.map Tk.row) i = t.k ∧ sR (L.map Tk.row) i = t.s ∧ aR (L.map Tk.row) i = t.a := by
  have e : Sx.rowAt (L.map Tk.row) ((i : Int)).toNat = t.row := by
    unfold Sx.rowAt; rw [Int.toNat_natCast, List.getD_eq_getElem?_getD, List.getElem?_map, h]; rfl
  unfold kR sR aR
  rw [e]
  exact ⟨rfl, rfl, rfl⟩
theorem b2_ok {L : List Tk} {i : Nat} (h : i < L.length) : ∀ b ∈ b2 (i : Int) L.length (L.map Tk.row), b = true := by
  intro b hb
  simp only [List.mem_cons, List.not_mem_nil, or_false] at hb
  rcases hb with rfl | rfl
  · exact decide_eq_true (by omega)
  · unfold rR; rw [Bool.and_true, Bool.and_true]; exact decide_eq_true (by simpa using h)
theorem all_app {a b : List Bool} (h1 : ∀ x ∈ a, x = true) (h2 : ∀ x ∈ b, x = true) : ∀ x ∈ a ++ b, x = true := fun x hx => (List.mem_append.1 hx).elim (h1 x) (h2 x)
theorem all_one {b : Bool} (h : b = true) : ∀ x ∈ [b], x = true := fun x hx => by rw [List.mem_singleton.1 hx]; exact h
-- the loop
theorem tri_blockN {x : Code} {s s1 : AState} {id K : Nat} (h : Tri Tryz.prog x s .normal s1 K) : Tri Tryz.prog (.block id x) s .normal s1 K := fun ro w0 M E a w hro hR => by
  refine wpIn_block (wpIn_mono (h ro w0 M E a w hro hR) ?_)
  rintro e a' w' ⟨rfl, E', hle, h'⟩
  exact ⟨rfl, E', hle, h'⟩
theorem tri_seqX {a b : Code} {s s1 : AState} {ex : Ex} {K : Nat} (hne : ex ≠ .normal) (h : Tri Tryz.prog a s ex s1 K) : Tri Tryz.prog (.seq a b) s ex s1 K := fun ro w0 M E ac w hro hR => by
  refine wpIn_seq (wpIn_mono (h ro w0 M E ac w (no_left hro) hR) ?_)
  rintro e a' w' ⟨rfl, E', hle, h'⟩
  cases ex with
  | normal => exact absurd rfl hne
  | exit id => exact ⟨rfl, E', hle, h'⟩
  | ret => exact ⟨rfl, E', hle, h'⟩
theorem no_loops {x : Code} {K : Nat} : LoopsOK Tryz.prog {} K x := fun x hx id e h1 h2 => by cases h2
/-- So many statements, then the rest, in parts. -/
theorem tri_cut {H : Hd (Ex × PState)} (hH : HOK Tryz.prog H) {K NF m n : Nat} {c : Code} {kn kx : Nat → Bool} {s st : PState} {ex : Ex} {s2 : AState}
    (h1 : runsC H Tryz.prog {} K NF m (endK K NF kn kx) n c s = some (.normal, st)) (h2 : Tri Tryz.prog (restC n c) st.toA ex s2 K) : Tri Tryz.prog c s.toA ex s2 K := by
  rcases runsC_sound hH n c no_loops s h1 with ⟨ex1, s1, hne, t1, hk⟩ | ⟨s1, t1, hk⟩
  · exfalso
    cases ex1 with
    | normal => exact hne rfl
    | exit id => simp [endK] at hk
    | ret => simp [endK] at hk
  · simp only [endK, Option.map_eq_some_iff, Prod.mk.injEq] at hk
    obtain ⟨t, hc, _, rfl⟩ := hk
    exact t1 _ _ (Tri.preRen hc h2)
-- the law
end Go.Proofs.YtebieapmoaaahaaGreatDoor

/- Layer 4: the law of places: rounds, in parts. -/
set_option linter.unusedVariables false
set_option linter.unusedSimpArgs false
namespace Go.Proofs.YtebieapmoaaahaaGreatDoor
open Go Sx
def lpB : Code → Code
  | .loop b => b
  | c => c
section
variable (T : LxT) (n : Nat) (a : List UInt8) (A : List (List CV)) (e i k : Int)
end
end Go.Proofs.YtebieapmoaaahaaGreatDoor
