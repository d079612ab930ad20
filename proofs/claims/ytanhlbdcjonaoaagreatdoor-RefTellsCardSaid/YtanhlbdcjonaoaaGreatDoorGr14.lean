/- Layer 2: the column of any letters. -/
import Derived.Test.YtanhlbdcjonaoaaGreatDoorGr07
import Derived.Laws.RangeString
import Derived.Shelf.Strconv.AtoiAll
import Derived.Test.YtanhlbdcjonaoaaGreatDoorGr13
import Derived.Test.YtanhlbdcjonaoaaGreatDoorRdT
import Derived.Test.YtanhlbdcjonaoaaGreatDoorRbE
set_option linter.unusedVariables false
set_option linter.unusedSimpArgs false
namespace Go.Proofs.YtanhlbdcjonaoaaGreatDoor
open Go Sx

def tabRc : Tab := (40, eGreat) :: tabL
theorem tabRc_ok : TabOK Tryz.prog tabRc := .cons great_ok tabL_ok
def rcW (n c : Int) : Int := IntKind.i64.wrap (IntKind.i64.wrap (IntKind.i64.wrap (n * 26) + IntKind.i64.wrap (IntKind.i32.wrap (c - 65))) + 1)
def fin18x (n : Int) : PState := ⟨none :: none :: none :: none :: some (.int .i64 n) :: List.replicate 24 none, List.replicate 64 none⟩
def fin18r (n : Int) : PState := ⟨none :: none :: some (.int .i64 0) :: some (.int .i64 20) :: some (.int .i64 n) :: List.replicate 24 none, List.replicate 64 none⟩
theorem round18 (u : List UInt8) (n : Int) (p : Nat) : code (ent (R := Ex × PState) Tryz.prog tabRc nolv 64 18446744073709551616 30) Tryz.prog {} 0 64 18446744073709551616 ((loopBodies (bodyOf Tryz.f11)).headD .skip) (st18 u n p) (endK 0 64 (fun n => hasN [4, 9] n) (fun n => hasN [2, 3, 4] n)) =
    bcond (decide (p < u.length)) (bcond (!letB (runeAt u p)) (some (.ret, fin18r n)) (bcond (decide (rcW n (runeAt u p) > 52)) (some (.ret, fin18r (rcW n (runeAt u p)))) (some (.normal, st18 u (rcW n (runeAt u p)) (p + (Utf8.decode ⟨u.toArray⟩ p).2)))))
      (some (.exit 0, fin18x n)) := by kernel_rfl

/-- Great letters as a number: whether it stays at most 52, and the last one. -/
def rcR : Nat → List UInt8 → Bool × Nat
  | n, [] => (true, n)
  | n, c :: l => bcond (Nat.ble (n * 26 + (c.toNat - 65) + 1) 52) (rcR (n * 26 + (c.toNat - 65) + 1) l) (false, n * 26 + (c.toNat - 65) + 1)
def capB (c : UInt8) : Bool := Nat.ble 65 c.toNat && Nat.ble c.toNat 90
theorem cap_iff {c : UInt8} : capB c = true ↔ 65 ≤ c.toNat ∧ c.toNat ≤ 90 := by unfold capB; rw [Bool.and_eq_true, bleT, bleT]
def res18 (r : Bool × Nat) : Ex × PState := bcond r.1 (.exit 0, fin18x (r.2 : Int)) (.ret, fin18r (r.2 : Int))
theorem loop18 (u : List UInt8) (hu : u.all capB = true) : Tri Tryz.prog (.loop ((loopBodies (bodyOf Tryz.f11)).headD .skip)) (st18 u 0 0).toA (res18 (rcR 0 u)).1 (res18 (rcR 0 u)).2.toA 0 := by
  have key := loop_rounds (ι := { q : Nat × Nat // q.1 ≤ u.length ∧ q.2 ≤ 52 }) (ent_sound (NF := 64) (m := 18446744073709551616) tabRc_ok host nolv_ok 30) (x := (loopBodies (bodyOf Tryz.f11)).headD .skip) (K := 0) (lv := {}) (NF := 64) (m := 18446744073709551616) (fun x hx id e h1 h2 => by cases h2) (fun n => hasN [4, 9] n) (fun n => hasN [2, 3, 4] n) (fun q => st18 u (q.1.2 : Int) q.1.1) (fun q => u.length - q.1.1) (fun q => res18 (rcR q.1.2 (u.drop q.1.1))) ?_ (fun q => by
      simp only [res18]; cases (rcR q.1.2 (u.drop q.1.1)).1 <;> simp [bcond]) ⟨(0, 0), Nat.zero_le _, Nat.zero_le _⟩
  · exact key
  rintro ⟨⟨p, n⟩, hp, hn⟩
  simp only at hp hn ⊢
  rw [round18]
  by_cases h : p < u.length
  · have hc := cap_iff.1 (List.all_eq_true.1 hu _ (List.getElem_mem h))
    have hs : p < (⟨u.toArray⟩ : ByteArray).size := by simpa [ByteArray.size] using h
    have hd := Go.decode_ascii ⟨u.toArray⟩ p hs (by show (u.toArray[p]'(by simpa using h)).toNat < 128; simp; omega)
    have hr : runeAt u p = (u[p].toNat : Int) := by unfold runeAt; rw [hd]; rfl
    have hw : (Utf8.decode ⟨u.toArray⟩ p).2 = 1 := by rw [hd]
    have hW : rcW (n : Int) (u[p].toNat : Int) = ((n * 26 + (u[p].toNat - 65) + 1 : Nat) : Int) := by
      unfold rcW
      rw [i32_in (by omega) (by omega), i64_in (n := (n : Int) * 26) (by omega) (by omega), i64_in (n := (u[p].toNat : Int) - 65) (by omega) (by omega), i64_in (n := (n : Int) * 26 + ((u[p].toNat : Int) - 65)) (by omega) (by omega), i64_in (by omega) (by omega)]
      omega
    have hl : (!letB (u[p].toNat : Int)) = false := by
      unfold letB
      rw [decide_eq_true (show (65 ≤ (u[p].toNat : Int) ∧ (u[p].toNat : Int) ≤ 90) ∨ _ from .inl ⟨by omega, by omega⟩)]; rfl
    rw [hr, hw, hW, hl, bcT (b := decide (p < u.length)) (decide_eq_true h), bcF rfl, List.drop_eq_getElem_cons h, rcR]
    generalize hm : n * 26 + (u[p].toNat - 65) + 1 = m
    by_cases h1 : m ≤ 52
    · rw [bcF (b := decide ((m : Int) > 52)) (decide_eq_false (by omega)), bcT (b := Nat.ble m 52) (bleT.2 h1)]
      exact .inl ⟨⟨(p + 1, m), h, h1⟩, by simp only; omega, rfl, rfl⟩
    · rw [bcT (b := decide ((m : Int) > 52)) (decide_eq_true (by omega)), bcF (b := Nat.ble m 52) (Bool.eq_false_iff.2 fun e => h1 (bleT.1 e))]
      exact .inr rfl
  · right
    have : p = u.length := by omega
    subst this
    rw [bcF (b := decide _) (decide_eq_false (by omega)), List.drop_length]
    rfl

def e18 : Nat → PState → LAns := fun K t => match K, t with
  | 0, ⟨none :: none :: none :: none :: some (.int .i64 n) :: none :: none :: none :: none :: some (.ptr 0 0) :: rs, some (.raw (.iter u 0)) :: rm⟩ =>
    .chk (nonesV 19 rs) (.chk (nonesB 64 rm) (.chk (decide (n = 0)) (.chk (u.all capB) (.br (rcR 0 u).1 (.out (.exit 0) (fin18x ((rcR 0 u).2 : Int))) (.out .ret (fin18r ((rcR 0 u).2 : Int)))))))
  | _, _ => .fail
def lv18 : FuncId → Lv := fun f => match f with
  | 11 => { keep := fun _ => some [4, 9], ent := fun i => match i with | 3 => some e18 | _ => none }
  | _ => {}
theorem lv18_ok : LvOK Tryz.prog lv18 := by
  intro f fn body hf hb K x hx id e hid he t
  by_cases h : f = 11
  · subst h
    obtain rfl : fn = Tryz.f11 := (Option.some.inj (Tryz.func11.symm.trans hf)).symm
    have hbody : body = bodyOf Tryz.f11 := by unfold bodyOf; rw [hb]; rfl
    subst hbody
    have h1 : loopBodies (bodyOf Tryz.f11) = [(loopBodies (bodyOf Tryz.f11)).headD .skip] := by kernel_rfl
    rw [h1] at hx
    have hx' := List.mem_singleton.1 hx
    have h2 : id = 3 := by
      have h3 : headReg ((loopBodies (bodyOf Tryz.f11)).headD .skip) = some 3 := by kernel_rfl
      rw [hx', h3] at hid; exact (Option.some.inj hid).symm
    subst h2
    have he' : e18 = e := Option.some.inj he
    subst he'
    rw [hx']
    clear hx hx' hid he hb hf h1
    unfold e18
    split
    · rename_i n rs u rm
      refine ⟨fun g1 => ⟨fun g2 => ⟨fun g3 => ⟨fun g4 => ?_, fun _ => trivial⟩, fun _ => trivial⟩, fun _ => trivial⟩, fun _ => trivial⟩
      have g3 := of_decide_eq_true g3
      subst g3
      rw [nonesV_eq _ _ g1, nonesB_eq _ _ g2]
      have := loop18 u g4
      refine ⟨fun hc => ?_, fun hc => ?_⟩
      · unfold res18 at this; rw [bcT hc] at this; exact this
      · unfold res18 at this; rw [bcF hc] at this; exact this
    · trivial
  · exfalso
    have : (lv18 f).ent id = none := by
      unfold lv18
      split
      · exact absurd rfl h
      · rfl
    rw [this] at he; cases he
/-- The column of some letters, less one, and the error. -/
def rcG (l : List UInt8) : Int × Int := bcond ((rcR 0 (l.map upB)).1 && !(Nat.beq (rcR 0 (l.map upB)).2 0)) (((rcR 0 (l.map upB)).2 : Int) - 1, 0) (0, 20)
def letsB (l : List UInt8) : Bool := Nat.ble l.length 1000000 && l.all fun c => letB c.toNat
theorem up_cap {c : UInt8} (h : letB c.toNat = true) : capB (upB c) = true := by
  unfold letB at h
  have h := of_decide_eq_true h
  rw [cap_iff]
  unfold upB
  by_cases h1 : 97 ≤ c.toNat ∧ c.toNat ≤ 122
  · rw [bcT (decide_eq_true h1), UInt8.toNat_ofNat']; omega
  · rw [bcF (decide_eq_false h1)]; omega
theorem rcR_le : ∀ (l : List UInt8) (n : Nat), n ≤ 52 → (rcR n l).2 ≤ 100000000
  | [], n, h => by simp only [rcR]; omega
  | c :: l, n, h => by
    have hc : c.toNat < 256 := UInt8.toNat_lt _
    simp only [rcR]
    cases h1 : Nat.ble (n * 26 + (c.toNat - 65) + 1) 52 with
    | true => exact rcR_le l _ (bleT.1 h1)
    | false => simp only [bcond]; omega
theorem rcR_ok : ∀ (l : List UInt8) (n : Nat), n ≤ 52 → (rcR n l).1 = true → (rcR n l).2 ≤ 52
  | [], n, h, _ => h
  | c :: l, n, h, hr => by
    simp only [rcR] at hr ⊢
    cases h1 : Nat.ble (n * 26 + (c.toNat - 65) + 1) 52 with
    | true => rw [h1] at hr; exact rcR_ok l _ (bleT.1 h1) hr
    | false => rw [h1] at hr; cases hr
def eRCg : Ent := fun args pre => match args, pre with
  | [.str l], [] => .chk (letsB l) (.ret (.tuple [.int .i64 (rcG l).1, .int .i64 (rcG l).2]) [])
  | _, _ => .fail
theorem readColG_ok : EntOK Tryz.prog 11 eRCg := fun args pre => by
  unfold eRCg
  split
  · rename_i l
    have e : Comes tabRc lv18 11 [.str l] [] (.chk (decide (l.length ≤ 1000000)) (.chk (decide ((0 : Int) = 0)) (.chk ((l.map upB).all capB) (.br (rcR 0 (l.map upB)).1 (.br (((rcR 0 (l.map upB)).2 : Int) == 0) (.ret (.tuple [.int .i64 0, .int .i64 20]) []) (.ret (.tuple [.int .i64 (IntKind.i64.wrap (((rcR 0 (l.map upB)).2 : Int) - 1)), .int .i64 0]) []))
      (.ret (.tuple [.int .i64 0, .int .i64 20]) []))))) := by unfold Comes; kernel_rfl
    refine of_run (ans_comes tabRc_ok e lv18_ok) fun r h => ?_
    obtain ⟨h1, h⟩ := chk_run h
    unfold letsB at h1
    rw [Bool.and_eq_true] at h1
    have hcap : (l.map upB).all capB = true := by
      rw [List.all_map]
      exact List.all_eq_true.2 fun c hc => up_cap (List.all_eq_true.1 h1.2 c hc)
    rw [← h]
    simp only [Ans.run, Ans.chk]
    rw [bcT (b := decide (l.length ≤ 1000000)) (decide_eq_true (bleT.1 h1.1)), bcT (b := decide True) (decide_eq_true trivial), bcT hcap]
    unfold rcG
    have hle := rcR_le (l.map upB) 0 (Nat.zero_le _)
    generalize rcR 0 (l.map upB) = x at *
    obtain ⟨b, n⟩ := x
    simp only at hle ⊢
    cases b with
    | false => rfl
    | true =>
      cases n with
      | zero => rfl
      | succ n =>
        rw [i64_in (by omega) (by omega)]
        have hz : (((n + 1 : Nat) : Int) == 0) = false := beq_eq_false_iff_ne.2 (by omega)
        simp only [hz]
        rfl
  · trivial
end Go.Proofs.YtanhlbdcjonaoaaGreatDoor

/- strconv.Atoi by the library's own contract, laid over this program in plain words. -/
set_option linter.unusedVariables false
set_option linter.unusedSimpArgs false
namespace Go.Proofs.YtanhlbdcjonaoaaGreatDoor
open Go Sx Go.Shelf
set_option maxRecDepth 100000
def atoRen : Ren := ⟨fun | 129 => 106 | 171 => 46 | 172 => 62 | 205 => 100 | 243 => 66 | 244 => 73 | 245 => 74 | 246 => 77 | 247 => 80 | 279 => 81 | 280 => 82 | 281 => 83 | 282 => 84 | 283 => 89 | 284 => 90 | 285 => 91 | 286 => 92 | 287 => 98 | 316 => 99 | 317 => 105 | 318 => 107 | 319 => 108 | 320 => 109 | 321 => 112 | 322 => 113 | 337 => 115 | 338 => 116 | n => n, fun | 0 => 0 | 2 => 2 | 3 => 3 | 4 => 4 | 5 => 5 | 9 => 9 | 20 => 20 | 21 => 21 | 37 => 71 | 46 => 116 | 51 => 126 | 53 => 106 | 75 => 75 | 76 => 76 | 80 => 80 | 85 => 97 | 127 => 88 | 143 => 133 | 145 => 135 | 167 => 96 | 168 => 99 | 171 => 105 | 173 => 109 | 175 => 119 | 210 => 122 | 212 => 125 | 213 => 127 | 232 => 138 | 233 => 139 | n => n, fun | 15 => 3 | 16 => 4 | 17 => 5 | 18 => 6 | 19 => 7 | n => n⟩
theorem layA : Lays.n172 Tryz.prog atoRen := {
  mixed := by kernel_rfl,
  f129 := Tryz.func106.trans (congrArg some (by kernel_rfl)),
  f171 := Tryz.func46.trans (congrArg some (by kernel_rfl)),
  f172 := Tryz.func62.trans (congrArg some (by kernel_rfl)),
  f205 := Tryz.func100.trans (congrArg some (by kernel_rfl)),
  f243 := Tryz.func66.trans (congrArg some (by kernel_rfl)),
  f244 := Tryz.func73.trans (congrArg some (by kernel_rfl)),
  f245 := Tryz.func74.trans (congrArg some (by kernel_rfl)),
  f246 := Tryz.func77.trans (congrArg some (by kernel_rfl)),
  f247 := Tryz.func80.trans (congrArg some (by kernel_rfl)),
  f279 := Tryz.func81.trans (congrArg some (by kernel_rfl)),
  f280 := Tryz.func82.trans (congrArg some (by kernel_rfl)),
  f281 := Tryz.func83.trans (congrArg some (by kernel_rfl)),
  f282 := Tryz.func84.trans (congrArg some (by kernel_rfl)),
  f283 := Tryz.func89.trans (congrArg some (by kernel_rfl)),
  f284 := Tryz.func90.trans (congrArg some (by kernel_rfl)),
  f285 := Tryz.func91.trans (congrArg some (by kernel_rfl)),
  f286 := Tryz.func92.trans (congrArg some (by kernel_rfl)),
  f287 := Tryz.func98.trans (congrArg some (by kernel_rfl)),
  f316 := Tryz.func99.trans (congrArg some (by kernel_rfl)),
  f317 := Tryz.func105.trans (congrArg some (by kernel_rfl)),
  f318 := Tryz.func107.trans (congrArg some (by kernel_rfl)),
  f319 := Tryz.func108.trans (congrArg some (by kernel_rfl)),
  f320 := Tryz.func109.trans (congrArg some (by kernel_rfl)),
  f321 := Tryz.func112.trans (congrArg some (by kernel_rfl)),
  f322 := Tryz.func113.trans (congrArg some (by kernel_rfl)),
  f337 := Tryz.func115.trans (congrArg some (by kernel_rfl)),
  f338 := Tryz.func116.trans (congrArg some (by kernel_rfl)),
  t0 := Tryz.underlying0,
  a0 := Tryz.isAgg0,
  z0 := Tryz.sizeOf0,
  v0 := Tryz.zeroValue0,
  t2 := Tryz.underlying2,
  a2 := Tryz.isAgg2,
  z2 := Tryz.sizeOf2,
  v2 := Tryz.zeroValue2,
  t3 := Tryz.underlying3,
  a3 := Tryz.isAgg3,
  z3 := Tryz.sizeOf3,
  v3 := Tryz.zeroValue3,
  t4 := Tryz.underlying4,
  a4 := Tryz.isAgg4,
  z4 := Tryz.sizeOf4,
  v4 := Tryz.zeroValue4,
  t5 := Tryz.underlying5,
  a5 := Tryz.isAgg5,
  z5 := Tryz.sizeOf5,
  v5 := Tryz.zeroValue5,
  t9 := Tryz.underlying9,
  a9 := Tryz.isAgg9,
  z9 := Tryz.sizeOf9,
  v9 := Tryz.zeroValue9,
  t20 := Tryz.underlying20,
  a20 := Tryz.isAgg20,
  z20 := Tryz.sizeOf20,
  v20 := Tryz.zeroValue20,
  t21 := Tryz.underlying21,
  a21 := Tryz.isAgg21,
  z21 := Tryz.sizeOf21,
  v21 := Tryz.zeroValue21,
  t37 := Tryz.underlying71,
  a37 := Tryz.isAgg71,
  z37 := Tryz.sizeOf71,
  v37 := Tryz.zeroValue71,
  t46 := Tryz.underlying116,
  a46 := Tryz.isAgg116,
  z46 := Tryz.sizeOf116,
  v46 := Tryz.zeroValue116,
  t51 := Tryz.underlying126,
  a51 := Tryz.isAgg126,
  z51 := Tryz.sizeOf126,
  v51 := Tryz.zeroValue126,
  t53 := Tryz.underlying106,
  a53 := Tryz.isAgg106,
  z53 := Tryz.sizeOf106,
  v53 := Tryz.zeroValue106,
  t75 := Tryz.underlying75,
  a75 := Tryz.isAgg75,
  z75 := Tryz.sizeOf75,
  v75 := Tryz.zeroValue75,
  t76 := Tryz.underlying76,
  a76 := Tryz.isAgg76,
  z76 := Tryz.sizeOf76,
  v76 := Tryz.zeroValue76,
  t85 := Tryz.underlying97,
  a85 := Tryz.isAgg97,
  z85 := Tryz.sizeOf97,
  v85 := Tryz.zeroValue97,
  t127 := Tryz.underlying88,
  a127 := Tryz.isAgg88,
  z127 := Tryz.sizeOf88,
  v127 := Tryz.zeroValue88,
  t143 := Tryz.underlying133,
  a143 := Tryz.isAgg133,
  z143 := Tryz.sizeOf133,
  v143 := Tryz.zeroValue133,
  t145 := Tryz.underlying135,
  a145 := Tryz.isAgg135,
  z145 := Tryz.sizeOf135,
  v145 := Tryz.zeroValue135,
  t167 := Tryz.underlying96,
  a167 := Tryz.isAgg96,
  z167 := Tryz.sizeOf96,
  v167 := Tryz.zeroValue96,
  t168 := Tryz.underlying99,
  a168 := Tryz.isAgg99,
  z168 := Tryz.sizeOf99,
  v168 := Tryz.zeroValue99,
  t171 := Tryz.underlying105,
  a171 := Tryz.isAgg105,
  z171 := Tryz.sizeOf105,
  v171 := Tryz.zeroValue105,
  t173 := Tryz.underlying109,
  a173 := Tryz.isAgg109,
  z173 := Tryz.sizeOf109,
  v173 := Tryz.zeroValue109,
  t175 := Tryz.underlying119,
  a175 := Tryz.isAgg119,
  z175 := Tryz.sizeOf119,
  v175 := Tryz.zeroValue119,
  t210 := Tryz.underlying122,
  a210 := Tryz.isAgg122,
  z210 := Tryz.sizeOf122,
  v210 := Tryz.zeroValue122,
  t212 := Tryz.underlying125,
  a212 := Tryz.isAgg125,
  z212 := Tryz.sizeOf125,
  v212 := Tryz.zeroValue125,
  t213 := Tryz.underlying127,
  a213 := Tryz.isAgg127,
  z213 := Tryz.sizeOf127,
  t232 := Tryz.underlying138,
  a232 := Tryz.isAgg138,
  z232 := Tryz.sizeOf138,
  v232 := Tryz.zeroValue138,
  t233 := Tryz.underlying139,
  a233 := Tryz.isAgg139,
  z233 := Tryz.sizeOf139,
  v233 := Tryz.zeroValue139,
  g15 := by kernel_rfl,
  g16 := by kernel_rfl,
  g17 := by kernel_rfl,
  g18 := by kernel_rfl,
  g19 := by kernel_rfl }
theorem layB : LaysM.n172 Tryz.prog atoRen := { layA with
  t80 := Tryz.underlying80,
  a80 := Tryz.isAgg80,
  z80 := Tryz.sizeOf80,
  v80 := Tryz.zeroValue80,
  i0 := by kernel_rfl,
  i2 := by kernel_rfl,
  i3 := by kernel_rfl,
  i4 := by kernel_rfl,
  i5 := by kernel_rfl,
  i9 := by kernel_rfl,
  i20 := by kernel_rfl,
  i21 := by kernel_rfl,
  i37 := by kernel_rfl,
  i46 := by kernel_rfl,
  i51 := by kernel_rfl,
  i53 := by kernel_rfl,
  i75 := by kernel_rfl,
  i76 := by kernel_rfl,
  i80 := by kernel_rfl,
  i85 := by kernel_rfl,
  i127 := by kernel_rfl,
  i143 := by kernel_rfl,
  i145 := by kernel_rfl,
  i167 := by kernel_rfl,
  i168 := by kernel_rfl,
  i171 := by kernel_rfl,
  i173 := by kernel_rfl,
  i175 := by kernel_rfl,
  i210 := by kernel_rfl,
  i212 := by kernel_rfl,
  i232 := by kernel_rfl,
  i233 := by kernel_rfl,
  m15 := by kernel_rfl,
  m16 := by kernel_rfl,
  m17 := by kernel_rfl,
  m18 := by kernel_rfl,
  m19 := by kernel_rfl }
theorem layAtoi : LaysC.n172 Tryz.prog atoRen := { layB with
  c0 := by kernel_rfl,
  c2 := by kernel_rfl,
  c3 := by kernel_rfl,
  c4 := by kernel_rfl,
  c5 := by kernel_rfl,
  c9 := by kernel_rfl,
  c20 := by kernel_rfl,
  c21 := by kernel_rfl,
  c37 := by kernel_rfl,
  c46 := by kernel_rfl,
  c51 := by kernel_rfl,
  c53 := by kernel_rfl,
  c75 := by kernel_rfl,
  c76 := by kernel_rfl,
  c80 := by kernel_rfl,
  c85 := by kernel_rfl,
  c127 := by kernel_rfl,
  c143 := by kernel_rfl,
  c145 := by kernel_rfl,
  c167 := by kernel_rfl,
  c168 := by kernel_rfl,
  c171 := by kernel_rfl,
  c173 := by kernel_rfl,
  c175 := by kernel_rfl,
  c210 := by kernel_rfl,
  c212 := by kernel_rfl,
  c213 := by kernel_rfl,
  c232 := by kernel_rfl,
  c233 := by kernel_rfl }
end Go.Proofs.YtanhlbdcjonaoaaGreatDoor

/- strconv.Atoi as an entry: the number, or an error that is not nil. -/
set_option linter.unusedVariables false
set_option linter.unusedSimpArgs false
namespace Go.Proofs.YtanhlbdcjonaoaaGreatDoor
open Go Sx Go.Shelf

def atoB (l : List UInt8) : Bool := match Lib.atoiAll l with | .ok _ => true | _ => false
def atoV (l : List UInt8) : Int := match Lib.atoiAll l with | .ok v => v | .range => Lib.atoiSat l | _ => 0
def eAtoi : Ent := fun args pre => match args, pre with
  | [.str l], [] => .chk (decide (l.length ≤ 1000000)) (.br (atoB l) (.ret (.tuple [.int .i64 (atoV l), .niliface]) []) (.ret (.tuple [.int .i64 (atoV l), .iface 99 (.ptr 0 0)]) [.raw .dead]))
  | _, _ => .fail
theorem ato_bad {w : World} {E : Env} {l : List UInt8} {v : Int} (hp : PreR E w []) {cs : Value × Value × Value}
    (h : Calls Tryz.prog 62 #[.string ⟨l.toArray⟩] w fun e w' => ∃ N, e = .returned (.tuple #[.int .i64 v, .iface 99 (.pointer (some ⟨N, 0, none⟩))]) ∧ w.heap.size ≤ N ∧ w'.heap[N]? = some (.cells #[cs.1, cs.2.1, cs.2.2] 122 (0, 0)) ∧ RowKit.Below w.heap.size w w') :
    Does Tryz.prog 62 #[.string ⟨l.toArray⟩] w fun e w' => ∃ E' x, e = .returned x ∧ den E' (.tuple [.int .i64 v, .iface 99 (.ptr 0 0)]) = some x ∧ PostR E E' w w' [] [.dead] := by
  refine .inl ⟨62, _, Tryz.call62 _ _, h.mono ?_⟩
  rintro e w' ⟨N, rfl, hN, hc, hb⟩
  have hE : ∀ m, E m = none := fun m => hp.fresh m (Nat.zero_le _)
  refine ⟨E.set 0 (N, { n := 0 }), _, rfl, by simp [den, denL, Env.set_same], {
    le := .set (hE 0)
    cut := fun m hm => by rw [Env.set_other _ _ (by simp at hm; omega)]; exact hE m
    objs := fun m o hm => by
      cases m with
      | succ m => simp at hm
      | zero => simp at hm; subst hm; exact ⟨_, _, Env.set_same _ _ _, trivial⟩
    made := fun m b c o _ hm hEm ht' => by
      cases m with
      | succ m => simp at hm
      | zero => rw [Env.set_same] at hEm; cases hEm; exact .inl hN
    keep := fun j hj _ => hb.block j hj
    newApart := fun m m' o o' b c b' c' _ _ hm hm' _ _ _ _ hne => by
      cases m with
      | succ m => simp at hm
      | zero => cases m' with
        | succ m' => simp at hm'
        | zero => exact absurd rfl hne
    grow := hb.size, os := hb.os, tape := hb.tape, output := hb.output }⟩
theorem atoi_ok : EntOK Tryz.prog 62 eAtoi := fun args pre => by
  unfold eAtoi
  split
  · rename_i l
    refine ⟨fun hl => ?_, fun _ => trivial⟩
    have hl := of_decide_eq_true hl
    unfold atoB atoV
    refine ⟨fun hb => ?_, fun hb => ?_⟩
    · rcases hx : Lib.atoiAll l with v | _ | _
      · skip
        intro w E vs hvs hp
        obtain ⟨x, zs, hx', hz, rfl⟩ := denL_cons.1 hvs
        simp only [denL, Option.some.injEq] at hz
        subst hz
        obtain rfl : x = .string ⟨l.toArray⟩ := by simpa [den] using hx'.symm
        have hc := Any.strconv_Atoi_ok layAtoi ⟨l.toArray⟩ (by simp [ByteArray.size]; omega) v (by simpa using hx) w
        refine .inl ⟨62, _, Tryz.call62 _ _, hc.mono ?_⟩
        rintro e w' ⟨rfl, hw⟩
        have hbl : RowKit.Below w.heap.size w w' := by
          rcases hw with rfl | ⟨t, rfl⟩
          · exact RowKit.Below.refl _ _
          · exact Lib.bytesWorld_below _ _ _
        exact ⟨E, _, rfl, rfl, ⟨.refl _, hp.fresh, fun n o h => by simp at h, fun n b c o _ h => by simp at h, fun k hk _ => hbl.block k hk, fun n m o o' b c b' c' _ _ h => by simp at h, hbl.size, hbl.os, hbl.tape, hbl.output⟩⟩
      · rw [hx] at hb; cases hb
      · rw [hx] at hb; cases hb
    · rcases hx : Lib.atoiAll l with v | _ | _
      · rw [hx] at hb; cases hb
      · skip
        intro w E vs hvs hp
        obtain ⟨x, zs, hx', hz, rfl⟩ := denL_cons.1 hvs
        simp only [denL, Option.some.injEq] at hz
        subst hz
        obtain rfl : x = .string ⟨l.toArray⟩ := by simpa [den] using hx'.symm
        obtain ⟨te, pe, hv⟩ := hp.glob.err (g := 3) rfl
        exact ato_bad hp (cs := (_, _, _)) (Any.strconv_Atoi_syntax layAtoi ⟨l.toArray⟩ (by simp [ByteArray.size]; omega) (by simpa using hx) _ w hv (.inr ⟨te, pe, rfl⟩))
      · skip
        intro w E vs hvs hp
        obtain ⟨x, zs, hx', hz, rfl⟩ := denL_cons.1 hvs
        simp only [denL, Option.some.injEq] at hz
        subst hz
        obtain rfl : x = .string ⟨l.toArray⟩ := by simpa [den] using hx'.symm
        obtain ⟨te, pe, hv⟩ := hp.glob.err (g := 4) rfl
        exact ato_bad hp (cs := (_, _, _)) (Any.strconv_Atoi_range layAtoi ⟨l.toArray⟩ (by simp [ByteArray.size]; omega) (by simpa using hx) _ w hv (.inr ⟨te, pe, rfl⟩))
  · trivial
end Go.Proofs.YtanhlbdcjonaoaaGreatDoor

/- Layer 2: RefName makes right names. -/
set_option linter.unusedVariables false
set_option linter.unusedSimpArgs false
namespace Go.Proofs.YtanhlbdcjonaoaaGreatDoor
open Go Sx

def sgI (l : List UInt8) (p : Nat) : Int := ((signN (List.take (l.length - (p : Int).toNat) (List.drop (p : Int).toNat l)) : Nat) : Int)
def nxI (l : List UInt8) (p : Nat) : Int := IntKind.i64.wrap ((p : Int) + (if 1 > sgI l p then 1 else sgI l p))
def pcI (l : List UInt8) (p : Nat) : List UInt8 := List.take ((nxI l p).toNat - (p : Int).toNat) (List.drop (p : Int).toNat l)
def st25 (u l o : List UInt8) (i : Int) : PState := ⟨some (.str l) :: none :: some (.str u) :: some (.str o) :: some (.int .i64 i) :: List.replicate 35 none, List.replicate 64 none⟩
def fin25 (u l o : List UInt8) : PState := ⟨some (.str l) :: none :: some (.str u) :: some (.str o) :: none :: List.replicate 35 none, List.replicate 64 none⟩

theorem round25 (u l o : List UInt8) (p : Nat) : code (ent Tryz.prog tab8 nolv 64 1 1) Tryz.prog {} 0 64 1 ((loopBodies (bodyOf Tryz.f29)).headD .skip) (st25 u l o p) (endK 0 64 (fun n => hasN [0, 2, 3, 4] n) (fun n => hasN [0, 2, 3] n)) =
    bcond (decide ((p : Int) < (l.length : Int))) (bcond (decide ((o.length : Int) < 20)) (bcond (decide (0 ≤ (p : Int) ∧ (p : Int).toNat ≤ l.length)) (bcond (decide (0 ≤ (p : Int) ∧ 0 ≤ nxI l p ∧ (p : Int).toNat ≤ (nxI l p).toNat ∧ (nxI l p).toNat ≤ l.length))
      (bcond (decide (o.length + (pcI l p).length ≤ 9223372036854775807)) (bcond (decide ((o ++ pcI l p).length ≤ 9223372036854775807)) (bcond (nameB (o ++ pcI l p)) (some (.normal, st25 u l (o ++ pcI l p) (nxI l p))) (some (.normal, st25 u l o (nxI l p)))) none) none) none) none) (some (.exit 0, fin25 u l o))) (some (.exit 0, fin25 u l o)) := by kernel_rfl

theorem signN_four (l : List UInt8) : signN l ≤ 4 := by
  unfold signN
  repeat' split
  all_goals omega
def nmB (l : List UInt8) : Nat → Nat → List UInt8 → List UInt8
  | 0, _, o => o
  | n + 1, p, o => bcond (decide (p < l.length)) (bcond (decide (o.length < 20)) (bcond (nameB (o ++ pcI l p)) (nmB l n (nxI l p).toNat (o ++ pcI l p)) (nmB l n (nxI l p).toNat o)) o) o
theorem nx_facts (l : List UInt8) (p : Nat) (hl : l.length ≤ 9223372036854775807) (hp : p < l.length) : ∃ k : Nat, nxI l p = ((p + k : Nat) : Int) ∧ 1 ≤ k ∧ k ≤ 4 ∧ p + k ≤ l.length ∧ (pcI l p).length ≤ 4 := by
  have ht : List.take (l.length - (p : Int).toNat) (List.drop (p : Int).toNat l) = List.drop p l := by
    rw [Int.toNat_natCast]; exact List.take_of_length_le (by simp)
  have hk := signN_le (l.drop p)
  have h4 := signN_four (l.drop p)
  rw [List.length_drop] at hk
  have hs : sgI l p = ((signN (l.drop p) : Nat) : Int) := by unfold sgI; rw [ht]
  have key : ∃ k : Nat, nxI l p = ((p + k : Nat) : Int) ∧ 1 ≤ k ∧ k ≤ 4 ∧ p + k ≤ l.length := by
    unfold nxI
    rw [hs]
    generalize signN (l.drop p) = s at *
    by_cases c : (1 : Int) > (s : Int)
    · rw [if_pos c, i64_in (by omega) (by omega)]
      exact ⟨1, by omega, by omega, by omega, by omega⟩
    · rw [if_neg c, i64_in (by omega) (by omega)]
      exact ⟨s, by omega, by omega, by omega, by omega⟩
  obtain ⟨k, h1, h2, h3, h5⟩ := key
  refine ⟨k, h1, h2, h3, h5, ?_⟩
  unfold pcI
  rw [h1, List.length_take]
  omega

theorem loop25 (u l o : List UInt8) (hl : l.length ≤ 9223372036854775807) : Tri Tryz.prog (.loop ((loopBodies (bodyOf Tryz.f29)).headD .skip)) (st25 u l o 0).toA (.exit 0) (fin25 u l (nmB l l.length 0 o)).toA 0 := by
  refine loop_rounds (ι := { q : Nat × Nat × List UInt8 // l.length ≤ q.1 + q.2.1 }) (ent_sound (NF := 64) (m := 1) tab8_ok host nolv_ok 1) (lv := {}) (NF := 64) (m := 1) (fun x hx id e h1 h2 => by cases h2) (fun n => hasN [0, 2, 3, 4] n) (fun n => hasN [0, 2, 3] n) (fun q => st25 u l q.1.2.2 (q.1.1 : Int)) (fun q => q.1.2.1) (fun q => (.exit 0, fin25 u l (nmB l q.1.2.1 q.1.1 q.1.2.2))) ?_ (fun q => by simp) ⟨(0, l.length, o), by simp⟩
  rintro ⟨⟨p, n, o⟩, hq⟩
  simp only at hq ⊢
  rw [round25]
  cases n with
  | zero => exact .inr (by rw [bcF (b := decide ((p : Int) < (l.length : Int))) (decide_eq_false (by omega))]; rfl)
  | succ n =>
    simp only [nmB]
    by_cases h1 : p < l.length
    · rw [bcT (b := decide ((p : Int) < (l.length : Int))) (decide_eq_true (by omega)), bcT (b := decide (p < l.length)) (decide_eq_true h1)]
      by_cases h2 : o.length < 20
      · rw [bcT (b := decide ((o.length : Int) < 20)) (decide_eq_true (by omega)), bcT (b := decide (o.length < 20)) (decide_eq_true h2)]
        obtain ⟨k, e1, e2, e3, e4, e5⟩ := nx_facts l p hl h1
        rw [bcT (b := decide (0 ≤ (p : Int) ∧ (p : Int).toNat ≤ l.length)) (decide_eq_true (by omega)), bcT (b := decide (0 ≤ (p : Int) ∧ 0 ≤ nxI l p ∧ (p : Int).toNat ≤ (nxI l p).toNat ∧ (nxI l p).toNat ≤ l.length)) (decide_eq_true (by rw [e1]; omega)),
          bcT (b := decide (o.length + (pcI l p).length ≤ 9223372036854775807)) (decide_eq_true (by omega)), bcT (b := decide ((o ++ pcI l p).length ≤ 9223372036854775807)) (decide_eq_true (by rw [List.length_append]; omega))]
        rw [e1, Int.toNat_natCast]
        cases nameB (o ++ pcI l p) with
        | true => exact .inl ⟨⟨(p + k, n, o ++ pcI l p), by simp only; omega⟩, by simp, rfl, rfl⟩
        | false => exact .inl ⟨⟨(p + k, n, o), by simp only; omega⟩, by simp, rfl, rfl⟩
      · exact .inr (by rw [bcF (b := decide ((o.length : Int) < 20)) (decide_eq_false (by omega)), bcF (b := decide (o.length < 20)) (decide_eq_false h2)])
    · exact .inr (by rw [bcF (b := decide ((p : Int) < (l.length : Int))) (decide_eq_false (by omega)), bcF (b := decide (p < l.length)) (decide_eq_false h1)])

def e25 : Nat → PState → LAns := fun K t => match K, t with
  | 0, ⟨some (.str l) :: none :: some (.str u) :: some (.str o) :: some (.int .i64 i) :: rs, rm⟩ =>
    .chk (nonesW 35 rs) (.chk (nonesB 64 rm) (.chk (decide (i = 0)) (.chk (decide (l.length ≤ 9223372036854775807)) (.out (.exit 0) (fin25 u l (nmB l l.length 0 o))))))
  | _, _ => .fail
def lv25 : FuncId → Lv := fun f => match f with
  | 29 => { keep := fun _ => some [0, 2, 3, 4], ent := fun i => match i with | 3 => some e25 | _ => none }
  | _ => {}
theorem lv25_ok : LvOK Tryz.prog lv25 := by
  intro f fn body hf hb K x hx id e hid he t
  by_cases h : f = 29
  · subst h
    obtain rfl : fn = Tryz.f29 := (Option.some.inj (Tryz.func29.symm.trans hf)).symm
    have hbody : body = bodyOf Tryz.f29 := by unfold bodyOf; rw [hb]; rfl
    subst hbody
    have h1 : loopBodies (bodyOf Tryz.f29) = [(loopBodies (bodyOf Tryz.f29)).headD .skip] := by kernel_rfl
    rw [h1] at hx
    have hx' := List.mem_singleton.1 hx
    have h2 : id = 3 := by
      have h3 : headReg ((loopBodies (bodyOf Tryz.f29)).headD .skip) = some 3 := by kernel_rfl
      rw [hx', h3] at hid; exact (Option.some.inj hid).symm
    subst h2
    have he' : e25 = e := Option.some.inj he
    subst he'
    rw [hx']
    clear hx hx' hid he hb hf h1
    unfold e25
    split
    · rename_i l u o i rs rm
      refine ⟨fun g1 => ⟨fun g2 => ⟨fun g3 => ⟨fun g4 => ?_, fun _ => trivial⟩, fun _ => trivial⟩, fun _ => trivial⟩, fun _ => trivial⟩
      rw [nonesW_eq _ _ g1, nonesB_eq _ _ g2, of_decide_eq_true g3]
      exact loop25 u l o (of_decide_eq_true g4)
    · trivial
  · exfalso
    have : (lv25 f).ent id = none := by
      unfold lv25
      split
      · exact absurd rfl h
      · rfl
    rw [this] at he; cases he

def nameS (l : List UInt8) : List UInt8 := bcond (nmB l l.length 0 [] == []) [83] (nmB l l.length 0 [])
theorem nmB_ok (l : List UInt8) : ∀ (n p : Nat) (o : List UInt8), (o = [] ∨ nameB o = true) → (nmB l n p o = [] ∨ nameB (nmB l n p o) = true)
  | 0, p, o, h => h
  | n + 1, p, o, h => by
    simp only [nmB]
    cases decide (p < l.length) with
    | false => exact h
    | true =>
      cases decide (o.length < 20) with
      | false => exact h
      | true =>
        cases c : nameB (o ++ pcI l p) with
        | true => exact nmB_ok l n _ _ (.inr c)
        | false => exact nmB_ok l n _ _ h
theorem nameS_ok (l : List UInt8) : nameB (nameS l) = true := by
  unfold nameS
  by_cases h : nmB l l.length 0 [] = []
  · rw [bcT (beq_iff_eq.2 h)]; decide
  · rw [bcF (beq_eq_false_iff_ne.2 h)]
    rcases nmB_ok l l.length 0 [] (.inl rfl) with h1 | h1
    · exact absurd h1 h
    · exact h1
def eRefName : Ent := fun args pre => match args, pre with
  | [.str l], [] => .chk (decide (l.length ≤ 9223372036854775807)) (.ret (.str (nameS l)) [])
  | _, _ => .fail
theorem refName_ok : EntOK Tryz.prog 29 eRefName := fun args pre => by
  unfold eRefName
  split
  · rename_i l
    have e : Comes tab8 lv25 29 [.str l] [] (.chk (decide (l.length ≤ 9223372036854775807)) (.br (nmB l l.length 0 [] == []) (.ret (.str [83]) []) (.ret (.str (nmB l l.length 0 [])) []))) := by unfold Comes; kernel_rfl
    refine of_run (ans_comes tab8_ok e lv25_ok) fun r h => ?_
    obtain ⟨h1, h⟩ := chk_run h
    rw [← h]
    simp only [Ans.run, Ans.chk, h1, nameS]
    cases (nmB l l.length 0 [] == []) with
    | true => rfl
    | false => rfl
  · trivial

end Go.Proofs.YtanhlbdcjonaoaaGreatDoor

/- Layer 2: references. -/
set_option linter.unusedVariables false
set_option linter.unusedSimpArgs false
namespace Go.Proofs.YtanhlbdcjonaoaaGreatDoor
open Go Sx

structure Rf where
  s : List UInt8
  r : Int
  c : Int
  a : Bool
  b : Bool
  d : Bool
def Rf.v (x : Rf) : AV := .agg [.str x.s, .int .i64 x.r, .int .i64 x.c, .bool x.a, .bool x.b, .bool x.d]
def rightB (x : Rf) : Bool := bcond x.d (x.s == [] && (x.r == 0 && (x.c == 0 && (x.a == false && (x.b == false && (x.d == true && true)))))) (bcond (!(x.s == [])) (sheetB x.s) true && decide (0 ≤ x.r ∧ x.r < 200 ∧ 0 ≤ x.c ∧ x.c < 52))
def tab9 : Tab := (48, eIsSheetP) :: (29, eRefName) :: tab2
theorem tab9_ok : TabOK Tryz.prog tab9 := .cons isSheetP_ok (.cons refName_ok tab2_ok)
def eRight : Ent := fun args pre => match args, pre with
  | [.agg [.str s, .int .i64 r, .int .i64 c, .bool a, .bool b, .bool d]], [] => .ret (.bool (rightB ⟨s, r, c, a, b, d⟩)) []
  | _, _ => .fail
theorem right_ok : EntOK Tryz.prog 16 eRight := fun args pre => by
  unfold eRight
  split
  · rename_i s r c a b d
    have e : Comes tab9 nolv 16 [.agg [.str s, .int .i64 r, .int .i64 c, .bool a, .bool b, .bool d]] []
      (.br d (.ret (.bool (s == [] && (r == 0 && (c == 0 && (a == false && (b == false && (d == true && true))))))) [])
        (.br (!(s == [])) (.br (!sheetB s) (.ret (.bool false) []) (.br (decide (r ≥ 0)) (.br (decide (r < 200)) (.br (decide (c ≥ 0)) (.ret (.bool (decide (c < 52))) []) (.ret (.bool false) [])) (.ret (.bool false) [])) (.ret (.bool false) [])))
          (.br (decide (r ≥ 0)) (.br (decide (r < 200)) (.br (decide (c ≥ 0)) (.ret (.bool (decide (c < 52))) []) (.ret (.bool false) [])) (.ret (.bool false) [])) (.ret (.bool false) [])))) := by unfold Comes; kernel_rfl
    refine of_run (ans_comes tab9_ok e) fun x h => ?_
    rw [← h]
    simp only [Ans.run, rightB]
    have key : ∀ b c : Bool, b = c → pure2 (.bool b) [] = pure2 (.bool c) [] := fun b c e => by rw [e]
    have rest : bcond (decide (r ≥ 0)) (bcond (decide (r < 200)) (bcond (decide (c ≥ 0)) (pure2 (.bool (decide (c < 52))) []) (pure2 (.bool false) [])) (pure2 (.bool false) [])) (pure2 (.bool false) []) = pure2 (.bool (true && decide (0 ≤ r ∧ r < 200 ∧ 0 ≤ c ∧ c < 52))) [] := by
      by_cases c1 : r ≥ 0
      · rw [bcT (decide_eq_true c1)]
        by_cases c2 : r < 200
        · rw [bcT (decide_eq_true c2)]
          by_cases c3 : c ≥ 0
          · rw [bcT (decide_eq_true c3)]; exact key _ _ (by rw [Bool.true_and, decide_eq_decide]; omega)
          · rw [bcF (decide_eq_false c3)]; exact key _ _ (by simp; omega)
        · rw [bcF (decide_eq_false c2)]; exact key _ _ (by simp; omega)
      · rw [bcF (decide_eq_false c1)]; exact key _ _ (by simp; omega)
    cases d with
    | true => rfl
    | false =>
      cases !(s == []) with
      | false => exact rest
      | true =>
        cases sheetB s with
        | false => rfl
        | true => exact rest
  · trivial

/-- RefOf: of a raw reference, one that is right. -/
def refS (x : Rf) : Rf := bcond (x.d && pickS x.r 4 == 0) ⟨[], 0, 0, false, false, true⟩ ⟨bcond (!(x.s == [])) (nameS x.s) [], pickS x.r 200, pickS x.c 52, x.a, x.b, false⟩
theorem refS_right (x : Rf) : rightB (refS x) = true := by
  unfold refS
  cases x.d && pickS x.r 4 == 0 with
  | true => rfl
  | false =>
    have h1 := pickS_bd (a := x.r) (n := 200) (by omega)
    have h2 := pickS_bd (a := x.c) (n := 52) (by omega)
    have h3 := name_sheet (nameS_ok x.s)
    show rightB ⟨bcond (!(x.s == [])) (nameS x.s) [], pickS x.r 200, pickS x.c 52, x.a, x.b, false⟩ = true
    unfold rightB
    simp only [bcond]
    have hd : decide (0 ≤ pickS x.r 200 ∧ pickS x.r 200 < 200 ∧ 0 ≤ pickS x.c 52 ∧ pickS x.c 52 < 52) = true := decide_eq_true (by omega)
    rw [hd, Bool.and_true]
    cases !(x.s == []) with
    | false => rfl
    | true =>
      simp only
      cases !(nameS x.s == []) with
      | true => exact h3
      | false => rfl
def eRefOf : Ent := fun args pre => match args, pre with
  | [.agg [.str s, .int .i64 r, .int .i64 c, .bool a, .bool b, .bool d]], [] => .chk (inI r && inI c && decide (s.length ≤ 9223372036854775807)) (.ret (refS ⟨s, r, c, a, b, d⟩).v [])
  | _, _ => .fail
theorem refOf_ok : EntOK Tryz.prog 6 eRefOf := fun args pre => by
  unfold eRefOf
  split
  · rename_i s r c a b d
    have e : Comes tab9 nolv 6 [.agg [.str s, .int .i64 r, .int .i64 c, .bool a, .bool b, .bool d]] []
      (.br d (.br (inI r && decide ((0 : Int) < 4)) (.br (pickS r 4 == 0) (.ret (.agg [.str [], .int .i64 0, .int .i64 0, .bool false, .bool false, .bool true]) [])
          (.br (inI r && decide ((0 : Int) < 200)) (.br (inI c && decide ((0 : Int) < 52)) (.br (!(s == [])) (.br (decide (s.length ≤ 9223372036854775807)) (.ret (.agg [.str (nameS s), .int .i64 (pickS r 200), .int .i64 (pickS c 52), .bool a, .bool b, .bool false]) []) .fail)
            (.ret (.agg [.str [], .int .i64 (pickS r 200), .int .i64 (pickS c 52), .bool a, .bool b, .bool false]) [])) .fail) .fail)) .fail)
        (.br (inI r && decide ((0 : Int) < 200)) (.br (inI c && decide ((0 : Int) < 52)) (.br (!(s == [])) (.br (decide (s.length ≤ 9223372036854775807)) (.ret (.agg [.str (nameS s), .int .i64 (pickS r 200), .int .i64 (pickS c 52), .bool a, .bool b, .bool false]) []) .fail)
            (.ret (.agg [.str [], .int .i64 (pickS r 200), .int .i64 (pickS c 52), .bool a, .bool b, .bool false]) [])) .fail) .fail)) := by unfold Comes; kernel_rfl
    refine of_run (ans_comes tab9_ok e) fun x h => ?_
    obtain ⟨h1, h⟩ := chk_run h
    simp only [Bool.and_eq_true] at h1
    obtain ⟨⟨k1, k2⟩, k3⟩ := h1
    rw [← h]
    simp only [Ans.run, k1, k2, k3, refS]
    cases d with
    | false => cases !(s == []) <;> rfl
    | true =>
      cases hp : (pickS r 4 == 0) with
      | true => rfl
      | false => cases !(s == []) <;> rfl
  · trivial
def tab10 : Tab := (16, eRight) :: (6, eRefOf) :: tab9
theorem tab10_ok : TabOK Tryz.prog tab10 := .cons right_ok (.cons refOf_ok tab9_ok)

end Go.Proofs.YtanhlbdcjonaoaaGreatDoor

/- Layer 2: areas between references. -/
set_option linter.unusedVariables false
set_option linter.unusedSimpArgs false
namespace Go.Proofs.YtanhlbdcjonaoaaGreatDoor
open Go Sx

def erA (x y : Rf) (n : Int) : Int := bcond (decide (n < 0)) 2 (bcond (decide (n ≥ 8)) 2 (bcond (!rightB x) 20 (bcond (!rightB y) 20 (bcond x.d 20 (bcond y.d 20 0)))))
def arM (x y : Rf) (n : Int) : Ar := ⟨n, min x.r y.r, min x.c y.c, max x.r y.r + 1 - min x.r y.r, max x.c y.c + 1 - min x.c y.c⟩
def arA (x y : Rf) (n : Int) : Ar := bcond (erA x y n == 0) (arM x y n) ⟨0, 0, 0, 0, 0⟩
def eArea : Ent := fun args pre => match args, pre with
  | [.agg [.str s, .int .i64 r, .int .i64 c, .bool a, .bool b, .bool d], .agg [.str s2, .int .i64 r2, .int .i64 c2, .bool a2, .bool b2, .bool d2], .int .i64 n], [] =>
    .ret (.tuple [(arA ⟨s, r, c, a, b, d⟩ ⟨s2, r2, c2, a2, b2, d2⟩ n).v, .int .i64 (erA ⟨s, r, c, a, b, d⟩ ⟨s2, r2, c2, a2, b2, d2⟩ n)]) []
  | _, _ => .fail
def noA (e : Int) : Ans := .ret (.tuple [.agg [.int .i64 0, .int .i64 0, .int .i64 0, .int .i64 0, .int .i64 0], .int .i64 e]) []
theorem right_bd {x : Rf} (h : rightB x = true) (hd : x.d = false) : 0 ≤ x.r ∧ x.r < 200 ∧ 0 ≤ x.c ∧ x.c < 52 := by
  unfold rightB at h
  rw [bcF hd, Bool.and_eq_true, decide_eq_true_eq] at h
  exact h.2
theorem area_ok : EntOK Tryz.prog 20 eArea := fun args pre => by
  unfold eArea
  split
  · rename_i s r c a b d s2 r2 c2 a2 b2 d2 n
    have e : Comes tab10 nolv 20 [.agg [.str s, .int .i64 r, .int .i64 c, .bool a, .bool b, .bool d], .agg [.str s2, .int .i64 r2, .int .i64 c2, .bool a2, .bool b2, .bool d2], .int .i64 n] []
      (.br (decide (n < 0)) (noA 2) (.br (decide (n ≥ 8)) (noA 2) (.br (!rightB ⟨s, r, c, a, b, d⟩) (noA 20) (.br (!rightB ⟨s2, r2, c2, a2, b2, d2⟩) (noA 20) (.br d (noA 20) (.br d2 (noA 20)
        (.ret (.tuple [.agg [.int .i64 n, .int .i64 (if r2 < r then r2 else r), .int .i64 (if c2 < c then c2 else c), .int .i64 (IntKind.i64.wrap (IntKind.i64.wrap ((if r2 > r then r2 else r) + 1) - if r2 < r then r2 else r)),
          .int .i64 (IntKind.i64.wrap (IntKind.i64.wrap ((if c2 > c then c2 else c) + 1) - if c2 < c then c2 else c))], .int .i64 0]) []))))))) := by unfold Comes; kernel_rfl
    refine of_run (ans_comes tab10_ok e) fun x h => ?_
    rw [← h]
    simp only [Ans.run, noA, arA, erA]
    cases h1 : decide (n < 0) with
    | true => rfl
    | false =>
      cases h2 : decide (n ≥ 8) with
      | true => rfl
      | false =>
        cases h3 : rightB ⟨s, r, c, a, b, d⟩ with
        | false => rfl
        | true =>
          cases h4 : rightB ⟨s2, r2, c2, a2, b2, d2⟩ with
          | false => rfl
          | true =>
            cases d with
            | true => rfl
            | false =>
              cases d2 with
              | true => rfl
              | false =>
                have k1 := right_bd h3 rfl
                have k2 := right_bd h4 rfl
                simp only at k1 k2
                simp only [maxI', minI']
                rw [i64_in (n := max r r2 + 1) (by omega) (by omega), i64_in (n := max c c2 + 1) (by omega) (by omega), i64_in (by omega) (by omega), i64_in (by omega) (by omega)]
                rfl
  · trivial
def tab11 : Tab := (20, eArea) :: tab10
theorem tab11_ok : TabOK Tryz.prog tab11 := .cons area_ok tab10_ok

end Go.Proofs.YtanhlbdcjonaoaaGreatDoor

/- Layer 2: references as they come, by a function that is not looked into. -/
set_option linter.unusedVariables false
namespace Go.Proofs.YtanhlbdcjonaoaaGreatDoor
open Go Sx

def entRef (F : Rf → Rf) : Ent := fun args pre => match args, pre with
  | [.agg [.str s, .int .i64 r, .int .i64 c, .bool a, .bool b, .bool d]], [] => .chk (inI r && inI c && decide (s.length ≤ 9223372036854775807)) (.ret (F ⟨s, r, c, a, b, d⟩).v [])
  | _, _ => .fail
def tabF (F : Rf → Rf) : Tab := (6, entRef F) :: tab11
theorem tabF_ok : TabOK Tryz.prog (tabF refS) := .cons refOf_ok tab11_ok

end Go.Proofs.YtanhlbdcjonaoaaGreatDoor

/- Layer 2: what is moved. -/
set_option linter.unusedVariables false
set_option linter.unusedSimpArgs false
namespace Go.Proofs.YtanhlbdcjonaoaaGreatDoor
open Go Sx

def noRf : Rf := ⟨[], 0, 0, false, false, false⟩
def mvR (x : Rf) (m n : Int) : Rf := ⟨x.s, bcond (!x.a) (IntKind.i64.wrap (x.r + m)) x.r, bcond (!x.b) (IntKind.i64.wrap (x.c + n)) x.c, x.a, x.b, x.d⟩
def erM (x : Rf) (m n : Int) : Int := bcond (!rightB x) 20 (bcond x.d 0 (bcond (!rightB (mvR x m n)) 20 0))
def mvO (x : Rf) (m n : Int) : Rf := bcond (!rightB x) noRf (bcond x.d x (bcond (!rightB (mvR x m n)) noRf (mvR x m n)))
def eMoved : Ent := fun args pre => match args, pre with
  | [.agg [.str s, .int .i64 r, .int .i64 c, .bool a, .bool b, .bool d], .int .i64 m, .int .i64 n], [] =>
    .ret (.tuple [(mvO ⟨s, r, c, a, b, d⟩ m n).v, .int .i64 (erM ⟨s, r, c, a, b, d⟩ m n)]) []
  | _, _ => .fail
def noM (x : Rf) : Ans := .br (!rightB x) (.ret (.tuple [noRf.v, .int .i64 20]) []) (.ret (.tuple [x.v, .int .i64 0]) [])
theorem moved_ok : EntOK Tryz.prog 18 eMoved := fun args pre => by
  unfold eMoved
  split
  · rename_i s r c a b d m n
    have e : Comes tab11 nolv 18 [.agg [.str s, .int .i64 r, .int .i64 c, .bool a, .bool b, .bool d], .int .i64 m, .int .i64 n] []
      (.br (!rightB ⟨s, r, c, a, b, d⟩) (.ret (.tuple [noRf.v, .int .i64 20]) []) (.br d (.ret (.tuple [.agg [.str s, .int .i64 r, .int .i64 c, .bool a, .bool b, .bool d], .int .i64 0]) [])
        (.br (!a) (.br (!b) (noM ⟨s, IntKind.i64.wrap (r + m), IntKind.i64.wrap (c + n), a, b, d⟩) (noM ⟨s, IntKind.i64.wrap (r + m), c, a, b, d⟩))
          (.br (!b) (noM ⟨s, r, IntKind.i64.wrap (c + n), a, b, d⟩) (noM ⟨s, r, c, a, b, d⟩))))) := by unfold Comes; kernel_rfl
    refine of_run (ans_comes tab11_ok e) fun x h => ?_
    rw [← h]
    simp only [Ans.run, noM, mvO, erM]
    cases h1 : rightB ⟨s, r, c, a, b, d⟩ with
    | false => rfl
    | true =>
      cases d with
      | true => rfl
      | false =>
        have key : ∀ (z : Rf), z = mvR ⟨s, r, c, a, b, false⟩ m n → bcond (!rightB z) (pure2 (.tuple [noRf.v, .int .i64 20]) []) (pure2 (.tuple [z.v, .int .i64 0]) []) = pure2 (.tuple [Rf.v (bcond (!rightB (mvR ⟨s, r, c, a, b, false⟩ m n)) noRf (mvR ⟨s, r, c, a, b, false⟩ m n)), .int .i64 (bcond (!rightB (mvR ⟨s, r, c, a, b, false⟩ m n)) 20 0)]) [] := fun z hz => by
          rw [← hz]; cases rightB z <;> rfl
        cases a with
        | true =>
          cases b with
          | true =>
            have h2 : rightB (mvR ⟨s, r, c, true, true, false⟩ m n) = true := h1
            rw [h2]; rfl
          | false => exact key _ rfl
        | false =>
          cases b with
          | true => exact key _ rfl
          | false => exact key _ rfl
  · trivial
def tab12 : Tab := (18, eMoved) :: tab11
theorem tab12_ok : TabOK Tryz.prog tab12 := .cons moved_ok tab11_ok
def tabG (F : Rf → Rf) : Tab := (6, entRef F) :: tab12
theorem tabG_ok : TabOK Tryz.prog (tabG refS) := .cons refOf_ok tab12_ok

/-- What is right stays so, if it stays on the sheet. -/
theorem right_iff {x : Rf} (h : rightB x = true) (hd : x.d = false) {r c : Int} {a b : Bool} : rightB ⟨x.s, r, c, a, b, false⟩ = decide (0 ≤ r ∧ r < 200 ∧ 0 ≤ c ∧ c < 52) := by
  unfold rightB at h ⊢
  rw [bcF hd, Bool.and_eq_true] at h
  show (bcond (!(x.s == [])) (sheetB x.s) true && decide (0 ≤ r ∧ r < 200 ∧ 0 ≤ c ∧ c < 52)) = _
  rw [h.1, Bool.true_and]
theorem right_gone {x : Rf} (h : rightB x = true) (hd : x.d = true) : x = ⟨[], 0, 0, false, false, true⟩ := by
  unfold rightB at h
  rw [bcT hd] at h
  simp only [Bool.and_eq_true, beq_iff_eq, Bool.and_true] at h
  obtain ⟨h1, h2, h3, h4, h5, h6⟩ := h
  cases x; simp only at *; subst h1; subst h2; subst h3; subst h4; subst h5; subst h6; rfl

end Go.Proofs.YtanhlbdcjonaoaaGreatDoor

/- Layer 2: the pieces of texts together. -/
set_option linter.unusedVariables false
set_option linter.unusedSimpArgs false
namespace Go.Proofs.YtanhlbdcjonaoaaGreatDoor
open Go Sx

def tabM : Tab := (13, eColumn) :: (11, eReadColumn) :: (46, eItoa) :: (34, eTrim) :: (58, ePlain) :: (35, eRune letB) :: (37, eRune digB) :: tab12
theorem tabM_ok : TabOK Tryz.prog tabM := .cons column_ok (.cons readColumn_ok (.cons itoa_ok (.cons trim_ok (.cons plain_ok (.cons letter_ok (.cons digit_ok tab12_ok))))))
/-- A text out of a text, by a function that is not looked into. -/
def eStr (W : List UInt8 → List UInt8) : Ent := fun args pre => match args, pre with
  | [.str l], [] => .ret (.str (W l)) []
  | _, _ => .fail
def tabW (W : List UInt8 → List UInt8) : Tab := (43, eStr W) :: tabM
end Go.Proofs.YtanhlbdcjonaoaaGreatDoor

/- Layer 2: references, read: any text: the entry. -/
set_option linter.unusedVariables false
set_option linter.unusedSimpArgs false
namespace Go.Proofs.YtanhlbdcjonaoaaGreatDoor
open Go Sx

/-- The row of some digits, less one, and whether there is one. -/
def rrG (l : List UInt8) : Int × Bool := bcond (l.take 1 == [48]) (0, false) (bcond (atoB l && decide (atoV l ≤ 200)) (IntKind.i64.wrap (atoV l - 1), true) (0, false))
def eRRg : Ent := fun args pre => match args, pre with
  | [.str l], [] => .chk (Nat.ble l.length 1000000) (.ret (.tuple [.int .i64 (rrG l).1, .bool (rrG l).2]) [])
  | _, _ => .fail
def tabA : Tab := (62, eAtoi) :: tab0
theorem tabA_ok : TabOK Tryz.prog tabA := .cons atoi_ok tab0_ok
def noRow : Ans := .ret (.tuple [.int .i64 0, .bool false]) []
def ato38 (l : List UInt8) : Ans := .br (decide (l.length ≤ 1000000)) (.br (atoB l) (.br (decide (atoV l > 200)) noRow (.ret (.tuple [.int .i64 (IntKind.i64.wrap (atoV l - 1)), .bool true]) [])) noRow) .fail
theorem readRowG_ok : EntOK Tryz.prog 36 eRRg := fun args pre => by
  unfold eRRg
  split
  · rename_i l
    have e : Comes tabA nolv 36 [.str l] [] (.br (decide ((l.length : Int) ≥ ((1 : Nat) : Int))) (.br (decide (0 ≤ ((1 : Nat) : Int) ∧ (((1 : Nat) : Int)).toNat ≤ l.length)) (.br (List.take ((((1 : Nat) : Int)).toNat - 0) (List.drop 0 l) == [48]) noRow (ato38 l)) .fail) (ato38 l)) := by unfold Comes; kernel_rfl
    refine of_run (ans_comes tabA_ok e) fun r h => ?_
    obtain ⟨h1, h⟩ := chk_run h
    have hl := bleT.1 h1
    rw [← h]
    have key : (bcond (l.take 1 == [48]) (noRow.run pure2) ((ato38 l).run pure2)) = pure2 (.tuple [.int .i64 (rrG l).1, .bool (rrG l).2]) [] := by
      unfold rrG ato38 noRow
      cases l.take 1 == [48] with
      | true => rfl
      | false =>
        simp only [Ans.run]
        rw [bcF rfl, bcT (b := decide (l.length ≤ 1000000)) (decide_eq_true hl)]
        cases atoB l with
        | false => rfl
        | true =>
          by_cases h2 : atoV l ≤ 200
          · rw [bcF (b := decide (atoV l > 200)) (decide_eq_false (by omega)), decide_eq_true h2]; rfl
          · rw [bcT (b := decide (atoV l > 200)) (decide_eq_true (by omega)), decide_eq_false h2]; rfl
    cases l with
    | nil =>
      have hz : decide ((([] : List UInt8).length : Int) ≥ ((1 : Nat) : Int)) = false := by decide
      simp only [Ans.run]
      rw [hz]
      exact key
    | cons c t =>
      have hz : decide (((c :: t).length : Int) ≥ ((1 : Nat) : Int)) = true := decide_eq_true (by simp only [List.length_cons]; omega)
      have hy : decide (0 ≤ ((1 : Nat) : Int) ∧ (((1 : Nat) : Int)).toNat ≤ (c :: t).length) = true := by rw [decide_eq_true_eq]; simp only [List.length_cons]; omega
      simp only [Ans.run] at key ⊢
      rw [hz, bcT rfl, hy, bcT rfl]
      exact key
  · trivial
def lowS (n : Nat) : List UInt8 := (colS n).map (· + 32)
theorem trim_len (f : Int → Bool) (l : List UInt8) : (trimF f l).length ≤ l.length := by
  unfold trimF
  cases (scanF f l l.length 0).isNone with
  | true => simp [bcond]
  | false => simp [bcond]
theorem cqF_len (f : List UInt8 → Bool) : ∀ (n : Nat) (l acc : List UInt8), (cqF f n l acc).2.1.length ≤ l.length
  | 0, l, acc => by simp [cqF]
  | n + 1, l, acc => by
    have hb : (bhd l).length ≤ l.length := by unfold bhd; rw [List.length_drop]; omega
    unfold cqF
    cases decide (ixC 39 l ≥ 0) with
    | false => simp [bcond]
    | true =>
      cases cpB 33 (bhd l) with
      | true => show ((bhd l).drop 1).length ≤ _; rw [List.length_drop]; omega
      | false =>
        cases cpB 39 (bhd l) with
        | false => simp [bcond]
        | true =>
          refine Nat.le_trans (cqF_len f n _ _) ?_
          rw [List.length_drop]; omega
theorem csS_len (l : List UInt8) : (csS l).2.1.length ≤ l.length := by
  unfold csS csF
  cases cpB 39 l with
  | true =>
    refine Nat.le_trans (cqF_len _ _ _ _) ?_
    rw [List.length_drop]; omega
  | false =>
    cases decide (ixC 33 l ≥ 0) with
    | false => exact Nat.le_refl _
    | true => show (l.drop _).length ≤ _; rw [List.length_drop]; omega
theorem trimO_ok : EntOK Tryz.prog 34 (eTrimO (trimF letB) (trimF digB)) := trim_ok
def tabEg : Tab := tabE csS (trimF letB) (trimF digB) letsB rcG (fun l => Nat.ble l.length 1000000) rrG
theorem rc_ent : eRC letsB rcG = eRCg := by
  funext args pre
  unfold eRC eRCg
  rfl
theorem rr_ent : eRR (fun l => Nat.ble l.length 1000000) rrG = eRRg := by
  funext args pre
  unfold eRR eRRg
  rfl
theorem tabEg_ok : TabOK Tryz.prog tabEg := .cons cutSheet_ok (.cons trimO_ok (.cons (rc_ent ▸ readColG_ok) (.cons (rr_ent ▸ readRowG_ok) (.cons cutP_ok tab0_ok))))
/-- A reference's text, read. -/
def readA (l : List UInt8) : AV := readS csS (trimF letB) (trimF digB) rcG rrG l
def colA (l : List UInt8) : List UInt8 := ahd (trimF letB) (colP csS l)
def rowA (l : List UInt8) : List UInt8 := ahd (trimF digB) (rowP csS (trimF letB) l)

/-- What is ahead of what is not so is so. -/
theorem scan_pre {f : Int → Bool} (hf : ∀ c, f c = true → c < 128) (l : List UInt8) : ∀ (n p : Nat), l.length ≤ p + n → ∀ i (hi : i < l.length), p ≤ i → (∀ k, scanF f l n p = some k → i < k) → l[i].toNat < 128 ∧ f l[i].toNat = true
  | 0, p, h, i, hi, hp, _ => by omega
  | n + 1, p, h, i, hi, hp, hk => by
    have hpl : p < l.length := by omega
    simp only [scanF] at hk
    rw [bcT (b := decide (p < l.length)) (decide_eq_true hpl)] at hk
    cases hb : f (runeAt l p) == false with
    | true =>
      have := hk p (by rw [hb]; rfl)
      omega
    | false =>
      rw [hb] at hk
      have hft : f (runeAt l p) = true := by cases h2 : f (runeAt l p) with | true => rfl | false => rw [h2] at hb; cases hb
      have hlow := rune_low hpl (hf _ hft)
      have hasc := rune_asc hpl hlow
      by_cases e : i = p
      · subst e
        exact ⟨hlow, by rw [← hasc.1]; exact hft⟩
      · have hk' : ∀ k, scanF f l n (p + 1) = some k → i < k := fun k hk0 => hk k (by rw [hasc.2]; exact hk0)
        exact scan_pre hf l n (p + 1) (by omega) i hi (by omega) hk'
theorem ahd_all {f : Int → Bool} (hf : ∀ c, f c = true → c < 128) (l : List UInt8) : ∀ c ∈ ahd (trimF f) l, c.toNat < 128 ∧ f c.toNat = true := by
  intro c hc
  unfold ahd at hc
  obtain ⟨i, hi, e⟩ := List.getElem_of_mem hc
  rw [List.length_take] at hi
  have hil : i < l.length := by omega
  have e2 : l[i] = c := by rw [← e, List.getElem_take]
  rw [← e2]
  refine scan_pre hf l l.length 0 (by omega) i hil (Nat.zero_le _) fun k hk => ?_
  have ht : trimF f l = l.drop k := by unfold trimF; rw [hk]; rfl
  rw [ht, List.length_drop] at hi
  omega
theorem let_low (c : Int) (h : letB c = true) : c < 128 := by unfold letB at h; have := of_decide_eq_true h; omega
theorem dig_low (c : Int) (h : digB c = true) : c < 128 := by unfold digB at h; have := of_decide_eq_true h; omega
theorem ahd_len (t : List UInt8 → List UInt8) (R : List UInt8) : (ahd t R).length ≤ R.length := by unfold ahd; rw [List.length_take]; omega
theorem unfix_len (R : List UInt8) : (unfix R).length ≤ R.length := by
  unfold unfix
  cases cpB 36 R with
  | true => simp [bcond]
  | false => simp [bcond]
theorem colP_len (l : List UInt8) : (colP csS l).length ≤ l.length := Nat.le_trans (unfix_len _) (csS_len l)
theorem rowP_len (l : List UInt8) : (rowP csS (trimF letB) l).length ≤ l.length := Nat.le_trans (unfix_len _) (Nat.le_trans (trim_len _ _) (colP_len l))
theorem colA_ok {l : List UInt8} (h : l.length ≤ 1000000) : letsB (colA l) = true := by
  unfold letsB
  rw [Bool.and_eq_true, bleT]
  exact ⟨Nat.le_trans (ahd_len _ _) (Nat.le_trans (colP_len l) h), List.all_eq_true.2 fun c hc => (ahd_all let_low _ c hc).2⟩
theorem rowA_ok {l : List UInt8} (h : l.length ≤ 1000000) : Nat.ble (rowA l).length 1000000 = true :=
  bleT.2 (Nat.le_trans (ahd_len _ _) (Nat.le_trans (rowP_len l) h))
def eRead : Ent := fun args pre => match args, pre with
  | [.str l], [] => .chk (decide (l.length ≤ 1000000)) (.ret (readA l) [])
  | _, _ => .fail
theorem read_ok : EntOK Tryz.prog 9 eRead := fun args pre => by
  unfold eRead
  split
  · rename_i l
    refine of_run (ans_comes tabEg_ok (read_comes _ _ _ _ _ _ _ l)) fun r h => ?_
    obtain ⟨h1, h⟩ := chk_run h
    have hl := of_decide_eq_true h1
    rw [← h]
    exact rdT_run (trim_len letB) (trim_len digB) hl (csS_len l) (colA_ok hl) (rowA_ok hl)
  · trivial
end Go.Proofs.YtanhlbdcjonaoaaGreatDoor

/- Layer 2: what is written, read. -/
set_option linter.unusedVariables false
set_option linter.unusedSimpArgs false
namespace Go.Proofs.YtanhlbdcjonaoaaGreatDoor
open Go Sx

theorem cpB_cons (c x : UInt8) (l : List UInt8) : cpB c (x :: l) = (x == c) := by
  unfold cpB
  show ([x] == [c]) = _
  simp
theorem csS_plain {s r : List UInt8} (h : plainF s s.length 0 = true) : csS (s ++ 33 :: r) = (s, r, sheetB s) := by
  have hb := plain_bytes s.length s 0 (by omega) h
  have h33 : (33 : UInt8) ∉ s := fun hm => by
    obtain ⟨k, hk, e⟩ := List.getElem_of_mem hm
    exact (hb k hk (Nat.zero_le _)).1 e
  have h39 : cpB 39 (s ++ 33 :: r) = false := by
    cases s with
    | nil => rfl
    | cons x s => rw [List.cons_append, cpB_cons]; have := (hb 0 (by simp) (Nat.le_refl _)).2; simpa using this
  have hi := ixC_at 33 s r h33
  unfold csS csF
  rw [h39, bcF rfl, hi, bcT (b := decide ((s.length : Int) ≥ 0)) (decide_eq_true (by omega)), Int.toNat_natCast]
  have e1 : (s ++ 33 :: r).take s.length = s := by simp
  have e2 : (s ++ 33 :: r).drop (s.length + 1) = r := by rw [show s ++ 33 :: r = (s ++ [33]) ++ r by simp]; exact List.drop_left' (by simp)
  rw [e1, e2]
  simp only [h, Bool.true_and]
theorem csS_none {r : List UInt8} (h : (33 : UInt8) ∉ r) (h' : cpB 39 r = false) : csS r = ([], r, true) := by
  unfold csS csF
  rw [h', bcF rfl, ixC_no 33 r h]; rfl
theorem take_ahd (K A : List UInt8) : (K ++ A).take ((K ++ A).length - A.length) = K := by
  have : (K ++ A).length - A.length = K.length := by rw [List.length_append]; omega
  rw [this]; simp
theorem cs_torn : (csS [35, 82, 69, 70, 33]).2.2 = false := by kernel_rfl
theorem readA_tail {l s K D : List UInt8} {a b : Bool} (hcs : csS l = (s, bcond b [36] [] ++ (K ++ (bcond a [36] [] ++ D)), true)) (hK : ∀ x ∈ K, x.toNat < 128 ∧ letB x.toNat = true) (hK0 : K ≠ []) (hD : ∀ x ∈ D, x.toNat < 128 ∧ digB x.toNat = true) (hD0 : D ≠ []) (hC : (rcG K).2 = 0) (hR : (rrG D).2 = true) :
    colA l = K ∧ rowA l = D ∧ readA l = .tuple [.agg [.str s, .int .i64 (rrG D).1, .int .i64 (rcG K).1, .bool a, .bool b, .bool false], .int .i64 0] := by
  obtain ⟨k, K', rfl⟩ := List.exists_cons_of_ne_nil hK0
  obtain ⟨d, D', rfl⟩ := List.exists_cons_of_ne_nil hD0
  have hd := hD d List.mem_cons_self
  have hk := hK k List.mem_cons_self
  have hd36 : (d == 36) = false := by
    rw [beq_eq_false_iff_ne]; intro e; subst e; exact absurd hd.2 (by decide)
  have hk36 : (k == 36) = false := by
    rw [beq_eq_false_iff_ne]; intro e; subst e; exact absurd hk.2 (by decide)
  have hdl : letB d.toNat = false := by
    have := hd.2
    unfold digB at this; unfold letB
    have := of_decide_eq_true this
    exact decide_eq_false (by omega)
  have e1 : cpB 36 (csS l).2.1 = b := by
    rw [hcs]
    cases b with
    | true => rfl
    | false => show cpB 36 (k :: _) = false; rw [cpB_cons, hk36]
  have e2 : colP csS l = k :: K' ++ (bcond a [36] [] ++ d :: D') := by
    unfold colP unfix
    rw [e1, hcs]
    cases b <;> rfl
  have e3 : trimF letB (colP csS l) = bcond a [36] [] ++ d :: D' := by
    rw [e2]
    cases a with
    | true => exact trim_stop (c := 36) (by decide) (by decide) hK
    | false => exact trim_stop (c := d) hd.1 hdl hK
  have e4 : colA l = k :: K' := by
    unfold colA ahd
    rw [e3, e2]
    exact take_ahd _ _
  have e5 : cpB 36 (trimF letB (colP csS l)) = a := by
    rw [e3]
    cases a with
    | true => rfl
    | false => show cpB 36 (d :: _) = false; rw [cpB_cons, hd36]
  have e6 : rowP csS (trimF letB) l = d :: D' := by
    unfold rowP unfix
    rw [e5, e3]
    cases a <;> rfl
  have e7 : trimF digB (rowP csS (trimF letB) l) = [] := by rw [e6]; exact trim_end hD
  have e8 : rowA l = d :: D' := by
    unfold rowA ahd
    rw [e7, e6]; simp
  refine ⟨e4, e8, ?_⟩
  have ht : (l == [35, 82, 69, 70, 33]) = false := by
    rw [beq_eq_false_iff_ne]; intro e
    have := cs_torn
    rw [← e, hcs] at this; cases this
  unfold colA at e4
  unfold rowA at e8
  unfold readA readS
  rw [ht, bcF rfl, e4, e8, e7, e1, e5, hcs, hC, hR]
  rfl
theorem col_bytes : (List.range 52).all (fun n => (colS n).all (fun x => decide (x.toNat < 128) && letB x.toNat) && (lowS n).all (fun x => decide (x.toNat < 128) && letB x.toNat) && !(colS n).isEmpty && !(lowS n).isEmpty) = true := by kernel_rfl
theorem row_bytes : (List.range 200).all (fun n => (rowS (n + 1)).all (fun x => decide (x.toNat < 128) && digB x.toNat) && !(rowS (n + 1)).isEmpty) = true := by kernel_rfl
end Go.Proofs.YtanhlbdcjonaoaaGreatDoor

/- Layer 2: the program's answers and the document's own ones: letters ahead, plain names, names between apostrophes, sheets. -/
set_option linter.unusedVariables false
set_option linter.unusedSimpArgs false
namespace Go.Proofs.YtanhlbdcjonaoaaGreatDoor
open Go Sx

/-! ### Letters, digits ahead -/
theorem bltF {a b : Nat} (h : ¬ a ≤ b) : Nat.ble a b = false := Bool.eq_false_iff.2 fun e => h (bleT.1 e)
theorem scanLt_eq {f : Int → Bool} (hf : ∀ c, f c = true → c < 128) (l : List UInt8) : ∀ (n p : Nat), l.length ≤ p + n → p ≤ l.length → scanF f l n p = bcond (Nat.ble (p + ltF f (l.drop p) + 1) l.length) (some (p + ltF f (l.drop p))) none
  | 0, p, h, hp => by
    have : p = l.length := by omega
    subst this
    rw [bcF (bltF (by omega))]; rfl
  | n + 1, p, h, hp => by
    rw [scanF]
    by_cases h1 : p < l.length
    · rw [bcT (b := decide (p < l.length)) (decide_eq_true h1), List.drop_eq_getElem_cons h1, ltF]
      cases hb : f (runeAt l p) with
      | false =>
        have hz : f (l[p].toNat : Int) = false := by
          cases h2 : f (l[p].toNat : Int) with
          | false => rfl
          | true =>
            have := (rune_asc h1 (by have := hf _ h2; omega)).1
            rw [this, h2] at hb; cases hb
        rw [hz, bcT (b := (false == false)) rfl, bcF (b := false) rfl, bcT (bleT.2 (by omega))]; rfl
      | true =>
        have hlow := rune_low h1 (hf _ hb)
        have hasc := rune_asc h1 hlow
        rw [hasc.1] at hb
        rw [hb, bcF (b := (true == false)) rfl, bcT (b := true) rfl, hasc.2, scanLt_eq hf l n (p + 1) (by omega) h1]
        rw [show p + (ltF f (List.drop (p + 1) l) + 1) = p + 1 + ltF f (List.drop (p + 1) l) by omega]
    · have : p = l.length := by omega
      subst this
      rw [bcF (b := decide (l.length < l.length)) (decide_eq_false h1), bcF (bltF (by omega))]
theorem trim_lt {f : Int → Bool} (hf : ∀ c, f c = true → c < 128) (l : List UInt8) : trimF f l = l.drop (ltF f l) := by
  have h := scanLt_eq hf l l.length 0 (by omega) (Nat.zero_le _)
  rw [List.drop_zero, Nat.zero_add] at h
  have hle := ltF_le f l
  unfold trimF
  rw [h]
  by_cases h1 : ltF f l < l.length
  · rw [bcT (b := Nat.ble (ltF f l + 1) l.length) (bleT.2 h1)]; rfl
  · rw [bcF (b := Nat.ble (ltF f l + 1) l.length) (bltF (by omega)), show ltF f l = l.length by omega, List.drop_length]; rfl
theorem ahd_lt {f : Int → Bool} (hf : ∀ c, f c = true → c < 128) (l : List UInt8) : ahd (trimF f) l = l.take (ltF f l) := by
  have hle := ltF_le f l
  unfold ahd
  rw [trim_lt hf, List.length_drop, show l.length - (l.length - ltF f l) = ltF f l by omega]

/-! ### Plain names -/
theorem pl_eq (l : List UInt8) : ∀ (n p : Nat), l.length ≤ p + n → p ≤ l.length → plainF l n p = plR p (l.drop p)
  | 0, p, h, hp => by
    have : p = l.length := by omega
    subst this
    rw [List.drop_length]; rfl
  | n + 1, p, h, hp => by
    simp only [plainF]
    by_cases h1 : p < l.length
    · rw [bcT (b := decide (p < l.length)) (decide_eq_true h1), List.drop_eq_getElem_cons h1, plR]
      by_cases hlow : l[p].toNat < 128
      · have hasc := rune_asc h1 hlow
        have e : plainAt l p = plOne p l[p] := by
          unfold plainAt plOne
          rw [hasc.1]
          have e2 : ((l[p].toNat : Int) == 95) = (l[p].toNat == 95) := by
            rw [Bool.eq_iff_iff, beq_iff_eq, beq_iff_eq]; omega
          rw [e2]
          cases letB (l[p].toNat : Int) with
          | true => rfl
          | false =>
            cases l[p].toNat == 95 with
            | true => rfl
            | false =>
              cases digB (l[p].toNat : Int) with
              | false => rfl
              | true =>
                cases p with
                | zero => rfl
                | succ p => show decide (((p + 1 : Nat) : Int) > 0) = true; exact decide_eq_true (by omega)
        rw [e, hasc.2, pl_eq l n (p + 1) (by omega) h1]
        cases plOne p l[p] <;> rfl
      · have hr : ¬ runeAt l p < 128 := fun h => hlow (rune_low h1 h)
        have e1 : plainAt l p = false := by
          unfold plainAt
          rw [show letB (runeAt l p) = false by unfold letB; exact decide_eq_false (by omega), show (runeAt l p == 95) = false from beq_eq_false_iff_ne.2 (by omega), show digB (runeAt l p) = false by unfold digB; exact decide_eq_false (by omega)]; rfl
        have e2 : plOne p l[p] = false := by
          unfold plOne
          rw [show letB (l[p].toNat : Int) = false by unfold letB; exact decide_eq_false (by omega), show (l[p].toNat == 95) = false from beq_eq_false_iff_ne.2 (by omega), show digB (l[p].toNat : Int) = false by unfold digB; exact decide_eq_false (by omega)]; rfl
        rw [e1, e2]; rfl
    · have : p = l.length := by omega
      subst this
      rw [bcF (b := decide (l.length < l.length)) (decide_eq_false h1), List.drop_length]; rfl
theorem plain_eq (l : List UInt8) : plainF l l.length 0 = plR 0 l := by
  rw [pl_eq l l.length 0 (by omega) (Nat.zero_le _), List.drop_zero]

/-! ### Up to a sign -/
theorem sk_split : ∀ l : List UInt8, skF l < l.length → l = l.take (skF l) ++ 33 :: l.drop (skF l + 1) ∧ (33 : UInt8) ∉ l.take (skF l)
  | [], h => by simp at h
  | c :: r, h => by
    simp only [skF] at h ⊢
    by_cases hc : c = 33
    · rw [bcT (b := c == 33) (beq_iff_eq.2 hc), hc]; simp
    · rw [bcF (b := c == 33) (beq_eq_false_iff_ne.2 hc)] at h ⊢
      rw [List.length_cons] at h
      obtain ⟨h1, h2⟩ := sk_split r (by omega)
      refine ⟨?_, ?_⟩
      · rw [List.take_succ_cons, List.drop_succ_cons, List.cons_append, ← h1]
      · rw [List.take_succ_cons]
        intro hm
        rcases List.mem_cons.1 hm with e | e
        · exact hc e.symm
        · exact h2 e
theorem sk_none : ∀ l : List UInt8, skF l = l.length → (33 : UInt8) ∉ l
  | [], _ => by simp
  | c :: r, h => by
    simp only [skF] at h
    by_cases hc : c = 33
    · rw [bcT (b := c == 33) (beq_iff_eq.2 hc), List.length_cons] at h; omega
    · rw [bcF (b := c == 33) (beq_eq_false_iff_ne.2 hc), List.length_cons] at h
      intro hm
      rcases List.mem_cons.1 hm with e | e
      · exact hc e.symm
      · exact sk_none r (by omega) e
theorem sk_ix (l : List UInt8) (h : skF l < l.length) : ixC 33 l = (skF l : Int) := by
  obtain ⟨h1, h2⟩ := sk_split l h
  have := ixC_at 33 (l.take (skF l)) (l.drop (skF l + 1)) h2
  rw [← h1, List.length_take, Nat.min_eq_left (by omega)] at this
  exact this
theorem sk_ix_no (l : List UInt8) (h : skF l = l.length) : ixC 33 l = -1 := ixC_no 33 l (sk_none l h)

/-! ### Names between apostrophes -/
theorem mem_cut : ∀ l : List UInt8, (39 : UInt8) ∈ l → ∃ a b, l = a ++ 39 :: b ∧ (39 : UInt8) ∉ a
  | [], h => by simp at h
  | c :: r, h => by
    by_cases hc : c = 39
    · exact ⟨[], r, by rw [hc]; rfl, by simp⟩
    · have hr : (39 : UInt8) ∈ r := (List.mem_cons.1 h).resolve_left fun e => hc e.symm
      obtain ⟨a, b, h1, h2⟩ := mem_cut r hr
      refine ⟨c :: a, b, by rw [h1]; rfl, fun hm => ?_⟩
      rcases List.mem_cons.1 hm with e | e
      · exact hc e.symm
      · exact h2 e
theorem cq_none (f : List UInt8 → Bool) (n : Nat) {l : List UInt8} (h : (39 : UInt8) ∉ l) (o : List UInt8) : cqF f n l o = ([], [], false) := by
  cases n with
  | zero => rfl
  | succ n => simp only [cqF]; rw [ixC_no 39 l h, bcF (decide_eq_false (by decide))]
theorem cq_at (f : List UInt8 → Bool) (n : Nat) {a b : List UInt8} (h : (39 : UInt8) ∉ a) (o : List UInt8) : cqF f (n + 1) (a ++ 39 :: b) o = bcond (cpB 33 b) (o ++ a, b.drop 1, f (o ++ a)) (bcond (cpB 39 b) (cqF f n (b.drop 1) (o ++ a ++ [39])) ([], [], false)) := by
  obtain ⟨h1, h2⟩ := prt_at a b h
  simp only [cqF]
  rw [ixC_at 39 a b h, bcT (b := decide ((a.length : Int) ≥ 0)) (decide_eq_true (by omega)), h1, h2]
theorem cq_step (f : List UInt8 → Bool) (n : Nat) {c : UInt8} (hc : ¬ c = 39) (r o : List UInt8) : cqF f (n + 1) (c :: r) o = cqF f (n + 1) r (o ++ [c]) := by
  by_cases h : (39 : UInt8) ∈ r
  · obtain ⟨a, b, rfl, h2⟩ := mem_cut r h
    have h3 : (39 : UInt8) ∉ c :: a := fun hm => by
      rcases List.mem_cons.1 hm with e | e
      · exact hc e.symm
      · exact h2 e
    rw [cq_at f n h2, ← List.cons_append, cq_at f n h3]
    simp only [List.append_assoc, List.cons_append, List.nil_append]
  · have h3 : (39 : UInt8) ∉ c :: r := fun hm => by
      rcases List.mem_cons.1 hm with e | e
      · exact hc e.symm
      · exact h e
    rw [cq_none f _ h3, cq_none f _ h]
theorem cq_39 (f : List UInt8 → Bool) (n : Nat) (r o : List UInt8) : cqF f (n + 1) (39 :: r) o = bcond (cpB 33 r) (o, r.drop 1, f o) (bcond (cpB 39 r) (cqF f n (r.drop 1) (o ++ [39])) ([], [], false)) := by
  have := cq_at f n (a := []) (b := r) (by simp) o
  rw [List.append_nil] at this
  exact this
def docQ (f : List UInt8 → Bool) (l : List UInt8) (r : List UInt8 × Int) : List UInt8 × List UInt8 × Bool :=
  bcond (decide (r.2 < 0)) ([], [], false) (bcond (cpB 33 (l.drop r.2.toNat)) (r.1, l.drop (r.2.toNat + 1), f r.1) ([], [], false))
theorem cp_drop (c : UInt8) (l : List UInt8) (p : Nat) : cpB c (l.drop p) = (decide (p < l.length) && l.getD p 0 == c) := by
  by_cases h : p < l.length
  · rw [List.drop_eq_getElem_cons h, cpB_cons, decide_eq_true h, Bool.true_and]
    simp [List.getD_eq_getElem?_getD, List.getElem?_eq_getElem h]
  · rw [List.drop_eq_nil_of_le (by omega), decide_eq_false h]; rfl
theorem uq_cq (f : List UInt8 → Bool) (l : List UInt8) : ∀ (fu p n : Nat) (o : List UInt8), l.length ≤ p + fu → l.length < n + p → cqF f n (l.drop p) o = docQ f l (uqR fu l p o)
  | 0, p, n, o, h1, h2 => by
    rw [List.drop_eq_nil_of_le (by omega), cq_none f n (by simp)]; rfl
  | fu + 1, p, n, o, h1, h2 => by
    simp only [uqR]
    by_cases h : p < l.length
    · obtain ⟨m, rfl⟩ : ∃ m, n = m + 1 := ⟨n - 1, by omega⟩
      have hg : l.getD p 0 = l[p] := by simp [List.getD_eq_getElem?_getD, List.getElem?_eq_getElem h]
      rw [bcT (b := decide (p < l.length)) (decide_eq_true h), List.drop_eq_getElem_cons h, hg]
      by_cases hc : l[p] = 39
      · rw [bcF (b := !(l[p] == 39)) (by rw [hc]; rfl), hc, cq_39]
        rw [← cp_drop 39 l (p + 1)]
        cases h39 : cpB 39 (l.drop (p + 1)) with
        | true =>
          have h33 : cpB 33 (l.drop (p + 1)) = false := by
            have e := cp_drop 39 l (p + 1)
            rw [h39] at e
            have e2 := (Bool.and_eq_true_iff.1 e.symm).2
            rw [cp_drop 33, beq_iff_eq.1 e2]
            exact Bool.and_false _
          have hl1 : p + 1 < l.length := by
            have e := cp_drop 39 l (p + 1)
            rw [h39] at e
            exact of_decide_eq_true (Bool.and_eq_true_iff.1 e.symm).1
          rw [bcF h33, bcT rfl, bcT rfl, List.drop_drop]
          exact uq_cq f l fu (p + 2) m _ (by omega) (by omega)
        | false =>
          rw [bcF rfl, bcF rfl]
          unfold docQ
          rw [bcF (b := decide (((p + 1 : Nat) : Int) < 0)) (decide_eq_false (by omega)), Int.toNat_natCast, List.drop_drop]
      · rw [bcT (b := !(l[p] == 39)) (by rw [beq_eq_false_iff_ne.2 hc]; rfl), cq_step f m hc]
        exact uq_cq f l fu (p + 1) (m + 1) _ (by omega) (by omega)
    · rw [bcF (b := decide (p < l.length)) (decide_eq_false h), List.drop_eq_nil_of_le (by omega), cq_none f n (by simp)]; rfl
end Go.Proofs.YtanhlbdcjonaoaaGreatDoor

/- Layer 2: the program's sheets and the document's own ones. -/
set_option linter.unusedVariables false
set_option linter.unusedSimpArgs false
namespace Go.Proofs.YtanhlbdcjonaoaaGreatDoor
open Go Sx

theorem name_nil : nameB [] = false := by unfold nameB; rw [decide_eq_false (show ¬ 0 < ([] : List UInt8).length by simp), Bool.and_false]; rfl
theorem byte_is {l : List UInt8} {z : Nat} (c : UInt8) (h : z < l.length) : (byteAt l z == (c.toNat : Int)) = (l.getD z 0 == c) := by
  rw [byte_get h, Bool.eq_iff_iff, beq_iff_eq, beq_iff_eq]
  simp only [List.getD_eq_getElem?_getD, List.getElem?_eq_getElem h, Option.getD_some]
  exact ⟨fun e => UInt8.toNat_inj.1 (by omega), fun e => by rw [e]⟩
/-- What taking a name comes to. -/
theorem ta_cases (l n : List UInt8) (z : Nat) : (cpB 33 (l.drop z) = true ∧ nameB n = true ∧ z < l.length ∧ taS nameB l n (z : Int) = (n, ((z + 1 : Nat) : Int))) ∨ ((cpB 33 (l.drop z) = false ∨ nameB n = false) ∧ taS nameB l n (z : Int) = noS) := by
  unfold taS
  rw [cp_drop]
  by_cases h : z < l.length
  · have h2 : decide ((z : Int) < (l.length : Int)) = true := decide_eq_true (by omega)
    rw [h2, decide_eq_true h, Bool.true_and, Int.toNat_natCast, show (33 : Int) = ((33 : UInt8).toNat : Int) from rfl, byte_is 33 h]
    cases nameB n with
    | false => exact .inr ⟨.inr rfl, rfl⟩
    | true =>
      cases l.getD z 0 == 33 with
      | false => exact .inr ⟨.inl rfl, rfl⟩
      | true => exact .inl ⟨rfl, rfl, h, rfl⟩
  · have h2 : decide ((z : Int) < (l.length : Int)) = false := decide_eq_false (by omega)
    rw [h2, decide_eq_false h, Bool.and_false]
    exact .inr ⟨.inl rfl, rfl⟩
theorem uqR_ge : ∀ (f : Nat) (l : List UInt8) (p : Nat) (o : List UInt8), 0 ≤ (uqR f l p o).2 ∨ (uqR f l p o) = ([], -1) := fun f l p o => by
  by_cases h : (uqR f l p o).2 < 0
  · exact .inr (uqR_neg f l p o h)
  · exact .inl (by omega)
theorem pl_39 (r : List UInt8) : plR 0 (39 :: r) = false := rfl
/-- The sheet ahead of a text, by the program and by the document. -/
theorem cs_sh (l : List UInt8) : ((csS l).2.2 = false ∧ ((shD l).2 < 0 ∨ l.take 1 = [39] ∧ shD l = ([], 0))) ∨
    ((csS l).2.2 = true ∧ ∃ z : Nat, shD l = ((csS l).1, (z : Int)) ∧ z ≤ l.length ∧ l.drop z = (csS l).2.1) := by
  cases hq : cpB 39 l with
  | true =>
    have ht : l.take 1 = [39] := beq_iff_eq.1 hq
    obtain ⟨r, rfl⟩ : ∃ r, l = 39 :: r := by
      cases l with
      | nil => cases ht
      | cons c r => exact ⟨r, by rw [show c = 39 from (List.cons.inj ht).1]⟩
    have hu : uqS (39 :: r) = uqR (39 :: r).length (39 :: r) 1 [] := rfl
    have hcs : csS (39 :: r) = docQ sheetB (39 :: r) (uqR (39 :: r).length (39 :: r) 1 []) := by
      have h1 : csS (39 :: r) = cqF sheetB (r.length + 1) ((39 :: r).drop 1) [] := rfl
      rw [h1]
      exact uq_cq sheetB (39 :: r) (39 :: r).length 1 (r.length + 1) [] (by omega) (by simp)
    rcases uqR_ge (39 :: r).length (39 :: r) 1 [] with h0 | h0
    · generalize hr : uqR (39 :: r).length (39 :: r) 1 [] = x at *
      obtain ⟨n, z⟩ := x
      simp only at h0
      obtain ⟨k, rfl⟩ : ∃ k : Nat, z = k := ⟨z.toNat, by omega⟩
      have hsh : shD (39 :: r) = taS nameB (39 :: r) n k := by
        unfold shD shF
        rw [hu]
        exact bcF (decide_eq_false (by simp only; omega))
      have hcs2 : csS (39 :: r) = bcond (cpB 33 ((39 :: r).drop k)) (n, (39 :: r).drop (k + 1), nameB n) ([], [], false) := by
        rw [hcs]
        unfold docQ
        rw [bcF (b := decide (((k : Nat) : Int) < 0)) (decide_eq_false (by omega)), Int.toNat_natCast, sheet_name]
      rw [hsh, hcs2]
      rcases ta_cases (39 :: r) n k with ⟨h1, h2, h3, h4⟩ | ⟨h1, h2⟩
      · right
        rw [h1, h4, bcT rfl]
        exact ⟨h2, k + 1, rfl, h3, rfl⟩
      · left
        rw [h2]
        refine ⟨?_, .inl (by decide)⟩
        rcases h1 with h1 | h1
        · rw [h1]; rfl
        · cases cpB 33 ((39 :: r).drop k) with
          | true => exact h1
          | false => rfl
    · left
      rw [h0] at hu hcs
      have hcs2 : (csS (39 :: r)).2.2 = false := by rw [hcs]; rfl
      refine ⟨hcs2, ?_⟩
      unfold shD shF
      rw [hu, bcT (b := decide ((-1 : Int) < 0)) (by decide)]
      cases h1 : Nat.beq (skF (39 :: r)) (39 :: r).length with
      | true => exact .inr ⟨rfl, rfl⟩
      | false =>
        have h2 : skF (39 :: r) = skF r + 1 := rfl
        rw [bcF rfl, h2, List.take_succ_cons]
        have h3 : plD (39 :: r.take (skF r)) = false := by unfold plD; rw [pl_39]; rfl
        rw [h3]
        exact .inl (show (-1 : Int) < 0 by decide)
  | false =>
    have hu : uqS l = ([], -1) := by unfold uqS; exact bcF hq
    have hsh : shD l = bcond (Nat.beq (skF l) l.length) ([], 0) (bcond (plD (l.take (skF l))) (taS nameB l (l.take (skF l)) (skF l : Int)) noS) := by
      unfold shD shF
      rw [hu, bcT (b := decide ((-1 : Int) < 0)) (by decide)]
    have hle := skF_le l
    by_cases hk : skF l = l.length
    · right
      have hcs : csS l = ([], l, true) := by
        unfold csS csF
        rw [hq, bcF rfl, sk_ix_no l hk, bcF (b := decide ((-1 : Int) ≥ 0)) (by decide)]
      rw [hcs, hsh, bcT (b := Nat.beq (skF l) l.length) (beqT.2 hk)]
      exact ⟨rfl, 0, rfl, Nat.zero_le _, rfl⟩
    · have hlt : skF l < l.length := by omega
      have hcs : csS l = (l.take (skF l), l.drop (skF l + 1), plR 0 (l.take (skF l)) && nameB (l.take (skF l))) := by
        unfold csS csF
        rw [hq, bcF rfl, sk_ix l hlt, bcT (b := decide ((skF l : Int) ≥ 0)) (decide_eq_true (by omega)), Int.toNat_natCast, sheet_name]
        show (_, _, plainF (l.take (skF l)) (l.take (skF l)).length 0 && _) = _
        rw [plain_eq]
      rw [hcs, hsh, bcF (b := Nat.beq (skF l) l.length) (Bool.eq_false_iff.2 fun e => hk (beqT.1 e))]
      have h33 : cpB 33 (l.drop (skF l)) = true := by
        obtain ⟨h1, _⟩ := sk_split l hlt
        have h2 : l.drop (skF l) = 33 :: l.drop (skF l + 1) := by
          have := congrArg (List.drop (skF l)) h1
          rw [List.drop_left' (by rw [List.length_take]; omega)] at this
          exact this
        rw [h2]; rfl
      unfold plD
      cases hp : plR 0 (l.take (skF l)) with
      | false => left; exact ⟨rfl, .inl (by show (-1 : Int) < 0; decide)⟩
      | true =>
        rcases ta_cases l (l.take (skF l)) (skF l) with ⟨h1, h2, h3, h4⟩ | ⟨h1, h2⟩
        · right
          have hne : (l.take (skF l) == []) = false := by
            cases h : l.take (skF l) with
            | nil => rw [h, name_nil] at h2; cases h2
            | cons c t => rfl
          rw [hne, h4, h2]
          exact ⟨rfl, skF l + 1, rfl, h3, rfl⟩
        · left
          rw [h2]
          have hn : nameB (l.take (skF l)) = false := by
            rcases h1 with h1 | h1
            · rw [h33] at h1; cases h1
            · exact h1
          rw [hn]
          refine ⟨rfl, .inl ?_⟩
          cases (true && !(l.take (skF l) == [])) <;> decide
end Go.Proofs.YtanhlbdcjonaoaaGreatDoor

/- Layer 2: references as texts. -/
set_option linter.unusedVariables false
set_option linter.unusedSimpArgs false
namespace Go.Proofs.YtanhlbdcjonaoaaGreatDoor
open Go Sx
def eStrC (W : List UInt8 → List UInt8) : Ent := fun args pre => match args, pre with
  | [.str l], [] => .chk (decide (l.length ≤ 1000000)) (.ret (.str (W l)) [])
  | _, _ => .fail
def tabT (W : List UInt8 → List UInt8) : Tab := (43, eStrC W) :: (42, eWS) :: (44, eWB) :: (47, eBS) :: tabM
theorem tabT_ok : TabOK Tryz.prog (tabT wriS) := .cons written_ok (.cons ws_ok (.cons wb_ok (.cons bs_ok tabM_ok)))
end Go.Proofs.YtanhlbdcjonaoaaGreatDoor

/- Layer 2: references as texts. -/
set_option linter.unusedVariables false
set_option linter.unusedSimpArgs false
namespace Go.Proofs.YtanhlbdcjonaoaaGreatDoor
open Go Sx

def txtT (s : List UInt8) (r c : Int) (a b d : Bool) (V K T : List UInt8) (R : Int) : Ans :=
  .br (!rightB ⟨s, r, c, a, b, d⟩)
   (.ret (.tuple [.str [], .int IntKind.i64 20]) [])
   (.br (d)
   (.ret (.tuple [.str [35, 82, 69, 70, 33], .int IntKind.i64 0]) [])
   (.br (!s == [])
   (.br (decide (s.length ≤ 1000000))
   (.br (decide (0 < V.length ∧ V.length ≤ 1000000))
   (.br (decide (V.length = V.length ∧ V.length + 1 ≤ 1000000))
   (.br (inI c)
   (.br (colB c)
   (.br (b)
   (.br (decide ((V ++ [33]).length = V.length + 1 ∧ V.length + 1 + 1 ≤ 1000000))
   (.br (decide ((V ++ [33] ++ [36]).length = V.length + 1 + 1 ∧ V.length + 1 + 1 + (K).length ≤ 1000000))
   (.br (a)
   (.br (decide ((V ++ [33] ++ [36] ++ K).length = V.length + 1 + 1 + (K).length ∧ V.length + 1 + 1 + (K).length + 1 ≤ 1000000))
   (.br (decide ((1 : Int) ≤ R ∧ R ≤ 200))
   (.br (decide ((V ++ [33] ++ [36] ++ K ++ [36]).length = V.length + 1 + 1 + (K).length + 1 ∧ V.length + 1 + 1 + (K).length + 1 + (T).length ≤ 1000000))
   (.br (decide (0 < (V ++ [33] ++ [36] ++ K ++ [36] ++ T).length ∧ (V ++ [33] ++ [36] ++ K ++ [36] ++ T).length = V.length + 1 + 1 + (K).length + 1 + (T).length ∧ V.length + 1 + 1 + (K).length + 1 + (T).length ≤ 1000000))
   (.ret (.tuple [.str (V ++ [33] ++ [36] ++ K ++ [36] ++ T), .int IntKind.i64 0]) [])
   (.fail))
   (.fail))
   (.fail))
   (.fail))
   (.br (decide ((1 : Int) ≤ R ∧ R ≤ 200))
   (.br (decide ((V ++ [33] ++ [36] ++ K).length = V.length + 1 + 1 + (K).length ∧ V.length + 1 + 1 + (K).length + (T).length ≤ 1000000))
   (.br (decide (0 < (V ++ [33] ++ [36] ++ K ++ T).length ∧ (V ++ [33] ++ [36] ++ K ++ T).length = V.length + 1 + 1 + (K).length + (T).length ∧ V.length + 1 + 1 + (K).length + (T).length ≤ 1000000))
   (.ret (.tuple [.str (V ++ [33] ++ [36] ++ K ++ T), .int IntKind.i64 0]) [])
   (.fail))
   (.fail))
   (.fail)))
   (.fail))
   (.fail))
   (.br (decide ((V ++ [33]).length = V.length + 1 ∧ V.length + 1 + (K).length ≤ 1000000))
   (.br (a)
   (.br (decide ((V ++ [33] ++ K).length = V.length + 1 + (K).length ∧ V.length + 1 + (K).length + 1 ≤ 1000000))
   (.br (decide ((1 : Int) ≤ R ∧ R ≤ 200))
   (.br (decide ((V ++ [33] ++ K ++ [36]).length = V.length + 1 + (K).length + 1 ∧ V.length + 1 + (K).length + 1 + (T).length ≤ 1000000))
   (.br (decide (0 < (V ++ [33] ++ K ++ [36] ++ T).length ∧ (V ++ [33] ++ K ++ [36] ++ T).length = V.length + 1 + (K).length + 1 + (T).length ∧ V.length + 1 + (K).length + 1 + (T).length ≤ 1000000))
   (.ret (.tuple [.str (V ++ [33] ++ K ++ [36] ++ T), .int IntKind.i64 0]) [])
   (.fail))
   (.fail))
   (.fail))
   (.fail))
   (.br (decide ((1 : Int) ≤ R ∧ R ≤ 200))
   (.br (decide ((V ++ [33] ++ K).length = V.length + 1 + (K).length ∧ V.length + 1 + (K).length + (T).length ≤ 1000000))
   (.br (decide (0 < (V ++ [33] ++ K ++ T).length ∧ (V ++ [33] ++ K ++ T).length = V.length + 1 + (K).length + (T).length ∧ V.length + 1 + (K).length + (T).length ≤ 1000000))
   (.ret (.tuple [.str (V ++ [33] ++ K ++ T), .int IntKind.i64 0]) [])
   (.fail))
   (.fail))
   (.fail)))
   (.fail)))
   (.br (b)
   (.br (decide ((V ++ [33]).length = V.length + 1 ∧ V.length + 1 + 1 ≤ 1000000))
   (.br (decide ((V ++ [33] ++ [36]).length = V.length + 1 + 1 ∧ V.length + 1 + 1 + ([] : List UInt8).length ≤ 1000000))
   (.br (a)
   (.br (decide ((V ++ [33] ++ [36] ++ []).length = V.length + 1 + 1 + ([] : List UInt8).length ∧ V.length + 1 + 1 + ([] : List UInt8).length + 1 ≤ 1000000))
   (.br (decide ((1 : Int) ≤ R ∧ R ≤ 200))
   (.br (decide ((V ++ [33] ++ [36] ++ [] ++ [36]).length = V.length + 1 + 1 + ([] : List UInt8).length + 1 ∧ V.length + 1 + 1 + ([] : List UInt8).length + 1 + (T).length ≤ 1000000))
   (.br (decide (0 < (V ++ [33] ++ [36] ++ [] ++ [36] ++ T).length ∧ (V ++ [33] ++ [36] ++ [] ++ [36] ++ T).length = V.length + 1 + 1 + ([] : List UInt8).length + 1 + (T).length ∧ V.length + 1 + 1 + ([] : List UInt8).length + 1 + (T).length ≤ 1000000))
   (.ret (.tuple [.str (V ++ [33] ++ [36] ++ [] ++ [36] ++ T), .int IntKind.i64 0]) [])
   (.fail))
   (.fail))
   (.fail))
   (.fail))
   (.br (decide ((1 : Int) ≤ R ∧ R ≤ 200))
   (.br (decide ((V ++ [33] ++ [36] ++ []).length = V.length + 1 + 1 + ([] : List UInt8).length ∧ V.length + 1 + 1 + ([] : List UInt8).length + (T).length ≤ 1000000))
   (.br (decide (0 < (V ++ [33] ++ [36] ++ [] ++ T).length ∧ (V ++ [33] ++ [36] ++ [] ++ T).length = V.length + 1 + 1 + ([] : List UInt8).length + (T).length ∧ V.length + 1 + 1 + ([] : List UInt8).length + (T).length ≤ 1000000))
   (.ret (.tuple [.str (V ++ [33] ++ [36] ++ [] ++ T), .int IntKind.i64 0]) [])
   (.fail))
   (.fail))
   (.fail)))
   (.fail))
   (.fail))
   (.br (decide ((V ++ [33]).length = V.length + 1 ∧ V.length + 1 + ([] : List UInt8).length ≤ 1000000))
   (.br (a)
   (.br (decide ((V ++ [33] ++ []).length = V.length + 1 + ([] : List UInt8).length ∧ V.length + 1 + ([] : List UInt8).length + 1 ≤ 1000000))
   (.br (decide ((1 : Int) ≤ R ∧ R ≤ 200))
   (.br (decide ((V ++ [33] ++ [] ++ [36]).length = V.length + 1 + ([] : List UInt8).length + 1 ∧ V.length + 1 + ([] : List UInt8).length + 1 + (T).length ≤ 1000000))
   (.br (decide (0 < (V ++ [33] ++ [] ++ [36] ++ T).length ∧ (V ++ [33] ++ [] ++ [36] ++ T).length = V.length + 1 + ([] : List UInt8).length + 1 + (T).length ∧ V.length + 1 + ([] : List UInt8).length + 1 + (T).length ≤ 1000000))
   (.ret (.tuple [.str (V ++ [33] ++ [] ++ [36] ++ T), .int IntKind.i64 0]) [])
   (.fail))
   (.fail))
   (.fail))
   (.fail))
   (.br (decide ((1 : Int) ≤ R ∧ R ≤ 200))
   (.br (decide ((V ++ [33] ++ []).length = V.length + 1 + ([] : List UInt8).length ∧ V.length + 1 + ([] : List UInt8).length + (T).length ≤ 1000000))
   (.br (decide (0 < (V ++ [33] ++ [] ++ T).length ∧ (V ++ [33] ++ [] ++ T).length = V.length + 1 + ([] : List UInt8).length + (T).length ∧ V.length + 1 + ([] : List UInt8).length + (T).length ≤ 1000000))
   (.ret (.tuple [.str (V ++ [33] ++ [] ++ T), .int IntKind.i64 0]) [])
   (.fail))
   (.fail))
   (.fail)))
   (.fail))))
   (.fail))
   (.fail))
   (.fail))
   (.fail))
   (.br (inI c)
   (.br (colB c)
   (.br (b)
   (.br (decide ([36].length = 1 ∧ 1 + (K).length ≤ 1000000))
   (.br (a)
   (.br (decide (([36] ++ K).length = 1 + (K).length ∧ 1 + (K).length + 1 ≤ 1000000))
   (.br (decide ((1 : Int) ≤ R ∧ R ≤ 200))
   (.br (decide (([36] ++ K ++ [36]).length = 1 + (K).length + 1 ∧ 1 + (K).length + 1 + (T).length ≤ 1000000))
   (.br (decide (0 < ([36] ++ K ++ [36] ++ T).length ∧ ([36] ++ K ++ [36] ++ T).length = 1 + (K).length + 1 + (T).length ∧ 1 + (K).length + 1 + (T).length ≤ 1000000))
   (.ret (.tuple [.str ([36] ++ K ++ [36] ++ T), .int IntKind.i64 0]) [])
   (.fail))
   (.fail))
   (.fail))
   (.fail))
   (.br (decide ((1 : Int) ≤ R ∧ R ≤ 200))
   (.br (decide (([36] ++ K).length = 1 + (K).length ∧ 1 + (K).length + (T).length ≤ 1000000))
   (.br (decide (0 < ([36] ++ K ++ T).length ∧ ([36] ++ K ++ T).length = 1 + (K).length + (T).length ∧ 1 + (K).length + (T).length ≤ 1000000))
   (.ret (.tuple [.str ([36] ++ K ++ T), .int IntKind.i64 0]) [])
   (.fail))
   (.fail))
   (.fail)))
   (.fail))
   (.br (decide (0 < (K).length ∧ (K).length ≤ 1000000))
   (.br (a)
   (.br (decide ((K).length = (K).length ∧ (K).length + 1 ≤ 1000000))
   (.br (decide ((1 : Int) ≤ R ∧ R ≤ 200))
   (.br (decide ((K ++ [36]).length = (K).length + 1 ∧ (K).length + 1 + (T).length ≤ 1000000))
   (.br (decide (0 < (K ++ [36] ++ T).length ∧ (K ++ [36] ++ T).length = (K).length + 1 + (T).length ∧ (K).length + 1 + (T).length ≤ 1000000))
   (.ret (.tuple [.str (K ++ [36] ++ T), .int IntKind.i64 0]) [])
   (.fail))
   (.fail))
   (.fail))
   (.fail))
   (.br (decide ((1 : Int) ≤ R ∧ R ≤ 200))
   (.br (decide ((K).length = (K).length ∧ (K).length + (T).length ≤ 1000000))
   (.br (decide (0 < (K ++ T).length ∧ (K ++ T).length = (K).length + (T).length ∧ (K).length + (T).length ≤ 1000000))
   (.ret (.tuple [.str (K ++ T), .int IntKind.i64 0]) [])
   (.fail))
   (.fail))
   (.fail)))
   (.fail)))
   (.br (b)
   (.br (a)
   (.br (decide ((1 : Int) ≤ R ∧ R ≤ 200))
   (.br (decide (([36] ++ [] ++ [36]).length = 1 + ([] : List UInt8).length + 1 ∧ 1 + ([] : List UInt8).length + 1 + (T).length ≤ 1000000))
   (.br (decide (0 < ([36] ++ [] ++ [36] ++ T).length ∧ ([36] ++ [] ++ [36] ++ T).length = 1 + ([] : List UInt8).length + 1 + (T).length ∧ 1 + ([] : List UInt8).length + 1 + (T).length ≤ 1000000))
   (.ret (.tuple [.str ([36] ++ [] ++ [36] ++ T), .int IntKind.i64 0]) [])
   (.fail))
   (.fail))
   (.fail))
   (.br (decide ((1 : Int) ≤ R ∧ R ≤ 200))
   (.br (decide (([36] ++ []).length = 1 + ([] : List UInt8).length ∧ 1 + ([] : List UInt8).length + (T).length ≤ 1000000))
   (.br (decide (0 < ([36] ++ [] ++ T).length ∧ ([36] ++ [] ++ T).length = 1 + ([] : List UInt8).length + (T).length ∧ 1 + ([] : List UInt8).length + (T).length ≤ 1000000))
   (.ret (.tuple [.str ([36] ++ [] ++ T), .int IntKind.i64 0]) [])
   (.fail))
   (.fail))
   (.fail)))
   (.fail)))
   (.fail))))
theorem txtT_comes (W : List UInt8 → List UInt8) (s : List UInt8) (r c : Int) (a b d : Bool) : Comes (tabT W) nolv 15 [.agg [.str s, .int .i64 r, .int .i64 c, .bool a, .bool b, .bool d]] []
    (txtT s r c a b d (W s) (colS c.toNat) (rowS (IntKind.i64.wrap (r + 1)).toNat) (IntKind.i64.wrap (r + 1))) := by unfold Comes; kernel_rfl
/-- A right reference as it is written. -/
def txtS (x : Rf) : List UInt8 := bcond x.d [35, 82, 69, 70, 33] (bcond (!(x.s == [])) (wriS x.s ++ [33]) [] ++ bcond x.b [36] [] ++ colS x.c.toNat ++ bcond x.a [36] [] ++ rowS (x.r + 1).toNat)
def eText : Ent := fun args pre => match args, pre with
  | [.agg [.str s, .int .i64 r, .int .i64 c, .bool a, .bool b, .bool d]], [] => .chk (decide (s.length ≤ 100000))
    (.ret (.tuple [.str (bcond (rightB ⟨s, r, c, a, b, d⟩) (txtS ⟨s, r, c, a, b, d⟩) []), .int .i64 (bcond (rightB ⟨s, r, c, a, b, d⟩) 0 20)]) [])
  | _, _ => .fail
theorem col_len (n : Nat) : 1 ≤ (colS n).length ∧ (colS n).length ≤ 2 := by unfold colS; split <;> simp
theorem row_len (n : Nat) : 1 ≤ (rowS n).length ∧ (rowS n).length ≤ 3 := by
  unfold rowS
  cases Nat.blt n 10 <;> cases Nat.blt n 100 <;> simp [bcond]
theorem wri_len {l : List UInt8} (h : l ≠ []) : 0 < (wriS l).length ∧ (wriS l).length ≤ 2 * l.length + 2 := by
  have := dbl_len l
  unfold wriS
  cases plainF l l.length 0 with
  | true => exact ⟨List.length_pos_iff.2 h, by simp only [bcond]; omega⟩
  | false => simp only [bcond, List.length_append, List.length_cons, List.length_nil]; omega
theorem text_ok : EntOK Tryz.prog 15 eText := fun args pre => by
  unfold eText
  split
  · rename_i s r c a b d
    refine of_run (ans_comes tabT_ok (txtT_comes wriS s r c a b d)) fun x h => ?_
    obtain ⟨h1, h⟩ := chk_run h
    have h1 := of_decide_eq_true h1
    rw [← h]
    unfold txtT
    simp only [Ans.run]
    cases hr : rightB ⟨s, r, c, a, b, d⟩ with
    | false => rfl
    | true =>
      cases hd : d with
      | true => rfl
      | false =>
        subst hd
        have k := right_bd hr rfl
        simp only at k
        have hR : IntKind.i64.wrap (r + 1) = r + 1 := i64_in (by omega) (by omega)
        have hI : inI c = true := inI_iff.2 (by omega)
        have hC : colB c = true := by unfold colB; exact decide_eq_true (by omega)
        have hk := col_len c.toNat
        have ht := row_len (r + 1).toNat
        rw [hR]
        simp only [txtS, hI, hC]
        have fin : ∀ {y z : List UInt8}, y = z → pure2 (.tuple [.str y, .int .i64 0]) [] = pure2 (.tuple [.str z, .int .i64 (bcond true 0 20)]) [] := fun e => by rw [e]; rfl
        cases hs : (!(s == [])) with
        | true =>
          have hw := wri_len (l := s) (fun e => by subst e; simp at hs)
          cases ha : a <;> cases hb : b <;>
          · repeat
              first
              | refine (bcT (b := true) rfl).trans ?_
              | refine (bcF (b := false) rfl).trans ?_
              | refine (bcF (b := !true) rfl).trans ?_
              | (refine (bcT (b := @decide _ _) (decide_eq_true ?_)).trans ?_
                 · first | omega | (simp only [true_and, List.length_append, List.length_cons, List.length_nil]; omega))
            exact fin (by simp [bcond])
        | false =>
          cases ha : a <;> cases hb : b <;>
          · repeat
              first
              | refine (bcT (b := true) rfl).trans ?_
              | refine (bcF (b := false) rfl).trans ?_
              | refine (bcF (b := !true) rfl).trans ?_
              | (refine (bcT (b := @decide _ _) (decide_eq_true ?_)).trans ?_
                 · first | omega | (simp only [true_and, List.length_append, List.length_cons, List.length_nil]; omega))
            exact fin (by simp [bcond])
  · trivial
end Go.Proofs.YtanhlbdcjonaoaaGreatDoor

/- Layer 2: Read undoes Text. -/
set_option linter.unusedVariables false
set_option linter.unusedSimpArgs false
namespace Go.Proofs.YtanhlbdcjonaoaaGreatDoor
open Go Sx

/-- A sheet's name ahead: between apostrophes, or not. -/
def nmS (q : Bool) (s : List UInt8) : List UInt8 := bcond (!(s == [])) (bcond q (39 :: (dblS s ++ [39])) s ++ [33]) []
def tlS (a b : Bool) (K D : List UInt8) : List UInt8 := bcond b [36] [] ++ (K ++ (bcond a [36] [] ++ D))
theorem cs_name {q : Bool} {s T : List UInt8} (hs : s = [] ∨ sheetB s = true) (hq : q = false → plainF s s.length 0 = true) (h33 : (33 : UInt8) ∉ T) (h39 : cpB 39 T = false) : csS (nmS q s ++ T) = (s, T, true) := by
  unfold nmS
  by_cases h0 : s = []
  · subst h0; exact csS_none h33 h39
  · have hb : (!(s == [])) = true := by rw [Bool.not_eq_true', beq_eq_false_iff_ne]; exact h0
    have hS : sheetB s = true := hs.resolve_left h0
    rw [hb, bcT rfl]
    cases q with
    | true =>
      rw [bcT rfl, show 39 :: (dblS s ++ [39]) ++ [33] ++ T = 39 :: (dblS s ++ 39 :: 33 :: T) by simp, csS_quoted, hS]
    | false =>
      rw [bcF rfl, show s ++ [33] ++ T = s ++ 33 :: T by simp, csS_plain (hq rfl), hS]
theorem let_ne {x : UInt8} (h : letB x.toNat = true) : x ≠ 33 ∧ x ≠ 39 ∧ x ≠ 36 :=
  ⟨fun e => by subst e; exact absurd h (by decide), fun e => by subst e; exact absurd h (by decide), fun e => by subst e; exact absurd h (by decide)⟩
theorem dig_ne {x : UInt8} (h : digB x.toNat = true) : x ≠ 33 ∧ x ≠ 39 ∧ x ≠ 36 :=
  ⟨fun e => by subst e; exact absurd h (by decide), fun e => by subst e; exact absurd h (by decide), fun e => by subst e; exact absurd h (by decide)⟩
theorem tl_ne {a b : Bool} {K D : List UInt8} (hK : ∀ x ∈ K, x.toNat < 128 ∧ letB x.toNat = true) (hK0 : K ≠ []) (hD : ∀ x ∈ D, x.toNat < 128 ∧ digB x.toNat = true) : (33 : UInt8) ∉ tlS a b K D ∧ cpB 39 (tlS a b K D) = false := by
  constructor
  · intro h
    unfold tlS at h
    simp only [List.mem_append] at h
    rcases h with h | h | h | h
    · cases b <;> simp [bcond] at h
    · exact (let_ne (hK _ h).2).1 rfl
    · cases a <;> simp [bcond] at h
    · exact (dig_ne (hD _ h).2).1 rfl
  · obtain ⟨k, K', rfl⟩ := List.exists_cons_of_ne_nil hK0
    unfold tlS
    cases b with
    | true => rfl
    | false =>
      show cpB 39 (k :: _) = false
      rw [cpB_cons, beq_eq_false_iff_ne]
      exact (let_ne (hK k List.mem_cons_self).2).2.1
theorem rrG_row : (List.range 200).all (fun n => (rrG (rowS (n + 1))).1 == (n : Int) && (rrG (rowS (n + 1))).2) = true := by kernel_rfl
theorem rcG_col : (List.range 52).all (fun n => (rcG (colS n)).1 == (n : Int) && (rcG (colS n)).2 == 0 && ((rcG (lowS n)).1 == (n : Int) && (rcG (lowS n)).2 == 0)) = true := by kernel_rfl
theorem col_facts {n : Nat} (h : n < 52) : ((∀ x ∈ colS n, x.toNat < 128 ∧ letB x.toNat = true) ∧ colS n ≠ [] ∧ rcG (colS n) = ((n : Int), 0)) ∧ ((∀ x ∈ lowS n, x.toNat < 128 ∧ letB x.toNat = true) ∧ lowS n ≠ [] ∧ rcG (lowS n) = ((n : Int), 0)) := by
  have h1 := List.all_eq_true.1 col_bytes n (List.mem_range.2 h)
  have h2 := List.all_eq_true.1 rcG_col n (List.mem_range.2 h)
  simp only [Bool.and_eq_true, List.all_eq_true, decide_eq_true_eq, Bool.not_eq_true', beq_iff_eq, List.isEmpty_eq_false_iff] at h1 h2
  exact ⟨⟨h1.1.1.1, h1.1.2, Prod.ext h2.1.1 h2.1.2⟩, ⟨h1.1.1.2, h1.2, Prod.ext h2.2.1 h2.2.2⟩⟩
theorem row_facts {n : Nat} (h : n < 200) : (∀ x ∈ rowS (n + 1), x.toNat < 128 ∧ digB x.toNat = true) ∧ rowS (n + 1) ≠ [] ∧ rrG (rowS (n + 1)) = ((n : Int), true) := by
  have h1 := List.all_eq_true.1 row_bytes n (List.mem_range.2 h)
  have h2 := List.all_eq_true.1 rrG_row n (List.mem_range.2 h)
  simp only [Bool.and_eq_true, List.all_eq_true, decide_eq_true_eq, Bool.not_eq_true', beq_iff_eq, List.isEmpty_eq_false_iff] at h1 h2
  exact ⟨h1.1, h1.2, Prod.ext h2.1 h2.2⟩
/-- A right reference's text, its name in either way, its letters great or small, is read as it. -/
theorem readA_any {s : List UInt8} {r c : Int} {a b q g : Bool} (h : rightB ⟨s, r, c, a, b, false⟩ = true) (hq : q = false → plainF s s.length 0 = true) :
    let l := nmS q s ++ tlS a b (bcond g (colS c.toNat) (lowS c.toNat)) (rowS (r + 1).toNat)
    readA l = .tuple [Rf.v ⟨s, r, c, a, b, false⟩, .int .i64 0] := by
  have hb := right_bd h rfl
  simp only at hb
  obtain ⟨m, rfl⟩ : ∃ m : Nat, r = m := ⟨r.toNat, by omega⟩
  obtain ⟨n, rfl⟩ : ∃ n : Nat, c = n := ⟨c.toNat, by omega⟩
  have hc := col_facts (n := n) (by omega)
  have hr := row_facts (n := m) (by omega)
  have hs : s = [] ∨ sheetB s = true := by
    by_cases h0 : s = []
    · exact .inl h0
    · right
      unfold rightB at h
      rw [bcF rfl, Bool.and_eq_true] at h
      have hbb : (!(s == [])) = true := by rw [Bool.not_eq_true', beq_eq_false_iff_ne]; exact h0
      have := h.1
      simp only [hbb] at this
      exact this
  have e1 : ((m : Int) + 1).toNat = m + 1 := by omega
  rw [e1, Int.toNat_natCast]
  have hK : (∀ x ∈ bcond g (colS n) (lowS n), x.toNat < 128 ∧ letB x.toNat = true) ∧ bcond g (colS n) (lowS n) ≠ [] ∧ rcG (bcond g (colS n) (lowS n)) = ((n : Int), 0) := by
    cases g with
    | true => exact hc.1
    | false => exact hc.2
  generalize bcond g (colS n) (lowS n) = K at *
  have ht := tl_ne (a := a) (b := b) hK.1 hK.2.1 hr.1
  have hcs := cs_name hs hq ht.1 ht.2
  have := readA_tail hcs hK.1 hK.2.1 hr.1 hr.2.1 (by rw [hK.2.2]) (by rw [hr.2.2])
  show readA (nmS q s ++ tlS a b K (rowS (m + 1))) = _
  rw [this.2.2, hr.2.2, hK.2.2]; rfl
end Go.Proofs.YtanhlbdcjonaoaaGreatDoor

/- Layer 2: Read undoes Text: the entry, and unlike references. -/
set_option linter.unusedVariables false
set_option linter.unusedSimpArgs false
namespace Go.Proofs.YtanhlbdcjonaoaaGreatDoor
open Go Sx

theorem txt_eq {s : List UInt8} {r c : Int} {a b : Bool} : txtS ⟨s, r, c, a, b, false⟩ = nmS (!plainF s s.length 0) s ++ tlS a b (colS c.toNat) (rowS (r + 1).toNat) := by
  unfold txtS nmS tlS
  show bcond false _ _ = _
  rw [bcF rfl]
  have : wriS s = bcond (!plainF s s.length 0) (39 :: (dblS s ++ [39])) s := by
    unfold wriS
    cases plainF s s.length 0 <;> simp [bcond]
  simp only [this, List.append_assoc]
theorem right_bad {x : Rf} (h : rightB x = true) (hd : x.d = true) : x = ⟨[], 0, 0, false, false, true⟩ := by
  obtain ⟨s, r, c, a, b, d⟩ := x
  unfold rightB at h
  simp only at hd
  subst hd
  rw [bcT rfl] at h
  simp only [Bool.and_eq_true, beq_iff_eq, Bool.and_true] at h
  obtain ⟨rfl, rfl, rfl, rfl, rfl, _⟩ := h
  rfl
/-- Read undoes Text. -/
theorem back_ok {x : Rf} (h : rightB x = true) : readA (txtS x) = .tuple [x.v, .int .i64 0] := by
  cases hd : x.d with
  | true => rw [right_bad h hd]; rfl
  | false =>
    obtain ⟨s, r, c, a, b, d⟩ := x
    simp only at hd
    subst hd
    have := readA_any (q := !plainF s s.length 0) (g := true) h (fun e => by simpa using e)
    rw [txt_eq]
    exact this
theorem v_inj {x y : Rf} (h : x.v = y.v) : x = y := by
  obtain ⟨s, r, c, a, b, d⟩ := x
  obtain ⟨s', r', c', a', b', d'⟩ := y
  unfold Rf.v at h
  simp only [AV.agg.injEq, List.cons.injEq, AV.str.injEq, AV.int.injEq, AV.bool.injEq, true_and, and_true] at h
  obtain ⟨rfl, rfl, rfl, rfl, rfl, rfl⟩ := h
  rfl
/-- Unlike references are written in unlike ways. -/
theorem txt_inj {x y : Rf} (hx : rightB x = true) (hy : rightB y = true) : txtS x = txtS y ↔ x = y := by
  refine ⟨fun e => v_inj ?_, fun e => by rw [e]⟩
  have h1 := back_ok hx
  have h2 := back_ok hy
  rw [e, h2] at h1
  simp only [AV.tuple.injEq, List.cons.injEq, and_true] at h1
  exact h1.symm
end Go.Proofs.YtanhlbdcjonaoaaGreatDoor

/- Layer 2: names between apostrophes, by the document's own answer. -/
set_option linter.unusedVariables false
set_option linter.unusedSimpArgs false
namespace Go.Proofs.YtanhlbdcjonaoaaGreatDoor
open Go Sx

def st14 (l o : List UInt8) (i : Int) : PState := ⟨some (.str l) :: none :: some (.str []) :: some (.str o) :: some (.int .i64 i) :: List.replicate 21 none, List.replicate 64 none⟩
def fin14 (o : List UInt8) : PState := ⟨none :: none :: some (.str []) :: some (.str o) :: List.replicate 22 none, List.replicate 64 none⟩
def pc14 (l : List UInt8) (p : Int) : List UInt8 := List.take ((IntKind.i64.wrap (p + 1)).toNat - p.toNat) (List.drop p.toNat l)
theorem round14 (l o : List UInt8) (p : Nat) : code (ent (R := Ex × PState) Tryz.prog tab0 nolv 64 18446744073709551616 30) Tryz.prog {} 0 64 18446744073709551616 ((loopBodies (bodyOf Tryz.f8)).headD .skip) (st14 l o p) (endK 0 64 (fun n => hasN [0, 2, 3, 4] n) (fun n => hasN [2, 3] n)) =
    bcond (decide ((p : Int) < (l.length : Int))) (bcond (decide (0 ≤ (p : Int) ∧ 0 ≤ IntKind.i64.wrap ((p : Int) + 1) ∧ (p : Int).toNat ≤ (IntKind.i64.wrap ((p : Int) + 1)).toNat ∧ (IntKind.i64.wrap ((p : Int) + 1)).toNat ≤ l.length))
      (bcond (decide (o.length + (pc14 l p).length ≤ 9223372036854775807)) (bcond (decide (0 ≤ (p : Int) ∧ (p : Int).toNat < l.length)) (bcond (byteAt l (p : Int).toNat == 39)
        (bcond (decide ((o ++ pc14 l p).length + [(39 : UInt8)].length ≤ 9223372036854775807)) (some (.normal, st14 l (o ++ pc14 l p ++ [39]) (IntKind.i64.wrap ((p : Int) + 1)))) none)
        (some (.normal, st14 l (o ++ pc14 l p) (IntKind.i64.wrap ((p : Int) + 1))))) none) none) none) (some (.exit 0, fin14 o)) := by kernel_rfl
theorem dbl_append : ∀ (a b : List UInt8), dblS (a ++ b) = dblS a ++ dblS b
  | [], b => rfl
  | x :: a, b => by
    rw [List.cons_append, dblS, dblS, dbl_append a b]
    split <;> rfl
theorem loop14 (l : List UInt8) (hl : l.length ≤ 1000000) : Tri Tryz.prog (.loop ((loopBodies (bodyOf Tryz.f8)).headD .skip)) (st14 l [39] 0).toA (.exit 0) (fin14 (39 :: dblS l)).toA 0 := by
  refine loop_rounds (ι := { p : Nat // p ≤ l.length }) (ent_sound (NF := 64) (m := 18446744073709551616) tab0_ok host nolv_ok 30) (lv := {}) (NF := 64) (m := 18446744073709551616) (fun x hx id e h1 h2 => by cases h2) (fun n => hasN [0, 2, 3, 4] n) (fun n => hasN [2, 3] n) (fun p => st14 l (39 :: dblS (l.take p.1)) (p.1 : Int)) (fun p => l.length - p.1) (fun p => (.exit 0, fin14 (39 :: dblS l))) ?_ (fun p => by simp) ⟨0, Nat.zero_le _⟩
  rintro ⟨p, hp⟩
  simp only
  rw [round14]
  by_cases h : p < l.length
  · have hw : IntKind.i64.wrap ((p : Int) + 1) = ((p + 1 : Nat) : Int) := by rw [i64_in (by omega) (by omega)]; rfl
    have hpc : pc14 l p = [l[p]] := by
      unfold pc14
      rw [hw, Int.toNat_natCast, Int.toNat_natCast, show p + 1 - p = 1 by omega, List.drop_eq_getElem_cons h]; rfl
    have hd : (39 :: dblS (l.take p)).length ≤ 2 * l.length + 1 := by
      have := dbl_len (l.take p)
      rw [List.length_take] at this
      simp only [List.length_cons]; omega
    have ht : l.take (p + 1) = l.take p ++ [l[p]] := by rw [List.take_succ_eq_append_getElem h]
    have hb : byteAt l p = ((l[p]).toNat : Int) := by unfold byteAt; simp [h]
    rw [hpc, hw, bcT (b := decide ((p : Int) < (l.length : Int))) (decide_eq_true (by omega)), bcT (b := decide (0 ≤ (p : Int) ∧ _)) (by rw [decide_eq_true_eq]; omega), bcT (b := decide (_ + [l[p]].length ≤ _)) (decide_eq_true (by simp only [List.length_cons, List.length_nil] at hd ⊢; omega)),
      bcT (b := decide (0 ≤ (p : Int) ∧ _)) (by rw [decide_eq_true_eq]; omega), Int.toNat_natCast, hb]
    refine .inl ⟨⟨p + 1, h⟩, by simp only; omega, trivial, ?_⟩
    rw [ht, dbl_append]
    by_cases hc : l[p] = 39
    · rw [hc, bcT (b := (((39 : UInt8).toNat : Int) == 39)) rfl, bcT (b := decide (_ + [(39 : UInt8)].length ≤ _)) (decide_eq_true (by simp only [List.length_append, List.length_cons, List.length_nil] at hd ⊢; omega))]
      simp [dblS]
    · rw [bcF (b := (((l[p]).toNat : Int) == 39)) (by
        rw [beq_eq_false_iff_ne]; intro e; apply hc
        have : (l[p]).toNat = 39 := by omega
        exact UInt8.toNat_inj.1 (by rw [this]; rfl))]
      simp [dblS, hc]
  · right
    have : p = l.length := by omega
    subst this
    rw [bcF (b := decide _) (decide_eq_false (by omega)), List.take_length]
end Go.Proofs.YtanhlbdcjonaoaaGreatDoor

/- Layer 2: names between apostrophes, by the document's own answer: the entry. -/
set_option linter.unusedVariables false
set_option linter.unusedSimpArgs false
namespace Go.Proofs.YtanhlbdcjonaoaaGreatDoor
open Go Sx

def e14 : Nat → PState → LAns := fun K t => match K, t with
  | 0, ⟨some (.str l) :: none :: some (.str []) :: some (.str [39]) :: some (.int .i64 i) :: rs, rm⟩ =>
    .chk (nonesV 21 rs) (.chk (nonesB 64 rm) (.chk (decide (i = 0)) (.chk (decide (l.length ≤ 1000000)) (.out (.exit 0) (fin14 (39 :: dblS l))))))
  | _, _ => .fail
def lv14 : FuncId → Lv := fun f => match f with
  | 8 => { keep := fun _ => some [0, 2, 3, 4], ent := fun i => match i with | 3 => some e14 | _ => none }
  | _ => {}
theorem lv14_ok : LvOK Tryz.prog lv14 := by
  intro f fn body hf hb K x hx id e hid he t
  by_cases h : f = 8
  · subst h
    obtain rfl : fn = Tryz.f8 := (Option.some.inj (Tryz.func8.symm.trans hf)).symm
    have hbody : body = bodyOf Tryz.f8 := by unfold bodyOf; rw [hb]; rfl
    subst hbody
    have h1 : loopBodies (bodyOf Tryz.f8) = [(loopBodies (bodyOf Tryz.f8)).headD .skip] := by kernel_rfl
    rw [h1] at hx
    have hx' := List.mem_singleton.1 hx
    have h2 : id = 3 := by
      have h3 : headReg ((loopBodies (bodyOf Tryz.f8)).headD .skip) = some 3 := by kernel_rfl
      rw [hx', h3] at hid; exact (Option.some.inj hid).symm
    subst h2
    have he' : e14 = e := Option.some.inj he
    subst he'
    rw [hx']
    clear hx hx' hid he hb hf h1
    unfold e14
    split
    · rename_i l i rs rm
      refine ⟨fun g1 => ⟨fun g2 => ⟨fun g3 => ⟨fun g4 => ?_, fun _ => trivial⟩, fun _ => trivial⟩, fun _ => trivial⟩, fun _ => trivial⟩
      rw [nonesV_eq _ _ g1, nonesB_eq _ _ g2, of_decide_eq_true g3]
      exact loop14 l (of_decide_eq_true g4)
    · trivial
  · exfalso
    have : (lv14 f).ent id = none := by
      unfold lv14
      split
      · exact absurd rfl h
      · rfl
    rw [this] at he; cases he
def eQuoted : Ent := fun args pre => match args, pre with
  | [.str l], [] => .chk (decide (l.length ≤ 1000000)) (.ret (.str (39 :: (dblS l ++ [39]))) [])
  | _, _ => .fail
theorem quoted_ok : EntOK Tryz.prog 8 eQuoted := fun args pre => by
  unfold eQuoted
  split
  · rename_i l
    have e : Comes tab0 lv14 8 [.str l] [] (.chk (decide (l.length ≤ 1000000)) (.br (decide ((39 :: dblS l).length + [(39 : UInt8)].length ≤ 9223372036854775807)) (.ret (.str (39 :: dblS l ++ [39])) []) .fail)) := by unfold Comes; kernel_rfl
    refine of_run (ans_comes tab0_ok e lv14_ok) fun r h => ?_
    obtain ⟨h1, h⟩ := chk_run h
    have hl := of_decide_eq_true h1
    have := dbl_len l
    rw [← h]
    simp only [Ans.run, Ans.chk]
    rw [bcT h1, bcT (b := decide ((39 :: dblS l).length + _ ≤ _)) (decide_eq_true (by simp only [List.length_cons, List.length_nil]; omega))]
    rfl
  · trivial
end Go.Proofs.YtanhlbdcjonaoaaGreatDoor

/- Layer 2: texts, read and written, by functions that are not looked into. -/
set_option linter.unusedVariables false
set_option linter.unusedSimpArgs false
namespace Go.Proofs.YtanhlbdcjonaoaaGreatDoor
open Go Sx

def entTx (ok : Rf → Bool) (W : Rf → List UInt8) (w : Rf → Int) : Ent := fun args pre => match args, pre with
  | [.agg [.str s, .int .i64 r, .int .i64 c, .bool a, .bool b, .bool d]], [] => .chk (ok ⟨s, r, c, a, b, d⟩) (.ret (.tuple [.str (W ⟨s, r, c, a, b, d⟩), .int .i64 (w ⟨s, r, c, a, b, d⟩)]) [])
  | _, _ => .fail
def entRd (G : List UInt8 → Rf) (g : List UInt8 → Int) : Ent := fun args pre => match args, pre with
  | [.str l], [] => .chk (decide (l.length ≤ 1000000)) (.ret (.tuple [(G l).v, .int .i64 (g l)]) [])
  | _, _ => .fail
def entQ (Q : List UInt8 → List UInt8) : Ent := fun args pre => match args, pre with
  | [.str l], [] => .chk (decide (l.length ≤ 1000000)) (.ret (.str (Q l)) [])
  | _, _ => .fail
def okT (x : Rf) : Bool := decide (x.s.length ≤ 100000)
def txV (x : Rf) : List UInt8 := bcond (rightB x) (txtS x) []
def txE (x : Rf) : Int := bcond (rightB x) 0 20
def rdC (l : List UInt8) : Bool := (csS l).2.2 && (rcG (colA l)).2 == 0 && (rrG (rowA l)).2 && trimF digB (rowP csS (trimF letB) l) == []
def rdX (l : List UInt8) : Rf := ⟨(csS l).1, (rrG (rowA l)).1, (rcG (colA l)).1, cpB 36 (trimF letB (colP csS l)), cpB 36 (csS l).2.1, false⟩
def torn : Rf := ⟨[], 0, 0, false, false, true⟩
def rdV (l : List UInt8) : Rf := bcond (l == [35, 82, 69, 70, 33]) torn (bcond (rdC l) (rdX l) noRf)
def rdE (l : List UInt8) : Int := bcond (l == [35, 82, 69, 70, 33]) 0 (bcond (rdC l) 0 20)
theorem readA_eq (l : List UInt8) : readA l = .tuple [(rdV l).v, .int .i64 (rdE l)] := by
  unfold readA readS rdV rdE rdC
  cases l == [35, 82, 69, 70, 33] with
  | true => rfl
  | false =>
    simp only [bcond]
    show (match (csS l).2.2 && (rcG (colA l)).2 == 0 && (rrG (rowA l)).2 && trimF digB (rowP csS (trimF letB) l) == [] with | true => _ | false => _) = _
    cases (csS l).2.2 && (rcG (colA l)).2 == 0 && (rrG (rowA l)).2 && trimF digB (rowP csS (trimF letB) l) == [] <;> rfl
theorem ent_tx : entTx okT txV txE = eText := by funext args pre; unfold entTx eText; rfl
theorem rdG_ok : EntOK Tryz.prog 9 (entRd rdV rdE) := fun args pre => by
  unfold entRd
  split
  · rename_i l
    have h := read_ok [.str l] []
    rw [show eRead [.str l] [] = .chk (decide (l.length ≤ 1000000)) (.ret (readA l) []) from rfl, readA_eq] at h
    exact h
  · trivial
theorem ent_q : entQ (fun l => 39 :: (dblS l ++ [39])) = eQuoted := by funext args pre; unfold entQ eQuoted; rfl
def tabB (F : Rf → Rf) (ok : Rf → Bool) (W : Rf → List UInt8) (w : Rf → Int) (G : List UInt8 → Rf) (g : List UInt8 → Int) (Q : List UInt8 → List UInt8) : Tab :=
  (4, eTrue) :: (6, entRef F) :: (15, entTx ok W w) :: (9, entRd G g) :: (8, entQ Q) :: tab11
theorem tabB_ok : TabOK Tryz.prog (tabB refS okT txV txE rdV rdE fun l => 39 :: (dblS l ++ [39])) :=
  .cons awake_ok (.cons refOf_ok (.cons (ent_tx ▸ text_ok) (.cons rdG_ok (.cons (ent_q ▸ quoted_ok) tab11_ok))))
end Go.Proofs.YtanhlbdcjonaoaaGreatDoor
