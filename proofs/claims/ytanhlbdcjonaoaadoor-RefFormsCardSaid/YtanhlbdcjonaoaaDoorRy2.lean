/- Layer 2: great letters, columns' letters: the states of their loops. -/
import Derived.Test.YtanhlbdcjonaoaaDoorRbA
import Derived.Test.YtanhlbdcjonaoaaDoorPx1
import Derived.Test.YtanhlbdcjonaoaaDoorRdR
import Derived.Laws.RangeString
set_option linter.unusedVariables false
set_option linter.unusedSimpArgs false
namespace Go.Proofs.YtanhlbdcjonaoaaDoor
open Go Sx

def st41 (b : List UInt8) (n : Nat) (i : Int) : PState :=
  ⟨none :: none :: none :: some (.vec 0 n) :: none :: none :: none :: none :: some (.vec 0 n) :: some (.int .i64 (n : Int)) :: some (.int .i64 i) :: List.replicate 19 none, some (.vecB b 5) :: List.replicate 64 none⟩
def fin41 (b : List UInt8) (n : Nat) : PState := ⟨none :: none :: none :: some (.vec 0 n) :: List.replicate 26 none, some (.vecB b 5) :: List.replicate 64 none⟩
def st18 (u : List UInt8) (n : Int) (p : Nat) : PState :=
  ⟨none :: none :: none :: none :: some (.int .i64 n) :: none :: none :: none :: none :: some (.ptr 0 0) :: List.replicate 19 none, some (.raw (.iter u p)) :: List.replicate 64 none⟩
end Go.Proofs.YtanhlbdcjonaoaaDoor

/- Layer 2: great letters in the place of small ones: letters.Great of any text. -/
set_option linter.unusedVariables false
set_option linter.unusedSimpArgs false
namespace Go.Proofs.YtanhlbdcjonaoaaDoor
open Go Sx

def upB (x : UInt8) : UInt8 := bcond (decide (97 ≤ x.toNat ∧ x.toNat ≤ 122)) (UInt8.ofNat (x.toNat - 32)) x
def grW (l : List UInt8) (p : Int) : Int := IntKind.u8.wrap (IntKind.u8.wrap (byteAt l (p.toNat * 1) - 97) + 65)
def grN (l : List UInt8) (n : Nat) (p : Int) : Option (Ex × PState) := some (.normal, st41 l n (IntKind.i64.wrap (p + 1)))
theorem round41 (l : List UInt8) (n p : Nat) : code (ent (R := Ex × PState) Tryd.prog tab0 nolv 64 18446744073709551616 30) Tryd.prog {} 0 64 18446744073709551616 ((loopBodies (bodyOf Tryd.f41)).headD .skip) (st41 l n p) (endK 0 64 (fun n => hasN [3, 8, 9, 10] n) (fun n => hasN [3] n)) =
    bcond (decide ((p : Int) < (n : Int))) (bcond (decide (0 ≤ (p : Int) ∧ (p : Int) < (n : Int))) (bcond (decide ((p : Int).toNat * 1 < l.length))
      (bcond (decide (byteAt l ((p : Int).toNat * 1) ≥ 97)) (bcond (decide (byteAt l ((p : Int).toNat * 1) ≤ 122))
        (bcond (decide (0 ≤ (p : Int) ∧ (p : Int) < (n : Int))) (bcond (decide ((p : Int).toNat * 1 < l.length) && decide (0 ≤ grW l p ∧ grW l p < 256)) (grN (l.set ((p : Int).toNat * 1) (toByte (grW l p))) n p) none) none)
        (grN l n p)) (grN l n p)) none) none) (some (.exit 0, fin41 l n)) := by kernel_rfl

def grS (l : List UInt8) (p : Nat) : List UInt8 := (l.take p).map upB ++ l.drop p
theorem gr_at {l : List UInt8} {p : Nat} (h : p < l.length) : grS l p = (l.take p).map upB ++ l[p] :: l.drop (p + 1) := by
  unfold grS; rw [List.drop_eq_getElem_cons h]
theorem gr_next {l : List UInt8} {p : Nat} (h : p < l.length) : grS l (p + 1) = (l.take p).map upB ++ upB l[p] :: l.drop (p + 1) := by
  unfold grS; rw [List.take_succ_eq_append_getElem h, List.map_append, List.append_assoc]; rfl
theorem set_mid {α : Type} (A B : List α) (x v : α) {n : Nat} (h : A.length = n) : (A ++ x :: B).set n v = A ++ v :: B := by
  subst h; simp
theorem byte_mid (A B : List UInt8) (x : UInt8) {n : Nat} (h : A.length = n) : byteAt (A ++ x :: B) n = (x.toNat : Int) := by
  subst h; unfold byteAt; simp
theorem gr_len {l : List UInt8} {p : Nat} (h : p ≤ l.length) : (grS l p).length = l.length := by
  unfold grS; simp; omega
theorem up_small {x : UInt8} (h : 97 ≤ x.toNat ∧ x.toNat ≤ 122) : toByte (IntKind.u8.wrap (IntKind.u8.wrap ((x.toNat : Int) - 97) + 65)) = upB x ∧ (0 ≤ IntKind.u8.wrap (IntKind.u8.wrap ((x.toNat : Int) - 97) + 65) ∧ IntKind.u8.wrap (IntKind.u8.wrap ((x.toNat : Int) - 97) + 65) < 256) := by
  have e : IntKind.u8.wrap (IntKind.u8.wrap ((x.toNat : Int) - 97) + 65) = (x.toNat : Int) - 32 := by
    rw [u8_in (n := (x.toNat : Int) - 97) (by omega) (by omega), u8_in (by omega) (by omega)]; omega
  rw [e]
  refine ⟨?_, by omega, by omega⟩
  unfold upB toByte
  rw [bcT (decide_eq_true h)]
  congr 1; omega
theorem loop41 (l : List UInt8) (hl : l.length ≤ 9223372036854775807) : Tri Tryd.prog (.loop ((loopBodies (bodyOf Tryd.f41)).headD .skip)) (st41 l l.length 0).toA (.exit 0) (fin41 (l.map upB) l.length).toA 0 := by
  have h0 : l = grS l 0 := by unfold grS; simp
  have key := loop_rounds (ι := { p : Nat // p ≤ l.length }) (ent_sound (NF := 64) (m := 18446744073709551616) tab0_ok host nolv_ok 30) (x := (loopBodies (bodyOf Tryd.f41)).headD .skip) (K := 0) (lv := {}) (NF := 64) (m := 18446744073709551616) (fun x hx id e h1 h2 => by cases h2) (fun n => hasN [3, 8, 9, 10] n) (fun n => hasN [3] n) (fun p => st41 (grS l p.1) l.length (p.1 : Int)) (fun p => l.length - p.1) (fun p => (.exit 0, fin41 (l.map upB) l.length)) ?_ (fun p => by simp) ⟨0, Nat.zero_le _⟩
  · simp only at key
    rw [← h0] at key
    exact key
  rintro ⟨p, hp⟩
  simp only
  rw [round41, Nat.mul_one, Int.toNat_natCast]
  by_cases h : p < l.length
  · have hw : IntKind.i64.wrap ((p : Int) + 1) = ((p + 1 : Nat) : Int) := by rw [i64_in (by omega) (by omega)]; rfl
    have htl : ((l.take p).map upB).length = p := by simp; omega
    have hb : byteAt (grS l p) p = (l[p].toNat : Int) := by rw [gr_at h]; exact byte_mid _ _ _ htl
    have hW : grW (grS l p) p = IntKind.u8.wrap (IntKind.u8.wrap ((l[p].toNat : Int) - 97) + 65) := by
      unfold grW; rw [Nat.mul_one, Int.toNat_natCast, hb]
    unfold grN
    rw [hw, hb, hW, gr_len hp, bcT (b := decide ((p : Int) < (l.length : Int))) (decide_eq_true (by omega)), bcT (b := decide (0 ≤ (p : Int) ∧ _)) (by rw [decide_eq_true_eq]; omega), bcT (b := decide (p < l.length)) (decide_eq_true h)]
    refine .inl ⟨⟨p + 1, h⟩, by simp only; omega, trivial, ?_⟩
    by_cases h1 : 97 ≤ l[p].toNat
    · rw [bcT (b := decide ((l[p].toNat : Int) ≥ 97)) (decide_eq_true (by omega))]
      by_cases h2 : l[p].toNat ≤ 122
      · have hs := up_small (x := l[p]) ⟨h1, h2⟩
        rw [bcT (b := decide ((l[p].toNat : Int) ≤ 122)) (decide_eq_true (by omega)), bcT (b := decide (0 ≤ (p : Int) ∧ _)) (by rw [decide_eq_true_eq]; omega), bcT (b := _ && _) (by rw [decide_eq_true h, decide_eq_true hs.2]; rfl), hs.1, gr_next h]
        rw [gr_at h, set_mid _ _ _ _ htl]
      · have hu : upB l[p] = l[p] := by unfold upB; rw [bcF (decide_eq_false (by omega))]
        rw [bcF (b := decide ((l[p].toNat : Int) ≤ 122)) (decide_eq_false (by omega)), gr_next h, hu, gr_at h]
    · have hu : upB l[p] = l[p] := by unfold upB; rw [bcF (decide_eq_false (by omega))]
      rw [bcF (b := decide ((l[p].toNat : Int) ≥ 97)) (decide_eq_false (by omega)), gr_next h, hu, gr_at h]
  · right
    have : p = l.length := by omega
    subst this
    rw [bcF (b := decide _) (decide_eq_false (by omega))]
    have : grS l l.length = l.map upB := by unfold grS; simp
    rw [this]

def e41 : Nat → PState → LAns := fun K t => match K, t with
  | 0, ⟨none :: none :: none :: some (.vec 0 n) :: none :: none :: none :: none :: some (.vec 0 n1) :: some (.int .i64 n2) :: some (.int .i64 i) :: rs, some (.vecB l 5) :: rm⟩ =>
    .chk (nonesV 19 rs) (.chk (nonesB 64 rm) (.chk (decide (n = l.length ∧ n1 = l.length ∧ n2 = (l.length : Int) ∧ i = 0 ∧ l.length ≤ 9223372036854775807)) (.out (.exit 0) (fin41 (l.map upB) l.length))))
  | _, _ => .fail
def lv41 : FuncId → Lv := fun f => match f with
  | 41 => { keep := fun _ => some [3, 8, 9, 10], ent := fun i => match i with | 3 => some e41 | _ => none }
  | _ => {}
theorem lv41_ok : LvOK Tryd.prog lv41 := by
  intro f fn body hf hb K x hx id e hid he t
  by_cases h : f = 41
  · subst h
    obtain rfl : fn = Tryd.f41 := (Option.some.inj (Tryd.func41.symm.trans hf)).symm
    have hbody : body = bodyOf Tryd.f41 := by unfold bodyOf; rw [hb]; rfl
    subst hbody
    have h1 : loopBodies (bodyOf Tryd.f41) = [(loopBodies (bodyOf Tryd.f41)).headD .skip] := by kernel_rfl
    rw [h1] at hx
    have hx' := List.mem_singleton.1 hx
    have h2 : id = 3 := by
      have h3 : headReg ((loopBodies (bodyOf Tryd.f41)).headD .skip) = some 3 := by kernel_rfl
      rw [hx', h3] at hid; exact (Option.some.inj hid).symm
    subst h2
    have he' : e41 = e := Option.some.inj he
    subst he'
    rw [hx']
    clear hx hx' hid he hb hf h1
    unfold e41
    split
    · rename_i n n1 n2 i rs l rm
      refine ⟨fun g1 => ⟨fun g2 => ⟨fun g3 => ?_, fun _ => trivial⟩, fun _ => trivial⟩, fun _ => trivial⟩
      obtain ⟨k1, k2, k3, k4, k5⟩ := of_decide_eq_true g3
      subst k1; subst k2; subst k3; subst k4
      rw [nonesV_eq _ _ g1, nonesB_eq _ _ g2]
      exact loop41 l k5
    · trivial
  · exfalso
    have : (lv41 f).ent id = none := by
      unfold lv41
      split
      · exact absurd rfl h
      · rfl
    rw [this] at he; cases he
def eGreat : Ent := fun args pre => match args, pre with
  | [.str l], [] => .chk (decide (l.length ≤ 1000000)) (.ret (.str (l.map upB)) [])
  | _, _ => .fail
theorem great_ok : EntOK Tryd.prog 41 eGreat := fun args pre => by
  unfold eGreat
  split
  · rename_i l
    have e : Comes tab0 lv41 41 [.str l] [] (.chk (decide (l.length = l.length ∧ l.length = l.length ∧ (l.length : Int) = (l.length : Int) ∧ (0 : Int) = 0 ∧ l.length ≤ 9223372036854775807)) (.br (decide (l.length ≤ (l.map upB).length)) (.ret (.str ((l.map upB).take l.length)) []) .fail)) := by unfold Comes; kernel_rfl
    refine of_run (ans_comes tab0_ok e lv41_ok) fun r h => ?_
    obtain ⟨h1, h⟩ := chk_run h
    have hl := of_decide_eq_true h1
    rw [← h]
    simp only [Ans.run, Ans.chk]
    rw [bcT (b := decide (_ ∧ _)) (by rw [decide_eq_true_eq]; refine ⟨?_, ?_, ?_, ?_, by omega⟩ <;> trivial), bcT (b := decide (l.length ≤ (l.map upB).length)) (decide_eq_true (by simp)), List.take_of_length_le (by simp)]
  · trivial
end Go.Proofs.YtanhlbdcjonaoaaDoor

/- Layer 2: the column of any letters. -/
set_option linter.unusedVariables false
set_option linter.unusedSimpArgs false
namespace Go.Proofs.YtanhlbdcjonaoaaDoor
open Go Sx

def tabRc : Tab := (41, eGreat) :: tabL
theorem tabRc_ok : TabOK Tryd.prog tabRc := .cons great_ok tabL_ok
def rcW (n c : Int) : Int := IntKind.i64.wrap (IntKind.i64.wrap (IntKind.i64.wrap (n * 26) + IntKind.i64.wrap (IntKind.i32.wrap (c - 65))) + 1)
def fin18x (n : Int) : PState := ⟨none :: none :: none :: none :: some (.int .i64 n) :: List.replicate 24 none, List.replicate 64 none⟩
def fin18r (n : Int) : PState := ⟨none :: none :: some (.int .i64 0) :: some (.int .i64 20) :: some (.int .i64 n) :: List.replicate 24 none, List.replicate 64 none⟩
theorem round18 (u : List UInt8) (n : Int) (p : Nat) : code (ent (R := Ex × PState) Tryd.prog tabRc nolv 64 18446744073709551616 30) Tryd.prog {} 0 64 18446744073709551616 ((loopBodies (bodyOf Tryd.f18)).headD .skip) (st18 u n p) (endK 0 64 (fun n => hasN [4, 9] n) (fun n => hasN [2, 3, 4] n)) =
    bcond (decide (p < u.length)) (bcond (!letB (runeAt u p)) (some (.ret, fin18r n)) (bcond (decide (rcW n (runeAt u p) > 52)) (some (.ret, fin18r (rcW n (runeAt u p)))) (some (.normal, st18 u (rcW n (runeAt u p)) (p + (Utf8.decode ⟨u.toArray⟩ p).2)))))
      (some (.exit 0, fin18x n)) := by kernel_rfl

/-- Great letters as a number: whether it stays at most 52, and the last one. -/
def rcR : Nat → List UInt8 → Bool × Nat
  | n, [] => (true, n)
  | n, c :: l => bcond (Nat.ble (n * 26 + (c.toNat - 65) + 1) 52) (rcR (n * 26 + (c.toNat - 65) + 1) l) (false, n * 26 + (c.toNat - 65) + 1)
def capB (c : UInt8) : Bool := Nat.ble 65 c.toNat && Nat.ble c.toNat 90
theorem cap_iff {c : UInt8} : capB c = true ↔ 65 ≤ c.toNat ∧ c.toNat ≤ 90 := by unfold capB; rw [Bool.and_eq_true, bleT, bleT]
def res18 (r : Bool × Nat) : Ex × PState := bcond r.1 (.exit 0, fin18x (r.2 : Int)) (.ret, fin18r (r.2 : Int))
theorem loop18 (u : List UInt8) (hu : u.all capB = true) : Tri Tryd.prog (.loop ((loopBodies (bodyOf Tryd.f18)).headD .skip)) (st18 u 0 0).toA (res18 (rcR 0 u)).1 (res18 (rcR 0 u)).2.toA 0 := by
  have key := loop_rounds (ι := { q : Nat × Nat // q.1 ≤ u.length ∧ q.2 ≤ 52 }) (ent_sound (NF := 64) (m := 18446744073709551616) tabRc_ok host nolv_ok 30) (x := (loopBodies (bodyOf Tryd.f18)).headD .skip) (K := 0) (lv := {}) (NF := 64) (m := 18446744073709551616) (fun x hx id e h1 h2 => by cases h2) (fun n => hasN [4, 9] n) (fun n => hasN [2, 3, 4] n) (fun q => st18 u (q.1.2 : Int) q.1.1) (fun q => u.length - q.1.1) (fun q => res18 (rcR q.1.2 (u.drop q.1.1))) ?_ (fun q => by
      simp only [res18]; cases (rcR q.1.2 (u.drop q.1.1)).1 <;> simp [bcond]) ⟨(0, 0), Nat.zero_le _, Nat.zero_le _⟩
  · exact key
  rintro ⟨⟨p, n⟩, hp, hn⟩
  simp only at hp hn ⊢
  rw [round18]
  by_cases h : p < u.length
  · have hc := cap_iff.1 (List.all_eq_true.1 hu _ (List.getElem_mem h))
    have hs : p < (⟨u.toArray⟩ : ByteArray).size := by simpa [ByteArray.size] using h
    have hd := Go.decode_ascii ⟨u.toArray⟩ p hs (by show (u.toArray[p]'(by simpa using h)).toNat < 128; simp; omega)
    have hr : runeAt u p = (u[p].toNat : Int) := by unfold runeAt; rw [hd]; rfl
    have hw : (Utf8.decode ⟨u.toArray⟩ p).2 = 1 := by rw [hd]
    have hW : rcW (n : Int) (u[p].toNat : Int) = ((n * 26 + (u[p].toNat - 65) + 1 : Nat) : Int) := by
      unfold rcW
      rw [i32_in (by omega) (by omega), i64_in (n := (n : Int) * 26) (by omega) (by omega), i64_in (n := (u[p].toNat : Int) - 65) (by omega) (by omega), i64_in (n := (n : Int) * 26 + ((u[p].toNat : Int) - 65)) (by omega) (by omega), i64_in (by omega) (by omega)]
      omega
    have hl : (!letB (u[p].toNat : Int)) = false := by
      unfold letB
      rw [decide_eq_true (show (65 ≤ (u[p].toNat : Int) ∧ (u[p].toNat : Int) ≤ 90) ∨ _ from .inl ⟨by omega, by omega⟩)]; rfl
    rw [hr, hw, hW, hl, bcT (b := decide (p < u.length)) (decide_eq_true h), bcF rfl, List.drop_eq_getElem_cons h, rcR]
    generalize hm : n * 26 + (u[p].toNat - 65) + 1 = m
    by_cases h1 : m ≤ 52
    · rw [bcF (b := decide ((m : Int) > 52)) (decide_eq_false (by omega)), bcT (b := Nat.ble m 52) (bleT.2 h1)]
      exact .inl ⟨⟨(p + 1, m), h, h1⟩, by simp only; omega, rfl, rfl⟩
    · rw [bcT (b := decide ((m : Int) > 52)) (decide_eq_true (by omega)), bcF (b := Nat.ble m 52) (Bool.eq_false_iff.2 fun e => h1 (bleT.1 e))]
      exact .inr rfl
  · right
    have : p = u.length := by omega
    subst this
    rw [bcF (b := decide _) (decide_eq_false (by omega)), List.drop_length]
    rfl

def e18 : Nat → PState → LAns := fun K t => match K, t with
  | 0, ⟨none :: none :: none :: none :: some (.int .i64 n) :: none :: none :: none :: none :: some (.ptr 0 0) :: rs, some (.raw (.iter u 0)) :: rm⟩ =>
    .chk (nonesV 19 rs) (.chk (nonesB 64 rm) (.chk (decide (n = 0)) (.chk (u.all capB) (.br (rcR 0 u).1 (.out (.exit 0) (fin18x ((rcR 0 u).2 : Int))) (.out .ret (fin18r ((rcR 0 u).2 : Int)))))))
  | _, _ => .fail
def lv18 : FuncId → Lv := fun f => match f with
  | 18 => { keep := fun _ => some [4, 9], ent := fun i => match i with | 3 => some e18 | _ => none }
  | _ => {}
theorem lv18_ok : LvOK Tryd.prog lv18 := by
  intro f fn body hf hb K x hx id e hid he t
  by_cases h : f = 18
  · subst h
    obtain rfl : fn = Tryd.f18 := (Option.some.inj (Tryd.func18.symm.trans hf)).symm
    have hbody : body = bodyOf Tryd.f18 := by unfold bodyOf; rw [hb]; rfl
    subst hbody
    have h1 : loopBodies (bodyOf Tryd.f18) = [(loopBodies (bodyOf Tryd.f18)).headD .skip] := by kernel_rfl
    rw [h1] at hx
    have hx' := List.mem_singleton.1 hx
    have h2 : id = 3 := by
      have h3 : headReg ((loopBodies (bodyOf Tryd.f18)).headD .skip) = some 3 := by kernel_rfl
      rw [hx', h3] at hid; exact (Option.some.inj hid).symm
    subst h2
    have he' : e18 = e := Option.some.inj he
    subst he'
    rw [hx']
    clear hx hx' hid he hb hf h1
    unfold e18
    split
    · rename_i n rs u rm
      refine ⟨fun g1 => ⟨fun g2 => ⟨fun g3 => ⟨fun g4 => ?_, fun _ => trivial⟩, fun _ => trivial⟩, fun _ => trivial⟩, fun _ => trivial⟩
      have g3 := of_decide_eq_true g3
      subst g3
      rw [nonesV_eq _ _ g1, nonesB_eq _ _ g2]
      have := loop18 u g4
      refine ⟨fun hc => ?_, fun hc => ?_⟩
      · unfold res18 at this; rw [bcT hc] at this; exact this
      · unfold res18 at this; rw [bcF hc] at this; exact this
    · trivial
  · exfalso
    have : (lv18 f).ent id = none := by
      unfold lv18
      split
      · exact absurd rfl h
      · rfl
    rw [this] at he; cases he
/-- The column of some letters, less one, and the error. -/
def rcG (l : List UInt8) : Int × Int := bcond ((rcR 0 (l.map upB)).1 && !(Nat.beq (rcR 0 (l.map upB)).2 0)) (((rcR 0 (l.map upB)).2 : Int) - 1, 0) (0, 20)
def letsB (l : List UInt8) : Bool := Nat.ble l.length 1000000 && l.all fun c => letB c.toNat
theorem up_cap {c : UInt8} (h : letB c.toNat = true) : capB (upB c) = true := by
  unfold letB at h
  have h := of_decide_eq_true h
  rw [cap_iff]
  unfold upB
  by_cases h1 : 97 ≤ c.toNat ∧ c.toNat ≤ 122
  · rw [bcT (decide_eq_true h1), UInt8.toNat_ofNat']; omega
  · rw [bcF (decide_eq_false h1)]; omega
theorem rcR_le : ∀ (l : List UInt8) (n : Nat), n ≤ 52 → (rcR n l).2 ≤ 100000000
  | [], n, h => by simp only [rcR]; omega
  | c :: l, n, h => by
    have hc : c.toNat < 256 := UInt8.toNat_lt _
    simp only [rcR]
    cases h1 : Nat.ble (n * 26 + (c.toNat - 65) + 1) 52 with
    | true => exact rcR_le l _ (bleT.1 h1)
    | false => simp only [bcond]; omega
theorem rcR_ok : ∀ (l : List UInt8) (n : Nat), n ≤ 52 → (rcR n l).1 = true → (rcR n l).2 ≤ 52
  | [], n, h, _ => h
  | c :: l, n, h, hr => by
    simp only [rcR] at hr ⊢
    cases h1 : Nat.ble (n * 26 + (c.toNat - 65) + 1) 52 with
    | true => rw [h1] at hr; exact rcR_ok l _ (bleT.1 h1) hr
    | false => rw [h1] at hr; cases hr
def eRCg : Ent := fun args pre => match args, pre with
  | [.str l], [] => .chk (letsB l) (.ret (.tuple [.int .i64 (rcG l).1, .int .i64 (rcG l).2]) [])
  | _, _ => .fail
theorem readColG_ok : EntOK Tryd.prog 18 eRCg := fun args pre => by
  unfold eRCg
  split
  · rename_i l
    have e : Comes tabRc lv18 18 [.str l] [] (.chk (decide (l.length ≤ 1000000)) (.chk (decide ((0 : Int) = 0)) (.chk ((l.map upB).all capB) (.br (rcR 0 (l.map upB)).1 (.br (((rcR 0 (l.map upB)).2 : Int) == 0) (.ret (.tuple [.int .i64 0, .int .i64 20]) []) (.ret (.tuple [.int .i64 (IntKind.i64.wrap (((rcR 0 (l.map upB)).2 : Int) - 1)), .int .i64 0]) []))
      (.ret (.tuple [.int .i64 0, .int .i64 20]) []))))) := by unfold Comes; kernel_rfl
    refine of_run (ans_comes tabRc_ok e lv18_ok) fun r h => ?_
    obtain ⟨h1, h⟩ := chk_run h
    unfold letsB at h1
    rw [Bool.and_eq_true] at h1
    have hcap : (l.map upB).all capB = true := by
      rw [List.all_map]
      exact List.all_eq_true.2 fun c hc => up_cap (List.all_eq_true.1 h1.2 c hc)
    rw [← h]
    simp only [Ans.run, Ans.chk]
    rw [bcT (b := decide (l.length ≤ 1000000)) (decide_eq_true (bleT.1 h1.1)), bcT (b := decide True) (decide_eq_true trivial), bcT hcap]
    unfold rcG
    have hle := rcR_le (l.map upB) 0 (Nat.zero_le _)
    generalize rcR 0 (l.map upB) = x at *
    obtain ⟨b, n⟩ := x
    simp only at hle ⊢
    cases b with
    | false => rfl
    | true =>
      cases n with
      | zero => rfl
      | succ n =>
        rw [i64_in (by omega) (by omega)]
        have hz : (((n + 1 : Nat) : Int) == 0) = false := beq_eq_false_iff_ne.2 (by omega)
        simp only [hz]
        rfl
  · trivial
end Go.Proofs.YtanhlbdcjonaoaaDoor
