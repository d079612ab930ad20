/- Layer 26: the pieces of what is written: a round of the loop in Write. -/
import Derived.Test.YtoekeplljjaehaaDkA
import Derived.Test.YtoekeplljjaehaaGr05
set_option linter.unusedVariables false
set_option linter.unusedSimpArgs false
namespace Go.Proofs.Ytoekeplljjaehaa
open Go Sx

def rngOf : Code → Option (Array Tmp × Code × Code)
  | .seq a b => match rngOf a with | some r => some r | none => rngOf b
  | .block _ b => rngOf b
  | .rangeFunc _ ps a b => some (ps, a, b)
  | _ => none
def asgOf (c : Code) : Code := match rngOf c with | some (_, a, _) => a | none => .skip
def rbOf (c : Code) : Code := match rngOf c with | some (_, _, b) => b | none => .skip
abbrev dT : Nat := 65
abbrev pT : Nat := 69
abbrev shP : List CK := [.int .i64, .str]

def mI (a : Int) (s : List UInt8) : Int := if (s.length : Int) < IntKind.i64.wrap (64 - a.tmod 64) then (s.length : Int) else IntKind.i64.wrap (64 - a.tmod 64)
def pI (a : Int) (s : List UInt8) : List UInt8 := List.take ((mI a s).toNat - 0) (List.drop 0 s)
def oI (a : Int) (n : Nat) : Nat := if n = a.toNat then 0 else 0 + a.toNat * 1
def tI (a : Int) (s t : List UInt8) (n : Nat) : List UInt8 := List.take (oI a n) t ++ pI a s ++ List.drop (oI a n + (pI a s).length) t
def sJ (a : Int) (s : List UInt8) : List UInt8 := List.take (s.length - (mI a s).toNat) (List.drop (mI a s).toNat s)
def aJ (a : Int) (s : List UInt8) : Int := IntKind.i64.wrap (a + mI a s)
def rJ (a : Int) (s : List UInt8) : List CV := [.mk a [] false [], .mk 0 (pI a s) false []]

def whM (asg body : Code) (a : Int) (s k t : List UInt8) (n : Nat) (p : AV) : List (Option PObj) :=
  [some (.raw (.loopR true 36 [3] [.ptr 3 0] [19] asg body)), some (.raw (.cells [.str s] 9)), some (.raw (.cells [.int .i64 a] 3)), some (.raw (.cells [.ptr 4 0] 24)), some (.raw (.cells [.slice 5 0 n n, .slice 6 0 n n, p] dT)), some (.arrB k 5), some (.arrB t 5)]
abbrev wsl : List (Option AV) := some (.func yF [.ptr 0 0] []) :: some (.ptr 1 0) :: some (.ptr 2 0) :: List.replicate 24 none
abbrev nsl : List (Option AV) := List.replicate 27 none
/-- Nothing pending; some pending, in a block that the call made, or was handed; some, in another one than it was handed. -/
def sA0 (sl : List (Option AV)) (asg body : Code) (a : Int) (s k t : List UInt8) (n : Nat) : PState := ⟨sl, whM asg body a s k t n .nilslice ++ List.replicate 64 none⟩
def sA1 (sl : List (Option AV)) (asg body : Code) (a : Int) (s k t : List UInt8) (n : Nat) (rows : List (List CV)) (m : Nat) : PState := ⟨sl, whM asg body a s k t n (.vec 7 m) ++ some (.vecR shP rows pT) :: List.replicate 64 none⟩
def sB1 (sl : List (Option AV)) (asg body : Code) (a : Int) (s k t : List UInt8) (n : Nat) (rows : List (List CV)) (m : Nat) : PState := ⟨sl, whM asg body a s k t n (.vec 8 m) ++ some (.raw .dead) :: some (.vecR shP rows pT) :: List.replicate 64 none⟩
def okR (a : Int) (s t : List UInt8) (n : Nat) (b : Bool) (x : Option (Ex × PState)) : Option (Ex × PState) :=
  bcond (decide (0 ≤ mI a s ∧ (mI a s).toNat ≤ s.length)) (bcond (decide (0 ≤ a) && true && true && decide (a.toNat ≤ n ∧ n ≤ n ∧ n ≤ n)) (bcond (decide ((pI a s).length ≤ n - a.toNat ∧ oI a n + (pI a s).length ≤ t.length)) (bcond b (bcond (decide (0 ≤ mI a s ∧ (mI a s).toNat ≤ s.length)) x none) none) none) none) none

theorem rA0 (a : Int) (s k t : List UInt8) (n : Nat) : code (ent Try.prog [] nolv 64 1 20) Try.prog {} 7 64 1 ((loopBodies (bodyOf Try.f38)).headD .skip) (sA0 wsl (asgOf (bodyOf Try.f25)) (rbOf (bodyOf Try.f25)) a s k t n)
  (endK 7 64 (fun n => hasN [0, 1, 2] n) (fun n => hasN [] n)) = bcond (!(s == [])) (okR a s t n true (some (.normal, sA1 wsl (asgOf (bodyOf Try.f25)) (rbOf (bodyOf Try.f25)) (aJ a s) (sJ a s) k (tI a s t n) n [rJ a s] 1))) (some (.exit 0, sA0 nsl (asgOf (bodyOf Try.f25)) (rbOf (bodyOf Try.f25)) a s k t n)) := by kernel_rfl

end Go.Proofs.Ytoekeplljjaehaa

/- Layer 26: the pieces of what is written: rounds behind the first. -/
set_option linter.unusedVariables false
set_option linter.unusedSimpArgs false
namespace Go.Proofs.Ytoekeplljjaehaa
open Go Sx
noncomputable abbrev asgW : Code := asgOf (bodyOf Try.f25)
noncomputable abbrev bodyW : Code := rbOf (bodyOf Try.f25)
noncomputable abbrev loopW : Code := (loopBodies (bodyOf Try.f38)).headD .skip
def sB0 (sl : List (Option AV)) (asg body : Code) (a : Int) (s k t : List UInt8) (n : Nat) (rows : List (List CV)) (m : Nat) : PState := ⟨sl, whM asg body a s k t n (.vec 7 m) ++ some (.vecR shP rows pT) :: List.replicate 64 none⟩
theorem rA1 (a : Int) (s k t : List UInt8) (n : Nat) (rows : List (List CV)) (m : Nat) : code (ent Try.prog [] nolv 64 1 20) Try.prog {} 7 64 1 loopW (sA1 wsl asgW bodyW a s k t n rows m)
  (endK 7 64 (fun n => hasN [0, 1, 2] n) (fun n => hasN [] n)) = bcond (!(s == [])) (okR a s t n (decide (rows.length * 2 = m * 2) && roomB (m + 1) 24) (some (.normal, sA1 wsl asgW bodyW (aJ a s) (sJ a s) k (tI a s t n) n (rows ++ [rJ a s]) (m + 1)))) (some (.exit 0, sA1 nsl asgW bodyW a s k t n rows m)) := by kernel_rfl
theorem rB0 (a : Int) (s k t : List UInt8) (n : Nat) (rows : List (List CV)) (m : Nat) : code (ent Try.prog [] nolv 64 1 20) Try.prog {} 8 64 1 loopW (sB0 wsl asgW bodyW a s k t n rows m)
  (endK 8 64 (fun n => hasN [0, 1, 2] n) (fun n => hasN [] n)) = bcond (!(s == [])) (okR a s t n (decide (rows.length * 2 = m * 2) && roomB (m + 1) 24) (some (.normal, sB1 wsl asgW bodyW (aJ a s) (sJ a s) k (tI a s t n) n (rows ++ [rJ a s]) (m + 1)))) (some (.exit 0, sB0 nsl asgW bodyW a s k t n rows m)) := by kernel_rfl
theorem rB1 (a : Int) (s k t : List UInt8) (n : Nat) (rows : List (List CV)) (m : Nat) : code (ent Try.prog [] nolv 64 1 20) Try.prog {} 8 64 1 loopW (sB1 wsl asgW bodyW a s k t n rows m)
  (endK 8 64 (fun n => hasN [0, 1, 2] n) (fun n => hasN [] n)) = bcond (!(s == [])) (okR a s t n (decide (rows.length * 2 = m * 2) && roomB (m + 1) 24) (some (.normal, sB1 wsl asgW bodyW (aJ a s) (sJ a s) k (tI a s t n) n (rows ++ [rJ a s]) (m + 1)))) (some (.exit 0, sB1 nsl asgW bodyW a s k t n rows m)) := by kernel_rfl
end Go.Proofs.Ytoekeplljjaehaa

/- Layer 26: the pieces of what is written: all rounds. -/
set_option linter.unusedVariables false
set_option linter.unusedSimpArgs false
namespace Go.Proofs.Ytoekeplljjaehaa
open Go Sx

/-- Bytes laid over others. -/
def splice (a : Nat) (s t : List UInt8) : List UInt8 := t.take a ++ s ++ t.drop (a + s.length)
theorem splice_len {a : Nat} {s t : List UInt8} (h : a + s.length ≤ t.length) : (splice a s t).length = t.length := by
  unfold splice; simp only [List.length_append, List.length_take, List.length_drop]; omega
/-- How much of it goes into a sector. -/
def hd (a : Nat) (s : List UInt8) : Nat := if s.length < 64 - a % 64 then s.length else 64 - a % 64
theorem hd_le (a : Nat) (s : List UInt8) : hd a s ≤ s.length := by unfold hd; split <;> omega
theorem hd_pos {a : Nat} {s : List UInt8} (h : 0 < s.length) : 1 ≤ hd a s := by
  have := Nat.mod_lt a (show 0 < 64 by omega)
  unfold hd; split <;> omega
def partsF : Nat → Nat → List UInt8 → List (Nat × List UInt8)
  | 0, _, _ => []
  | f + 1, a, [] => []
  | f + 1, a, c :: s => (a, (c :: s).take (hd a (c :: s))) :: partsF f (a + hd a (c :: s)) ((c :: s).drop (hd a (c :: s)))
/-- The pieces of what is written from a place on. -/
def parts (a : Nat) (s : List UInt8) : List (Nat × List UInt8) := partsF s.length a s
theorem partsF_nil : ∀ (f a : Nat), partsF f a [] = []
  | 0, _ => rfl
  | _ + 1, _ => rfl
theorem partsF_eq : ∀ (f g a : Nat) (s : List UInt8), s.length ≤ f → s.length ≤ g → partsF f a s = partsF g a s
  | f, g, a, [], _, _ => by rw [partsF_nil, partsF_nil]
  | 0, g, a, c :: s, h, _ => by simp at h
  | f + 1, 0, a, c :: s, _, h => by simp at h
  | f + 1, g + 1, a, c :: s, h1, h2 => by
    have h3 : 1 ≤ hd a (c :: s) := hd_pos (by simp)
    simp only [partsF]
    rw [partsF_eq f g] <;> simp only [List.length_drop, List.length_cons] at * <;> omega
theorem parts_nil (a : Nat) : parts a [] = [] := rfl
theorem parts_cons {a : Nat} {s : List UInt8} (h : 0 < s.length) : parts a s = (a, s.take (hd a s)) :: parts (a + hd a s) (s.drop (hd a s)) := by
  cases s with
  | nil => simp at h
  | cons c s =>
    have h3 : 1 ≤ hd a (c :: s) := hd_pos (by simp)
    show partsF (s.length + 1) a (c :: s) = _
    simp only [partsF]
    congr 1
    apply partsF_eq <;> simp only [List.length_drop, List.length_cons] at * <;> omega
theorem parts_len : ∀ (f a : Nat) (s : List UInt8), s.length ≤ f → (parts a s).length ≤ s.length
  | _, a, [], _ => by simp [parts_nil]
  | 0, a, c :: s, h => by simp at h
  | f + 1, a, c :: s, h => by
    have h3 : 1 ≤ hd a (c :: s) := hd_pos (by simp)
    have h4 := hd_le a (c :: s)
    rw [parts_cons (by simp)]
    have := parts_len f (a + hd a (c :: s)) ((c :: s).drop (hd a (c :: s))) (by simp only [List.length_drop, List.length_cons] at *; omega)
    simp only [List.length_drop, List.length_cons] at *
    omega
def rowOf (p : Nat × List UInt8) : List CV := [.mk (p.1 : Int) [] false [], .mk 0 p.2 false []]
theorem splice_two {a m : Nat} {s t : List UInt8} (h : a + s.length ≤ t.length) (hm : m ≤ s.length) : splice (a + m) (s.drop m) (splice a (s.take m) t) = splice a s t := by
  unfold splice
  have e1 : (List.take a t ++ List.take m s).length = a + m := by simp only [List.length_append, List.length_take]; omega
  have e2 : (List.take m s).length = m := by simp only [List.length_take]; omega
  rw [List.take_append_of_le_length (by rw [e1]; omega), List.take_of_length_le (by rw [e1]; omega), e2, List.length_drop]
  have e3 : List.drop (a + m + (s.length - m)) (List.take a t ++ List.take m s ++ List.drop (a + m) t) = List.drop (s.length - m) (List.drop (a + m) t) := by
    rw [← e1, List.drop_append, List.drop_of_length_le (by omega), List.nil_append]
    congr 1; omega
  rw [e3, List.drop_drop, List.append_assoc (List.take a t), List.take_append_drop]
  congr 2; omega

theorem mI_nat {a : Nat} {s : List UInt8} (ha : a < 4611686018427387904) : mI a s = (hd a s : Nat) := by
  unfold mI hd
  have e : ((a : Int).tmod 64) = ((a % 64 : Nat) : Int) := by
    rw [Int.tmod_eq_emod_of_nonneg (by omega)]; omega
  have := Nat.mod_lt a (show 0 < 64 by omega)
  rw [e, i64_in (by omega) (by omega)]
  split <;> split <;> omega
theorem pI_nat {a : Nat} {s : List UInt8} (ha : a < 4611686018427387904) : pI a s = s.take (hd a s) := by
  unfold pI; rw [mI_nat ha]; rfl
/-- What a round comes to, said in numbers. -/
theorem round_nat {a : Nat} {s t : List UInt8} {n : Nat} (hn : n ≤ 1099511627776) (hs : 0 < s.length) (ha : a + s.length ≤ n) (ht : t.length = n) :
    aJ (a : Int) s = ((a + hd a s : Nat) : Int) ∧ sJ a s = s.drop (hd a s) ∧ tI a s t n = splice a (s.take (hd a s)) t ∧ rJ a s = rowOf (a, s.take (hd a s)) := by
  have h1 := hd_le a s
  have hm := mI_nat (s := s) (show a < 4611686018427387904 by omega)
  have hp := pI_nat (s := s) (show a < 4611686018427387904 by omega)
  refine ⟨?_, ?_, ?_, ?_⟩
  · unfold aJ; rw [hm, i64_in (by omega) (by omega)]; omega
  · unfold sJ; rw [hm]
    rw [List.take_of_length_le]
    · rfl
    · rw [List.length_drop]; show s.length - hd a s ≤ _; exact Nat.le_refl _
  · unfold tI oI splice; rw [hp, if_neg (by show ¬ n = a; omega)]
    show List.take (0 + a * 1) t ++ _ ++ List.drop (0 + a * 1 + _) t = _
    rw [show 0 + a * 1 = a by omega]
  · unfold rJ rowOf; rw [hp]
theorem okR_nat {a : Nat} {s t : List UInt8} {n : Nat} {b : Bool} {x : Option (Ex × PState)} (hn : n ≤ 1099511627776) (hs : 0 < s.length) (ha : a + s.length ≤ n) (ht : t.length = n) (hb : b = true) : okR (a : Int) s t n b x = x := by
  have h1 := hd_le a s
  have hm := mI_nat (s := s) (show a < 4611686018427387904 by omega)
  have hp := pI_nat (s := s) (show a < 4611686018427387904 by omega)
  have hc : decide (0 ≤ mI (a : Int) s ∧ (mI (a : Int) s).toNat ≤ s.length) = true := decide_eq_true (by rw [hm]; exact ⟨by omega, h1⟩)
  unfold okR
  rw [bcT hc, bcT, bcT, bcT hb, bcT hc]
  · refine decide_eq_true ?_
    rw [hp]; unfold oI; rw [if_neg (by show ¬ n = a; omega), List.length_take]
    show _ ≤ n - a ∧ 0 + a * 1 + _ ≤ _
    omega
  · rw [decide_eq_true (show 0 ≤ (a : Int) by omega)]
    exact decide_eq_true ⟨by show a ≤ n; omega, Nat.le_refl _, Nat.le_refl _⟩

inductive WI where
  | z (a : Nat) (s t : List UInt8)
  | r (a : Nat) (s t : List UInt8) (rows : List (List CV)) (m : Nat)
def WI.ok (n : Nat) : WI → Prop
  | .z a s t => a + s.length ≤ n ∧ t.length = n
  | .r a s t rows m => a + s.length ≤ n ∧ t.length = n ∧ rows.length = m ∧ m + s.length ≤ 2199023255552
def WI.μ : WI → Nat
  | .z a s t => s.length
  | .r a s t rows m => s.length
noncomputable def invA (k : List UInt8) (n : Nat) : WI → PState
  | .z a s t => sA0 wsl asgW bodyW a s k t n
  | .r a s t rows m => sA1 wsl asgW bodyW a s k t n rows m
/-- All rounds of them. -/
noncomputable def resA1 (asg body : Code) (k : List UInt8) (n : Nat) (a : Nat) (s t : List UInt8) (rows : List (List CV)) (m : Nat) : PState := sA1 nsl asg body ((a + s.length : Nat) : Int) [] k (splice a s t) n (rows ++ (parts a s).map rowOf) (m + (parts a s).length)
noncomputable def resA (k : List UInt8) (n : Nat) : WI → PState
  | .z a s t => match s with | [] => sA0 nsl asgW bodyW a [] k t n | c :: s => resA1 asgW bodyW k n a (c :: s) t [] 0
  | .r a s t rows m => resA1 asgW bodyW k n a s t rows m
theorem splice_nil {a : Nat} {t : List UInt8} (h : a ≤ t.length) : splice a [] t = t := by
  unfold splice; simp
theorem resA1_step {k : List UInt8} {n a m : Nat} {s t : List UInt8} {rows : List (List CV)} (hs : 0 < s.length) (ha : a + s.length ≤ n) (ht : t.length = n) :
    resA1 asgW bodyW k n (a + hd a s) (s.drop (hd a s)) (splice a (s.take (hd a s)) t) (rows ++ [rowOf (a, s.take (hd a s))]) (m + 1) = resA1 asgW bodyW k n a s t rows m := by
  have h1 := hd_le a s
  unfold resA1
  rw [splice_two (by omega) h1, parts_cons hs, List.map_cons, List.append_assoc, List.length_cons, List.length_drop]
  show sA1 _ _ _ ((_ : Nat) : Int) _ _ _ _ (rows ++ (rowOf _ :: _)) _ = _
  rw [show a + hd a s + (s.length - hd a s) = a + s.length by omega, show m + 1 + (parts (a + hd a s) (List.drop (hd a s) s)).length = m + ((parts (a + hd a s) (List.drop (hd a s) s)).length + 1) by omega]
  rfl
theorem loopA {k : List UInt8} {n : Nat} (hn : n ≤ 1099511627776) (w : WI) (hw : w.ok n) : Tri Try.prog (.loop loopW) (invA k n w).toA (.exit 0) (resA k n w).toA 7 := by
  refine loop_rounds (ent_sound (T := []) .nil host nolv_ok (NF := 64) (m := 1) 20) (NF := 64) (m := 1) loops_none (fun n => hasN [0, 1, 2] n) (fun n => hasN [] n) (ι := { w : WI // w.ok n }) (fun w => invA k n w.1) (fun w => w.1.μ) (fun w => (.exit 0, resA k n w.1)) ?_ (fun _ => by simp) ⟨w, hw⟩
  rintro ⟨w, hw⟩
  cases w with
  | z a s t =>
    obtain ⟨h1, h2⟩ := hw
    cases s with
    | nil => exact .inr (rA0 a [] k t n)
    | cons c s =>
      have hs : 0 < (c :: s).length := by simp
      obtain ⟨q1, q2, q3, q4⟩ := round_nat hn hs h1 h2
      have h3 := hd_le a (c :: s)
      have h4 := hd_pos (a := a) hs
      refine .inl ⟨⟨.r (a + hd a (c :: s)) ((c :: s).drop (hd a (c :: s))) (splice a ((c :: s).take (hd a (c :: s))) t) [rowOf (a, (c :: s).take (hd a (c :: s)))] 1, ?_⟩, ?_, ?_, ?_⟩
      · refine ⟨by rw [List.length_drop]; omega, ?_, rfl, by rw [List.length_drop]; omega⟩
        rw [splice_len (by rw [List.length_take]; omega)]; exact h2
      · simp only [WI.μ, List.length_drop]; omega
      · simp only [resA]; rw [← resA1_step (rows := []) (m := 0) hs h1 h2]; rfl
      · refine (rA0 a (c :: s) k t n).trans ?_
        rw [bcT (b := !((c :: s) == [])) (by simp), okR_nat hn hs h1 h2 rfl, q1, q2, q3, q4]; rfl
  | r a s t rows m =>
    obtain ⟨h1, h2, h5, h6⟩ := hw
    by_cases hs : 0 < s.length
    · obtain ⟨q1, q2, q3, q4⟩ := round_nat hn hs h1 h2
      have h3 := hd_le a s
      have h4 := hd_pos (a := a) hs
      refine .inl ⟨⟨.r (a + hd a s) (s.drop (hd a s)) (splice a (s.take (hd a s)) t) (rows ++ [rowOf (a, s.take (hd a s))]) (m + 1), ?_⟩, ?_, ?_, ?_⟩
      · refine ⟨by rw [List.length_drop]; omega, ?_, by simp [h5], by rw [List.length_drop]; omega⟩
        rw [splice_len (by rw [List.length_take]; omega)]; exact h2
      · simp only [WI.μ, List.length_drop]; omega
      · simp only [resA]; rw [resA1_step hs h1 h2]
      · refine (rA1 a s k t n rows m).trans ?_
        rw [bcT (b := !(s == [])) (by cases s with | nil => simp at hs | cons c s => rfl), okR_nat hn hs h1 h2 (by rw [decide_eq_true (show rows.length * 2 = m * 2 by omega), Bool.true_and]; exact decide_eq_true (by omega)), q1, q2, q3, q4]; rfl
    · have : s = [] := List.eq_nil_of_length_eq_zero (by omega)
      subst this
      refine .inr ((rA1 a [] k t n rows m).trans ?_)
      simp only [resA, resA1, parts_nil, List.map_nil, List.append_nil, List.length_nil, Nat.add_zero]
      rw [splice_nil (by simp at h1; omega)]; rfl

/-- The same, where some are pending ahead. -/
noncomputable def invB (k : List UInt8) (n : Nat) : Bool → WI → PState
  | _, .z a s t => sA0 wsl asgW bodyW a s k t n
  | true, .r a s t rows m => sB0 wsl asgW bodyW a s k t n rows m
  | false, .r a s t rows m => sB1 wsl asgW bodyW a s k t n rows m
noncomputable def resB1 (asg body : Code) (k : List UInt8) (n : Nat) (a : Nat) (s t : List UInt8) (rows : List (List CV)) (m : Nat) : PState := sB1 nsl asg body ((a + s.length : Nat) : Int) [] k (splice a s t) n (rows ++ (parts a s).map rowOf) (m + (parts a s).length)
theorem resB1_step {k : List UInt8} {n a m : Nat} {s t : List UInt8} {rows : List (List CV)} (hs : 0 < s.length) (ha : a + s.length ≤ n) (ht : t.length = n) :
    resB1 asgW bodyW k n (a + hd a s) (s.drop (hd a s)) (splice a (s.take (hd a s)) t) (rows ++ [rowOf (a, s.take (hd a s))]) (m + 1) = resB1 asgW bodyW k n a s t rows m := by
  have h1 := hd_le a s
  unfold resB1
  rw [splice_two (by omega) h1, parts_cons hs, List.map_cons, List.append_assoc, List.length_cons, List.length_drop]
  show sB1 _ _ _ ((_ : Nat) : Int) _ _ _ _ (rows ++ (rowOf _ :: _)) _ = _
  rw [show a + hd a s + (s.length - hd a s) = a + s.length by omega, show m + 1 + (parts (a + hd a s) (List.drop (hd a s) s)).length = m + ((parts (a + hd a s) (List.drop (hd a s) s)).length + 1) by omega]
  rfl
noncomputable def resB (k : List UInt8) (n : Nat) : Bool → WI → PState
  | _, .z a s t => sA0 nsl asgW bodyW a [] k t n
  | b, .r a s t rows m => if b && s.isEmpty then sB0 nsl asgW bodyW a [] k t n rows m else resB1 asgW bodyW k n a s t rows m
theorem loopB {k : List UInt8} {n : Nat} (hn : n ≤ 1099511627776) (b : Bool) (a : Nat) (s t : List UInt8) (rows : List (List CV)) (m : Nat) (hw : (WI.r a s t rows m).ok n) : Tri Try.prog (.loop loopW) (invB k n b (.r a s t rows m)).toA (.exit 0) (resB k n b (.r a s t rows m)).toA 8 := by
  refine loop_rounds (ent_sound (T := []) .nil host nolv_ok (NF := 64) (m := 1) 20) (NF := 64) (m := 1) loops_none (fun n => hasN [0, 1, 2] n) (fun n => hasN [] n) (ι := { w : Bool × Nat × List UInt8 × List UInt8 × List (List CV) × Nat // (WI.r w.2.1 w.2.2.1 w.2.2.2.1 w.2.2.2.2.1 w.2.2.2.2.2).ok n })
    (fun w => invB k n w.1.1 (.r w.1.2.1 w.1.2.2.1 w.1.2.2.2.1 w.1.2.2.2.2.1 w.1.2.2.2.2.2)) (fun w => w.1.2.2.1.length) (fun w => (.exit 0, resB k n w.1.1 (.r w.1.2.1 w.1.2.2.1 w.1.2.2.2.1 w.1.2.2.2.2.1 w.1.2.2.2.2.2))) ?_ (fun _ => by simp) ⟨(b, a, s, t, rows, m), hw⟩
  rintro ⟨⟨b, a, s, t, rows, m⟩, hw⟩
  obtain ⟨h1, h2, h5, h6⟩ := hw
  simp only at h1 h2 h5 h6
  by_cases hs : 0 < s.length
  · obtain ⟨q1, q2, q3, q4⟩ := round_nat hn hs h1 h2
    have h3 := hd_le a s
    have h4 := hd_pos (a := a) hs
    have hne : s.isEmpty = false := by cases s with | nil => simp at hs | cons c s => rfl
    refine .inl ⟨⟨(false, a + hd a s, s.drop (hd a s), splice a (s.take (hd a s)) t, rows ++ [rowOf (a, s.take (hd a s))], m + 1), ?_⟩, ?_, ?_, ?_⟩
    · refine ⟨by simp only [List.length_drop]; omega, ?_, by simp [h5], by simp only [List.length_drop]; omega⟩
      simp only
      rw [splice_len (by rw [List.length_take]; omega)]; exact h2
    · simp only [List.length_drop]; omega
    · simp only [resB, hne, Bool.and_false, Bool.false_and, Bool.false_eq_true, if_false]; rw [resB1_step hs h1 h2]
    · have hk : (!(s == [])) = true := by cases s with | nil => simp at hs | cons c s => rfl
      have hr : (decide (rows.length * 2 = m * 2) && roomB (m + 1) 24) = true := by rw [decide_eq_true (show rows.length * 2 = m * 2 by omega), Bool.true_and]; exact decide_eq_true (by omega)
      cases b with
      | true =>
        refine (rB0 a s k t n rows m).trans ?_
        rw [bcT hk, okR_nat hn hs h1 h2 hr, q1, q2, q3, q4]; rfl
      | false =>
        refine (rB1 a s k t n rows m).trans ?_
        rw [bcT hk, okR_nat hn hs h1 h2 hr, q1, q2, q3, q4]; rfl
  · have : s = [] := List.eq_nil_of_length_eq_zero (by omega)
    subst this
    cases b with
    | true => exact .inr (rB0 a [] k t n rows m)
    | false =>
      refine .inr ((rB1 a [] k t n rows m).trans ?_)
      simp only [resB, resB1, parts_nil, List.map_nil, List.append_nil, List.length_nil, Nat.add_zero, Bool.false_and, Bool.false_eq_true, if_false]
      rw [splice_nil (by simp at h1; omega)]; rfl
end Go.Proofs.Ytoekeplljjaehaa

/- Layer 26: the loop of pieces, told. -/
set_option linter.unusedVariables false
set_option linter.unusedSimpArgs false
namespace Go.Proofs.Ytoekeplljjaehaa
open Go Sx

/-- The loop's record is the one of Write. -/
noncomputable def cI (asg body : Code) : Bool := @decide (asg = asgW ∧ body = bodyW) (Classical.propDecidable _)
theorem cI_of {asg body : Code} (h : cI asg body = true) : asg = asgW ∧ body = bodyW := by
  unfold cI at h; exact @of_decide_eq_true _ (Classical.propDecidable _) h
theorem cI_W : cI asgW bodyW = true := by unfold cI; exact @decide_eq_true _ (Classical.propDecidable _) ⟨rfl, rfl⟩
def noV : Nat → List (Option AV) → Bool
  | 0, [] => true
  | n + 1, none :: l => noV n l
  | _, _ => false
theorem noV_eq : ∀ (n : Nat) (l : List (Option AV)), noV n l = true → l = List.replicate n none
  | 0, [], _ => rfl
  | n + 1, none :: l, h => by rw [noV_eq n l h]; rfl
  | 0, _ :: _, h => by cases h
  | n + 1, [], h => by cases h
  | n + 1, some _ :: _, h => by cases h
def noB : Nat → List (Option PObj) → Bool
  | 0, [] => true
  | n + 1, none :: l => noB n l
  | _, _ => false
theorem noB_eq : ∀ (n : Nat) (l : List (Option PObj)), noB n l = true → l = List.replicate n none
  | 0, [], _ => rfl
  | n + 1, none :: l, h => by rw [noB_eq n l h]; rfl
  | 0, _ :: _, h => by cases h
  | n + 1, [], h => by cases h
  | n + 1, some _ :: _, h => by cases h
def eqC : List CK → Bool
  | [.int .i64, .str] => true
  | _ => false
theorem eqC_eq {sh : List CK} (h : eqC sh = true) : sh = shP := by
  unfold eqC at h; split at h
  · rfl
  · cases h
noncomputable def wTail (asg body : Code) (a : Int) (s k t : List UInt8) (n : Nat) (K : Nat) (p : AV) (rm : List (Option PObj)) : LAns :=
  match K, p, rm with
  | 7, .nilslice, rm => .chk (noB 64 rm) (.br s.isEmpty (.out (.exit 0) (sA0 nsl asg body a [] k t n)) (.out (.exit 0) (resA1 asg body k n a.toNat s t [] 0)))
  | 8, .vec v m, some (.vecR sh rows ty) :: rm => .chk (noB 64 rm) (.chk (Nat.beq v 7 && (eqC sh && Nat.beq ty pT)) (.chk (decide (rows.length = m ∧ m ≤ 1099511627776)) (.br s.isEmpty (.out (.exit 0) (sB0 nsl asg body a [] k t n rows m)) (.out (.exit 0) (resB1 asg body k n a.toNat s t rows m)))))
  | _, _, _ => .fail
noncomputable def eWL : Nat → PState → LAns := fun K st => match st with
  | ⟨some (.func f [.ptr x0 y0] []) :: some (.ptr x1 y1) :: some (.ptr x2 y2) :: rs, some (.raw (.loopR true u [i] [.ptr x3 y3] [p] asg body)) :: some (.raw (.cells [.str s] c1)) :: some (.raw (.cells [.int .i64 a] c2)) :: some (.raw (.cells [.ptr x4 y4] c3)) :: some (.raw (.cells [.slice x5 y5 n n5, .slice x6 y6 n6 n7, pe] c4)) :: some (.arrB k c5) :: some (.arrB t c6) :: rm⟩ =>
    .chk (Nat.beq f yF && (Nat.beq x0 0 && (Nat.beq y0 0 && (Nat.beq x1 1 && (Nat.beq y1 0 && (Nat.beq x2 2 && (Nat.beq y2 0 && (Nat.beq u 36 && (Nat.beq i 3 && (Nat.beq x3 3 && (Nat.beq y3 0 && (Nat.beq p 19 && (Nat.beq c1 9 && (Nat.beq c2 3 && (Nat.beq x4 4 && (Nat.beq y4 0 && (Nat.beq c3 24 && (Nat.beq x5 5 && (Nat.beq y5 0 && (Nat.beq x6 6 && (Nat.beq y6 0 && (Nat.beq c4 dT && (Nat.beq c5 5 && (Nat.beq c6 5 && noV 24 rs)))))))))))))))))))))))) (.chk (cI asg body) (.chk (decide (n5 = n ∧ n6 = n ∧ n7 = n ∧ t.length = n ∧ n ≤ 1099511627776 ∧ 0 ≤ a ∧ a.toNat + s.length ≤ n)) (wTail asg body a s k t n K pe rm)))
  | _ => .fail
theorem eWL_ok (K : Nat) (st : PState) : LAnsOK Try.prog loopW K st (eWL K st) := by
  unfold eWL
  split
  · rename_i f x0 y0 x1 y1 x2 y2 rs u i x3 y3 p asg body s c1 a c2 x4 y4 c3 x5 y5 n n5 x6 y6 n6 n7 pe c4 k c5 t c6 rm
    refine ⟨fun g1 => ⟨fun g2 => ⟨fun g3 => ?_, fun _ => trivial⟩, fun _ => trivial⟩, fun _ => trivial⟩
    simp only [Bool.and_eq_true, beqT] at g1
    obtain ⟨rfl, rfl, rfl, rfl, rfl, rfl, rfl, rfl, rfl, rfl, rfl, rfl, rfl, rfl, rfl, rfl, rfl, rfl, rfl, rfl, rfl, rfl, rfl, rfl, g1⟩ := g1
    rw [noV_eq _ _ g1]
    obtain ⟨rfl, rfl⟩ := cI_of g2
    obtain ⟨rfl, rfl, rfl, g4, g5, g6, g7⟩ := of_decide_eq_true g3
    obtain ⟨a, rfl⟩ := Int.eq_ofNat_of_zero_le g6
    simp only [Int.ofNat_eq_natCast, Int.toNat_natCast] at g7 ⊢
    clear g1 g2 g3 g6
    unfold wTail
    split
    · refine ⟨fun h1 => ?_, fun _ => trivial⟩
      rw [noB_eq _ _ h1]
      refine ⟨fun h2 => ?_, fun h2 => ?_⟩
      · have : s = [] := by cases s with | nil => rfl | cons c s => cases h2
        subst this
        exact loopA g5 (.z a [] t) ⟨g7, g4⟩
      · cases s with
        | nil => cases h2
        | cons c s => exact loopA g5 (.z a (c :: s) t) ⟨g7, g4⟩
    · rename_i v m sh rows ty rm
      refine ⟨fun h1 => ⟨fun h2 => ⟨fun h3 => ?_, fun _ => trivial⟩, fun _ => trivial⟩, fun _ => trivial⟩
      rw [noB_eq _ _ h1]
      simp only [Bool.and_eq_true, beqT] at h2
      obtain ⟨rfl, h2, rfl⟩ := h2
      rw [eqC_eq h2]
      obtain ⟨h3, h4⟩ := of_decide_eq_true h3
      have hl := loopB (k := k) g5 true a s t rows m ⟨g7, g4, h3, by omega⟩
      refine ⟨fun h2 => ?_, fun h2 => ?_⟩
      · have : s = [] := by cases s with | nil => rfl | cons c s => cases h2
        subst this
        exact hl
      · have h2' : s.isEmpty = false := h2
        simp only [resB, h2', Bool.and_false, Bool.false_eq_true, if_false] at hl
        exact hl
    · trivial
  · trivial
noncomputable def lvW : FuncId → Lv := fun f => match f with
  | 38 => { keep := fun _ => some [0, 1, 2], ent := fun i => match i with | 0 => some eWL | _ => none }
  | _ => {}
theorem lvW_ok : LvOK Try.prog lvW := by
  intro f fn body hf hb K x hx id e hid he t
  by_cases h : f = 38
  · subst h
    obtain rfl : fn = Try.f38 := (Option.some.inj (Try.func38.symm.trans hf)).symm
    have hbody : body = bodyOf Try.f38 := by unfold bodyOf; rw [hb]; rfl
    subst hbody
    have h1 : loopBodies (bodyOf Try.f38) = [loopW] := by kernel_rfl
    rw [h1] at hx
    have hx' := List.mem_singleton.1 hx
    have h2 : id = 0 := by
      have h3 : headReg loopW = some 0 := by kernel_rfl
      rw [hx', h3] at hid; exact (Option.some.inj hid).symm
    subst h2
    have he' : eWL = e := Option.some.inj he
    subst he'
    rw [hx']
    exact eWL_ok K t
  · exfalso
    have : (lvW f).ent id = none := by
      unfold lvW
      split
      · exact absurd rfl h
      · rfl
    rw [this] at he; cases he
end Go.Proofs.Ytoekeplljjaehaa

/- Layer 26: Write. -/
set_option linter.unusedVariables false
set_option linter.unusedSimpArgs false
namespace Go.Proofs.Ytoekeplljjaehaa
open Go Sx

/-- A disk: its bytes that are kept, those that are there, what is pending. -/
def dk0 (n : Nat) (k t : List UInt8) : List PObj := [.raw (.cells [.slice 1 0 n n, .slice 2 0 n n, .nilslice] dT), .arrB k 5, .arrB t 5]
def dk1 (n : Nat) (k t : List UInt8) (rows : List (List CV)) (m : Nat) : List PObj := [.raw (.cells [.slice 1 0 n n, .slice 2 0 n n, .vec 3 m] dT), .arrB k 5, .arrB t 5, .vecR shP rows pT]
/-- The same, behind an append. -/
def dk2 (n : Nat) (k t : List UInt8) (rows : List (List CV)) (m : Nat) : List PObj := [.raw (.cells [.slice 1 0 n n, .slice 2 0 n n, .vec 4 m] dT), .arrB k 5, .arrB t 5, .raw .dead, .vecR shP rows pT]
def okW (n : Nat) (k t : List UInt8) (a : Int) (s : List UInt8) : Bool := decide (n = n ∧ n = n ∧ n = n ∧ t.length = n ∧ n ≤ 1099511627776 ∧ 0 ≤ a ∧ a.toNat + s.length ≤ n)
noncomputable def xW0 (n : Nat) (k t : List UInt8) (a : Int) (s : List UInt8) : Ans :=
  .br (decide (a ≥ 0)) (.br (!decide ((s.length : Int) ≤ IntKind.i64.wrap ((n : Int) - a))) (.ret (.int .i64 260) (dk0 n k t))
    (.chk (cI asgW bodyW) (.chk (okW n k t a s) (.br s.isEmpty (.ret (.int .i64 0) (dk0 n k t)) (.ret (.int .i64 0) (dk1 n k (splice a.toNat s t) ([] ++ (parts a.toNat s).map rowOf) (0 + (parts a.toNat s).length)))))))
    (.ret (.int .i64 260) (dk0 n k t))
noncomputable def xW1 (n : Nat) (k t : List UInt8) (rows : List (List CV)) (m : Nat) (a : Int) (s : List UInt8) : Ans :=
  .br (decide (a ≥ 0)) (.br (!decide ((s.length : Int) ≤ IntKind.i64.wrap ((n : Int) - a))) (.ret (.int .i64 260) (dk1 n k t rows m))
    (.chk (cI asgW bodyW) (.chk (okW n k t a s) (.chk (decide (rows.length = m ∧ m ≤ 1099511627776)) (.br s.isEmpty (.ret (.int .i64 0) (dk1 n k t rows m)) (.ret (.int .i64 0) (dk2 n k (splice a.toNat s t) (rows ++ (parts a.toNat s).map rowOf) (m + (parts a.toNat s).length))))))))
    (.ret (.int .i64 260) (dk1 n k t rows m))
theorem cW0 (n : Nat) (k t : List UInt8) (a : Int) (s : List UInt8) : Comes [] lvW 25 [.ptr 0 0, .int .i64 a, .str s] (dk0 n k t) (xW0 n k t a s) := by unfold Comes; kernel_rfl
theorem cW1 (n : Nat) (k t : List UInt8) (rows : List (List CV)) (m : Nat) (a : Int) (s : List UInt8) : Comes [] lvW 25 [.ptr 0 0, .int .i64 a, .str s] (dk1 n k t rows m) (xW1 n k t rows m a s) := by unfold Comes; kernel_rfl
theorem cWn (a : Int) (s : List UInt8) : Comes [] lvW 25 [.nilptr, .int .i64 a, .str s] [] (.ret (.int .i64 1) []) := by unfold Comes; kernel_rfl
end Go.Proofs.Ytoekeplljjaehaa

/- Layer 26: what the disk's functions answer. -/
set_option linter.unusedVariables false
set_option linter.unusedSimpArgs false
namespace Go.Proofs.Ytoekeplljjaehaa
open Go Sx

/-- Does that lie within the disk? -/
def inD (n : Nat) (a : Int) (s : Nat) : Bool := decide (0 ≤ a ∧ a.toNat + s ≤ n)
def smN (n : Nat) (k t : List UInt8) : Bool := decide (k.length = n ∧ t.length = n ∧ n ≤ 1099511627776)
/-- The literal parts of a disk's cells. -/
def litD (x y x1 y1 x2 y2 d d1 d2 n n1 n2 n3 : Nat) : Bool := Nat.beq x 0 && (Nat.beq y 0 && (Nat.beq x1 1 && (Nat.beq y1 0 && (Nat.beq x2 2 && (Nat.beq y2 0 && (Nat.beq d dT && (Nat.beq d1 5 && (Nat.beq d2 5 && (Nat.beq n1 n && (Nat.beq n2 n && Nat.beq n3 n))))))))))
theorem litD_eq {x y x1 y1 x2 y2 d d1 d2 n n1 n2 n3 : Nat} (h : litD x y x1 y1 x2 y2 d d1 d2 n n1 n2 n3 = true) : x = 0 ∧ y = 0 ∧ x1 = 1 ∧ y1 = 0 ∧ x2 = 2 ∧ y2 = 0 ∧ d = dT ∧ d1 = 5 ∧ d2 = 5 ∧ n1 = n ∧ n2 = n ∧ n3 = n := by
  unfold litD at h
  simpa only [Bool.and_eq_true, beqT] using h
def litV (v ty : Nat) (sh : List CK) : Bool := Nat.beq v 3 && (Nat.beq ty pT && eqC sh)
theorem litV_eq {v ty : Nat} {sh : List CK} (h : litV v ty sh = true) : v = 3 ∧ ty = pT ∧ sh = shP := by
  unfold litV at h
  simp only [Bool.and_eq_true, beqT] at h
  exact ⟨h.1, h.2.1, eqC_eq h.2.2⟩
/-- An entry for a method of a disk: by the arguments behind the disk. -/
def onDisk (x0 : List AV → Ans) (x1 : Nat → List UInt8 → List UInt8 → List AV → Ans) (x2 : Nat → List UInt8 → List UInt8 → List (List CV) → Nat → List AV → Ans) : Ent := fun args pre => match args, pre with
  | .nilptr :: vs, [] => x0 vs
  | .ptr x y :: vs, [.raw (.cells [.slice x1' y1 n n1, .slice x2' y2 n2 n3, .nilslice] d), .arrB k d1, .arrB t d2] => .chk (litD x y x1' y1 x2' y2 d d1 d2 n n1 n2 n3) (.chk (smN n k t) (x1 n k t vs))
  | .ptr x y :: vs, [.raw (.cells [.slice x1' y1 n n1, .slice x2' y2 n2 n3, .vec v m] d), .arrB k d1, .arrB t d2, .vecR sh rows ty] => .chk (litD x y x1' y1 x2' y2 d d1 d2 n n1 n2 n3) (.chk (litV v ty sh) (.chk (smN n k t) (.chk (decide (rows.length = m ∧ m ≤ 1099511627776)) (x2 n k t rows m vs))))
  | _, _ => .fail
theorem onDisk_ok {f : FuncId} {x0 : List AV → Ans} {x1 : Nat → List UInt8 → List UInt8 → List AV → Ans} {x2 : Nat → List UInt8 → List UInt8 → List (List CV) → Nat → List AV → Ans} (h0 : ∀ vs, AnsOK Try.prog f (.nilptr :: vs) [] (x0 vs))
    (h1 : ∀ n k t vs, smN n k t = true → AnsOK Try.prog f (.ptr 0 0 :: vs) (dk0 n k t) (x1 n k t vs)) (h2 : ∀ n k t rows m vs, smN n k t = true → (rows.length = m ∧ m ≤ 1099511627776) → AnsOK Try.prog f (.ptr 0 0 :: vs) (dk1 n k t rows m) (x2 n k t rows m vs)) : EntOK Try.prog f (onDisk x0 x1 x2) := fun args pre => by
  unfold onDisk
  split
  · exact h0 _
  · refine ⟨fun g1 => ⟨fun g2 => ?_, fun _ => trivial⟩, fun _ => trivial⟩
    obtain ⟨rfl, rfl, rfl, rfl, rfl, rfl, rfl, rfl, rfl, rfl, rfl, rfl⟩ := litD_eq g1
    exact h1 _ _ _ _ g2
  · refine ⟨fun g1 => ⟨fun g2 => ⟨fun g3 => ⟨fun g4 => ?_, fun _ => trivial⟩, fun _ => trivial⟩, fun _ => trivial⟩, fun _ => trivial⟩
    obtain ⟨rfl, rfl, rfl, rfl, rfl, rfl, rfl, rfl, rfl, rfl, rfl, rfl⟩ := litD_eq g1
    obtain ⟨rfl, rfl, rfl⟩ := litV_eq g2
    exact h2 _ _ _ _ _ _ g3 (of_decide_eq_true g4)
  · trivial

/-- Write. -/
def rW0 (n : Nat) (k t : List UInt8) (a : Int) (s : List UInt8) : Ans :=
  .br (inD n a s.length) (.br s.isEmpty (.ret (.int .i64 0) (dk0 n k t)) (.ret (.int .i64 0) (dk1 n k (splice a.toNat s t) ((parts a.toNat s).map rowOf) (parts a.toNat s).length))) (.ret (.int .i64 260) (dk0 n k t))
def rW1 (n : Nat) (k t : List UInt8) (rows : List (List CV)) (m : Nat) (a : Int) (s : List UInt8) : Ans :=
  .br (inD n a s.length) (.br s.isEmpty (.ret (.int .i64 0) (dk1 n k t rows m)) (.ret (.int .i64 0) (dk2 n k (splice a.toNat s t) (rows ++ (parts a.toNat s).map rowOf) (m + (parts a.toNat s).length)))) (.ret (.int .i64 260) (dk1 n k t rows m))
def i64B : Int → Bool
  | .ofNat n => Nat.blt n 9223372036854775808
  | .negSucc n => Nat.blt n 9223372036854775808
theorem i64B_of {c : Int} (h : i64B c = true) : -9223372036854775808 ≤ c ∧ c < 9223372036854775808 := by
  cases c with
  | ofNat n => have := bltT.1 (show Nat.blt n 9223372036854775808 = true from h); simp only [Int.ofNat_eq_natCast]; omega
  | negSucc n => have := bltT.1 (show Nat.blt n 9223372036854775808 = true from h); rw [Int.negSucc_eq]; omega
theorem i64B_to {c : Int} (h : -9223372036854775808 ≤ c ∧ c < 9223372036854775808) : i64B c = true := by
  cases c with
  | ofNat n => exact bltT.2 (by simp only [Int.ofNat_eq_natCast] at h; omega)
  | negSucc n => exact bltT.2 (by rw [Int.negSucc_eq] at h; omega)
def eWrite : Ent := onDisk (fun vs => match vs with | [.int .i64 a, .str s] => .ret (.int .i64 1) [] | _ => .fail)
  (fun n k t vs => match vs with | [.int .i64 a, .str s] => .chk (i64B a) (rW0 n k t a s) | _ => .fail)
  (fun n k t rows m vs => match vs with | [.int .i64 a, .str s] => .chk (i64B a) (rW1 n k t rows m a s) | _ => .fail)
theorem hasC {n : Nat} {a : Int} {s : Nat} (hn : n ≤ 1099511627776) (ha : i64B a = true) : (decide (a ≥ 0) = true ∧ (!decide ((s : Int) ≤ IntKind.i64.wrap ((n : Int) - a))) = false ∧ inD n a s = true) ∨ (inD n a s = false ∧ (decide (a ≥ 0) = false ∨ (decide (a ≥ 0) = true ∧ (!decide ((s : Int) ≤ IntKind.i64.wrap ((n : Int) - a))) = true))) := by
  have ha := i64B_of ha
  unfold inD
  by_cases h : 0 ≤ a
  · rw [i64_in (by omega) (by omega)]
    by_cases h2 : a.toNat + s ≤ n
    · exact .inl ⟨decide_eq_true h, by rw [decide_eq_true (by omega)]; rfl, decide_eq_true ⟨h, h2⟩⟩
    · exact .inr ⟨decide_eq_false (by omega), .inr ⟨decide_eq_true h, by rw [decide_eq_false (by omega)]; rfl⟩⟩
  · exact .inr ⟨decide_eq_false (by omega), .inl (decide_eq_false h)⟩
theorem eWrite_ok : EntOK Try.prog 25 eWrite := by
  refine onDisk_ok (fun vs => ?_) (fun n k t vs hn => ?_) (fun n k t rows m vs hn hm => ?_)
  · split
    · exact ans_comes .nil (cWn _ _) lvW_ok
    · trivial
  · split
    · rename_i a s
      refine ⟨fun ha => ?_, fun _ => trivial⟩
      refine of_run (ans_comes .nil (cW0 n k t a s) lvW_ok) fun r hr => ?_
      rw [← hr]
      have hn := of_decide_eq_true hn
      unfold xW0 rW0
      simp only [Ans.run, Ans.chk]
      rcases hasC (n := n) (s := s.length) hn.2.2 ha with ⟨e1, e2, e3⟩ | ⟨e3, e1 | ⟨e1, e2⟩⟩
      · have e4 := of_decide_eq_true e3
        rw [bcT e1, bcF e2, bcT e3, bcT cI_W, bcT (b := okW _ _ _ _ _) (decide_eq_true ⟨rfl, rfl, rfl, hn.2.1, hn.2.2, e4.1, e4.2⟩), Nat.zero_add]; rfl
      · rw [bcF e1, bcF e3]
      · rw [bcT e1, bcT e2, bcF e3]
    · trivial
  · split
    · rename_i a s
      refine ⟨fun ha => ?_, fun _ => trivial⟩
      refine of_run (ans_comes .nil (cW1 n k t rows m a s) lvW_ok) fun r hr => ?_
      rw [← hr]
      have hn := of_decide_eq_true hn
      unfold xW1 rW1
      simp only [Ans.run, Ans.chk]
      rcases hasC (n := n) (s := s.length) hn.2.2 ha with ⟨e1, e2, e3⟩ | ⟨e3, e1 | ⟨e1, e2⟩⟩
      · have e4 := of_decide_eq_true e3
        rw [bcT e1, bcF e2, bcT e3, bcT cI_W, bcT (b := okW _ _ _ _ _) (decide_eq_true ⟨rfl, rfl, rfl, hn.2.1, hn.2.2, e4.1, e4.2⟩), bcT (b := decide _) (decide_eq_true hm)]
      · rw [bcF e1, bcF e3]
      · rw [bcT e1, bcT e2, bcF e3]
    · trivial
end Go.Proofs.Ytoekeplljjaehaa

/- Layer 26: what the disk's other functions answer. -/
set_option linter.unusedVariables false
set_option linter.unusedSimpArgs false
namespace Go.Proofs.Ytoekeplljjaehaa
open Go Sx

theorem smN_of {n : Nat} {k t : List UInt8} (h : smN n k t = true) : k.length = n ∧ t.length = n ∧ n ≤ 1099511627776 := of_decide_eq_true h
/-- Sync. -/
def cpB (n : Nat) (k t : List UInt8) : List UInt8 := List.take 0 k ++ List.take n (List.drop 0 t) ++ List.drop (0 + (List.take n (List.drop 0 t)).length) k
def cpC (n : Nat) (k t : List UInt8) : Bool := decide (0 + n ≤ t.length) && decide (n ≤ n ∧ 0 + (List.take n (List.drop 0 t)).length ≤ k.length)
theorem cpB_eq {n : Nat} {k t : List UInt8} (h : smN n k t = true) : cpB n k t = t := by
  obtain ⟨h1, rfl, _⟩ := smN_of h
  unfold cpB
  rw [List.drop_zero, List.take_length, List.drop_of_length_le (by omega)]; simp
theorem cpC_eq {n : Nat} {k t : List UInt8} (h : smN n k t = true) : cpC n k t = true := by
  obtain ⟨h1, rfl, _⟩ := smN_of h
  unfold cpC
  rw [List.drop_zero, List.take_length, decide_eq_true (by omega), decide_eq_true (by omega)]; rfl
def dkv (n : Nat) (k t : List UInt8) (rows : List (List CV)) : List PObj := dk0 n k t ++ [.vecR shP rows pT]
theorem cS0 (n : Nat) (k t : List UInt8) : Comes [] nolv 24 [.ptr 0 0] (dk0 n k t) (.chk (cpC n k t) (.ret (.int .i64 0) (dk0 n (cpB n k t) t))) := by unfold Comes; kernel_rfl
theorem cS1 (n : Nat) (k t : List UInt8) (rows : List (List CV)) (m : Nat) : Comes [] nolv 24 [.ptr 0 0] (dk1 n k t rows m) (.chk (cpC n k t) (.ret (.int .i64 0) (dkv n (cpB n k t) t rows))) := by unfold Comes; kernel_rfl
theorem cSn : Comes [] nolv 24 [.nilptr] [] (.ret (.int .i64 1) []) := by unfold Comes; kernel_rfl
def eSync : Ent := onDisk (fun vs => match vs with | [] => .ret (.int .i64 1) [] | _ => .fail)
  (fun n k t vs => match vs with | [] => .ret (.int .i64 0) (dk0 n t t) | _ => .fail)
  (fun n k t rows m vs => match vs with | [] => .ret (.int .i64 0) (dkv n t t rows) | _ => .fail)
theorem eSync_ok : EntOK Try.prog 24 eSync := by
  refine onDisk_ok (fun vs => ?_) (fun n k t vs hn => ?_) (fun n k t rows m vs hn hm => ?_)
  · split
    · exact ans_comes .nil cSn
    · trivial
  · split
    · refine of_run (ans_comes .nil (cS0 n k t)) fun r hr => ?_
      rw [← hr, cpB_eq hn]; simp only [Ans.run, Ans.chk]; rw [bcT (cpC_eq hn)]
    · trivial
  · split
    · refine of_run (ans_comes .nil (cS1 n k t rows m)) fun r hr => ?_
      rw [← hr, cpB_eq hn]; simp only [Ans.run, Ans.chk]; rw [bcT (cpC_eq hn)]
    · trivial

/-- Read. -/
def rdB (a c : Int) (n : Nat) (t : List UInt8) : List UInt8 := List.take ((IntKind.i64.wrap (a + c)).toNat - a.toNat) (List.drop (if n = a.toNat then 0 else 0 + a.toNat * 1) t)
def xR (n : Nat) (t : List UInt8) (a c : Int) (post : List PObj) : Ans :=
  .br (decide (a ≥ 0)) (.br (decide (c ≥ 0)) (.br (!decide (c ≤ IntKind.i64.wrap ((n : Int) - a))) (.ret (.tuple [.str [], .int .i64 260]) post)
    (.chk (decide (0 ≤ a) && decide (0 ≤ IntKind.i64.wrap (a + c)) && true && decide (a.toNat ≤ (IntKind.i64.wrap (a + c)).toNat ∧ (IntKind.i64.wrap (a + c)).toNat ≤ n ∧ n ≤ n))
      (.chk (decide ((if n = a.toNat then 0 else 0 + a.toNat * 1) + ((IntKind.i64.wrap (a + c)).toNat - a.toNat) ≤ t.length)) (.ret (.tuple [.str (rdB a c n t), .int .i64 0]) post))))
    (.ret (.tuple [.str [], .int .i64 260]) post)) (.ret (.tuple [.str [], .int .i64 260]) post)
theorem cR0 (n : Nat) (k t : List UInt8) (a c : Int) : Comes [] nolv 13 [.ptr 0 0, .int .i64 a, .int .i64 c] (dk0 n k t) (xR n t a c (dk0 n k t)) := by unfold Comes; kernel_rfl
theorem cR1 (n : Nat) (k t : List UInt8) (rows : List (List CV)) (m : Nat) (a c : Int) : Comes [] nolv 13 [.ptr 0 0, .int .i64 a, .int .i64 c] (dk1 n k t rows m) (xR n t a c (dk1 n k t rows m)) := by unfold Comes; kernel_rfl
theorem cRn (a c : Int) : Comes [] nolv 13 [.nilptr, .int .i64 a, .int .i64 c] [] (.ret (.tuple [.str [], .int .i64 1]) []) := by unfold Comes; kernel_rfl
/-- What is read. -/
def rRd (n : Nat) (t : List UInt8) (a c : Int) (post : List PObj) : Ans :=
  .br (decide (0 ≤ c) && inD n a c.toNat) (.ret (.tuple [.str ((t.drop a.toNat).take c.toNat), .int .i64 0]) post) (.ret (.tuple [.str [], .int .i64 260]) post)
theorem xR_run {n : Nat} {k t : List UInt8} {a c : Int} {post : List PObj} {r : AV × List PObj} (hn : smN n k t = true) (ha : i64B a = true) (hc : i64B c = true) (h : (rRd n t a c post).run pure2 = some r) : (xR n t a c post).run pure2 = some r := by
  obtain ⟨h1, h2, h3⟩ := smN_of hn
  have ha' := i64B_of ha
  have hc' := i64B_of hc
  rw [← h]
  unfold xR rRd
  simp only [Ans.run, Ans.chk]
  by_cases h0 : 0 ≤ c
  · obtain ⟨c, rfl⟩ := Int.eq_ofNat_of_zero_le h0
    simp only [Int.ofNat_eq_natCast, Int.toNat_natCast] at *
    rw [bcT (b := decide ((c : Int) ≥ 0)) (decide_eq_true h0), decide_eq_true h0, Bool.true_and]
    rcases hasC (n := n) (s := c) h3 ha with ⟨e1, e2, e3⟩ | ⟨e3, e1 | ⟨e1, e2⟩⟩
    · have e4 := of_decide_eq_true e3
      obtain ⟨a, rfl⟩ := Int.eq_ofNat_of_zero_le e4.1
      simp only [Int.ofNat_eq_natCast, Int.toNat_natCast] at *
      rw [bcT e1, bcF e2, bcT e3]
      have hw : IntKind.i64.wrap ((a : Int) + c) = ((a + c : Nat) : Int) := by rw [i64_in (by omega) (by omega)]; omega
      unfold rdB
      rw [hw]
      simp only [Int.toNat_natCast]
      have hi : (if n = a then 0 else 0 + a * 1) + (a + c - a) ≤ t.length := by split <;> omega
      have he : List.take (a + c - a) (List.drop (if n = a then 0 else 0 + a * 1) t) = List.take c (List.drop a t) := by
        rw [show a + c - a = c by omega]
        split
        · have : c = 0 := by omega
          subst this; simp
        · rw [show 0 + a * 1 = a by omega]
      rw [bcT (b := decide _) (decide_eq_true hi), bcT, he]
      rw [decide_eq_true (by omega), decide_eq_true (by omega), decide_eq_true (show a ≤ a + c ∧ a + c ≤ n ∧ n ≤ n by omega)]; rfl
    · rw [bcF e1, bcF e3]
    · rw [bcT e1, bcT e2, bcF e3]
  · rw [bcF (b := decide (c ≥ 0)) (decide_eq_false h0), decide_eq_false h0, Bool.false_and]
    cases decide (a ≥ 0) <;> rfl
def eRead : Ent := onDisk (fun vs => match vs with | [.int .i64 a, .int .i64 c] => .ret (.tuple [.str [], .int .i64 1]) [] | _ => .fail)
  (fun n k t vs => match vs with | [.int .i64 a, .int .i64 c] => .chk (i64B a) (.chk (i64B c) (rRd n t a c (dk0 n k t))) | _ => .fail)
  (fun n k t rows m vs => match vs with | [.int .i64 a, .int .i64 c] => .chk (i64B a) (.chk (i64B c) (rRd n t a c (dk1 n k t rows m))) | _ => .fail)
theorem eRead_ok : EntOK Try.prog 13 eRead := by
  refine onDisk_ok (fun vs => ?_) (fun n k t vs hn => ?_) (fun n k t rows m vs hn hm => ?_)
  · split
    · exact ans_comes .nil (cRn _ _)
    · trivial
  · split
    · rename_i a c
      exact ⟨fun ha => ⟨fun hc => of_run (ans_comes .nil (cR0 n k t a c)) fun r hr => xR_run hn ha hc hr, fun _ => trivial⟩, fun _ => trivial⟩
    · trivial
  · split
    · rename_i a c
      exact ⟨fun ha => ⟨fun hc => of_run (ans_comes .nil (cR1 n k t rows m a c)) fun r hr => xR_run hn ha hc hr, fun _ => trivial⟩, fun _ => trivial⟩
    · trivial
/-- A number that is picked. -/
def pk (c : Int) (n : Nat) : Nat := (if c < 0 then -(c + 1) else c).toNat % n
theorem pk_lt {c : Int} {n : Nat} (h : 0 < n) : pk c n < n := Nat.mod_lt _ h
/-- The same, as a number that nothing unfolds. -/
def pkI (c n : Int) : Int := Int.tmod (if c < 0 then -(c + 1) else c) n
theorem pkI_nat {c : Int} {n : Nat} (hc : i64B c = true) : pkI c n = (pk c n : Nat) := by
  have hc := i64B_of hc
  unfold pkI pk
  by_cases h0 : c < 0
  · rw [if_pos h0]
    obtain ⟨x, hx⟩ := Int.eq_ofNat_of_zero_le (show 0 ≤ -(c + 1) by omega)
    rw [hx]; rfl
  · rw [if_neg h0]
    obtain ⟨x, hx⟩ := Int.eq_ofNat_of_zero_le (show 0 ≤ c by omega)
    rw [hx]; rfl
def posB : Int → Bool
  | .ofNat n => Nat.blt 0 n && Nat.blt n 9223372036854775808
  | .negSucc n => false
theorem posB_of {n : Int} (h : posB n = true) : 0 < n ∧ n < 9223372036854775808 := by
  cases n with
  | ofNat n =>
    obtain ⟨h1, h2⟩ := (Bool.and_eq_true_iff).1 (show (Nat.blt 0 n && Nat.blt n 9223372036854775808) = true from h)
    have h1 := bltT.1 h1
    have h2 := bltT.1 h2
    simp only [Int.ofNat_eq_natCast]; omega
  | negSucc n => cases h
theorem posB_to {n : Int} (h : 0 < n ∧ n < 9223372036854775808) : posB n = true := by
  cases n with
  | ofNat n =>
    simp only [Int.ofNat_eq_natCast] at h
    exact (Bool.and_eq_true_iff).2 ⟨bltT.2 (by omega), bltT.2 (by omega)⟩
  | negSucc n => rw [Int.negSucc_eq] at h; omega
def ePick : Ent := fun args pre => match args, pre with
  | [.int .i64 c, .int .i64 n], [] => .chk (i64B c) (.chk (posB n) (.ret (.int .i64 (pkI c n)) []))
  | _, _ => .fail
theorem cP (a c : Int) : Comes [] nolv 23 [.int .i64 a, .int .i64 c] [] (.br (decide (a < 0)) (.chk (c != 0) (.ret (.int .i64 ((IntKind.i64.wrap (0 - IntKind.i64.wrap (a + 1))).tmod c)) [])) (.chk (c != 0) (.ret (.int .i64 (a.tmod c)) []))) := by unfold Comes; kernel_rfl
theorem ePick_ok : EntOK Try.prog 23 ePick := fun args pre => by
  unfold ePick
  split
  · rename_i c n
    refine ⟨fun hc => ⟨fun hn => ?_, fun _ => trivial⟩, fun _ => trivial⟩
    have hc := i64B_of hc
    have hn := posB_of hn
    refine of_run (ans_comes .nil (cP c n)) fun r hr => ?_
    rw [← hr]
    simp only [Ans.run, Ans.chk]
    have hne : (n != 0) = true := by rw [bne_iff_ne]; omega
    unfold pkI
    by_cases h0 : c < 0
    · rw [bcT (b := decide _) (decide_eq_true h0), bcT hne, if_pos h0, i64_in (n := c + 1) (by omega) (by omega), i64_in (by omega) (by omega), show 0 - (c + 1) = -(c + 1) by omega]
    · rw [bcF (b := decide _) (decide_eq_false h0), bcT hne, if_neg h0]
  · trivial
end Go.Proofs.Ytoekeplljjaehaa

/- Layer 26: disks that are filled: the states of the loops. -/
set_option linter.unusedVariables false
set_option linter.unusedSimpArgs false
namespace Go.Proofs.Ytoekeplljjaehaa
open Go Sx
def tF : Tab := [(25, eWrite), (24, eSync), (13, eRead), (23, ePick)]
theorem tF_ok : TabOK Try.prog tF := .cons eWrite_ok (.cons eSync_ok (.cons eRead_ok (.cons ePick_ok .nil)))
abbrev shA : List CK := [.int .u8, .int .i64, .str, .any]
/-- The disk, at a place of the memory. -/
def dkN (o n : Nat) (k t : List UInt8) : List (Option PObj) := [some (.raw (.cells [.slice (o + 1) 0 n n, .slice (o + 2) 0 n n, .nilslice] dT)), some (.arrB k 5), some (.arrB t 5)]
def dkV (o n : Nat) (k t : List UInt8) (rows : List (List CV)) (m : Nat) : List (Option PObj) := [some (.raw (.cells [.slice (o + 1) 0 n n, .slice (o + 2) 0 n n, .vec (o + 3) m] dT)), some (.arrB k 5), some (.arrB t 5), some (.vecR shP rows pT)]
noncomputable abbrev loopF1 : Code := (loopBodies (bodyOf Try.f20)).headD .skip
noncomputable abbrev loopF2 : Code := ((loopBodies (bodyOf Try.f20)).drop 1).headD .skip
def fS1 (l1 l2 : Nat) (i : Int) : List (Option AV) := some (.dsl 0 l1) :: some (.dsl 1 l2) :: none :: none :: none :: some (.ptr 2 0) :: none :: some (.int .i64 i) :: List.replicate 78 none
def fS2 (l2 : Nat) (i : Int) : List (Option AV) := none :: some (.dsl 1 l2) :: none :: none :: none :: some (.ptr 2 0) :: none :: none :: none :: some (.int .i64 i) :: List.replicate 76 none
def fS3 (l1 : Nat) (i : Int) : List (Option AV) := some (.dsl 0 l1) :: some .nilslice :: none :: none :: none :: some (.ptr 1 0) :: none :: some (.int .i64 i) :: List.replicate 78 none
def fM (r1 r2 : List (List CV)) : List (Option PObj) := [some (.raw (.flatR false shA r1)), some (.raw (.flatR false shA r2))]
def fM3 (r1 : List (List CV)) : List (Option PObj) := [some (.raw (.flatR false shA r1))]
end Go.Proofs.Ytoekeplljjaehaa

/- Layer 26: disks that are filled: a round. -/
set_option linter.unusedVariables false
set_option linter.unusedSimpArgs false
namespace Go.Proofs.Ytoekeplljjaehaa
open Go Sx
def atC (r : List CV) : Int := (rowCV r 1).n
def sC (r : List CV) : List UInt8 := (rowCV r 2).s
def aF (r : List CV) : Int := pkI (atC r) 320
def lF (r : List CV) : Int := if IntKind.i64.wrap (320 - aF r) < ((sC r).length : Int) then IntKind.i64.wrap (320 - aF r) else ((sC r).length : Int)
def sF (r : List CV) : List UInt8 := List.take ((lF r).toNat - 0) (List.drop 0 (sC r))
def chks {α : Type} (x : Option α) : List Bool → Option α
  | [] => x
  | b :: bs => bcond b (chks x bs) none
def bF (i : Int) (l : Nat) : Bool := decide (0 ≤ i ∧ i < (l : Int))
def rF (i : Int) (rs : List (List CV)) : Bool := decide (i.toNat < rs.length) && true
def condF (i : Int) (l : Nat) (rs : List (List CV)) (k t : List UInt8) : List Bool :=
  let r := Sx.rowAt rs i.toNat
  [bF i l, rF i rs, i64B (atC r), bF i l, rF i rs, bF i l, rF i rs, decide (0 ≤ lF r ∧ (lF r).toNat ≤ (sC r).length), smN 320 k t]
/-- A round: what it comes to where the loop ends, where nothing is written, and where something is. -/
def roundF {α : Type} (i : Int) (l : Nat) (rs : List (List CV)) (k t : List UInt8) (c : List Bool) (x y z : Option α) : Option α :=
  bcond (decide (i < (l : Int))) (bcond (decide (i < 8)) (chks (bcond (inD 320 (aF (Sx.rowAt rs i.toNat)) (sF (Sx.rowAt rs i.toNat)).length) (bcond (sF (Sx.rowAt rs i.toNat)).isEmpty y z) y) (condF i l rs k t ++ c ++ [i64B (aF (Sx.rowAt rs i.toNat))])) x) x
def tF' (r : List CV) (t : List UInt8) : List UInt8 := splice (aF r).toNat (sF r) t
def pF (r : List CV) : List (Nat × List UInt8) := parts (aF r).toNat (sF r)
def iN (i : Int) : Int := IntKind.i64.wrap (i + 1)
def mS (r1 r2 : List (List CV)) (d : List (Option PObj)) : List (Option PObj) := fM r1 r2 ++ d ++ List.replicate 64 none
def mS3 (r1 : List (List CV)) (d : List (Option PObj)) : List (Option PObj) := fM3 r1 ++ d ++ List.replicate 64 none
def fE1 (l2 : Nat) : List (Option AV) := none :: some (.dsl 1 l2) :: none :: none :: none :: some (.ptr 2 0) :: none :: List.replicate 79 none
def fE2 : List (Option AV) := none :: none :: none :: none :: none :: some (.ptr 2 0) :: none :: List.replicate 79 none
def fE3 : List (Option AV) := none :: some .nilslice :: none :: none :: none :: some (.ptr 1 0) :: none :: List.replicate 79 none
theorem rF1n (l1 l2 : Nat) (r1 r2 : List (List CV)) (i : Int) (k t : List UInt8) : code (ent Try.prog tF nolv 64 1 20) Try.prog {} 2 64 1 loopF1 ⟨fS1 l1 l2 i, mS r1 r2 (dkN 2 320 k t)⟩
  (endK 2 64 (fun n => hasN [0, 1, 5, 7] n) (fun n => hasN [1, 5] n)) = roundF i l1 r1 k t [] (some (.exit 0, ⟨fE1 l2, mS r1 r2 (dkN 2 320 k t)⟩)) (some (.normal, ⟨fS1 l1 l2 (iN i), mS r1 r2 (dkN 2 320 k t)⟩))
    (some (.normal, ⟨fS1 l1 l2 (iN i), mS r1 r2 (dkV 2 320 k (tF' (Sx.rowAt r1 i.toNat) t) ((pF (Sx.rowAt r1 i.toNat)).map rowOf) (pF (Sx.rowAt r1 i.toNat)).length)⟩)) := by kernel_rfl
theorem rF1v (l1 l2 : Nat) (r1 r2 : List (List CV)) (i : Int) (k t : List UInt8) (rows : List (List CV)) (m : Nat) : code (ent Try.prog tF nolv 64 1 20) Try.prog {} 2 64 1 loopF1 ⟨fS1 l1 l2 i, mS r1 r2 (dkV 2 320 k t rows m)⟩
  (endK 2 64 (fun n => hasN [0, 1, 5, 7] n) (fun n => hasN [1, 5] n)) = roundF i l1 r1 k t [decide (rows.length = m ∧ m ≤ 1099511627776)] (some (.exit 0, ⟨fE1 l2, mS r1 r2 (dkV 2 320 k t rows m)⟩)) (some (.normal, ⟨fS1 l1 l2 (iN i), mS r1 r2 (dkV 2 320 k t rows m)⟩))
    (some (.normal, ⟨fS1 l1 l2 (iN i), mS r1 r2 (dkV 2 320 k (tF' (Sx.rowAt r1 i.toNat) t) (rows ++ (pF (Sx.rowAt r1 i.toNat)).map rowOf) (m + (pF (Sx.rowAt r1 i.toNat)).length))⟩)) := by kernel_rfl
theorem rF2n (l2 : Nat) (r1 r2 : List (List CV)) (i : Int) (k t : List UInt8) : code (ent Try.prog tF nolv 64 1 20) Try.prog {} 2 64 1 loopF2 ⟨fS2 l2 i, mS r1 r2 (dkN 2 320 k t)⟩
  (endK 2 64 (fun n => hasN [1, 5, 9] n) (fun n => hasN [5] n)) = roundF i l2 r2 k t [] (some (.exit 2, ⟨fE2, mS r1 r2 (dkN 2 320 k t)⟩)) (some (.normal, ⟨fS2 l2 (iN i), mS r1 r2 (dkN 2 320 k t)⟩))
    (some (.normal, ⟨fS2 l2 (iN i), mS r1 r2 (dkV 2 320 k (tF' (Sx.rowAt r2 i.toNat) t) ((pF (Sx.rowAt r2 i.toNat)).map rowOf) (pF (Sx.rowAt r2 i.toNat)).length)⟩)) := by kernel_rfl
theorem rF2v (l2 : Nat) (r1 r2 : List (List CV)) (i : Int) (k t : List UInt8) (rows : List (List CV)) (m : Nat) : code (ent Try.prog tF nolv 64 1 20) Try.prog {} 2 64 1 loopF2 ⟨fS2 l2 i, mS r1 r2 (dkV 2 320 k t rows m)⟩
  (endK 2 64 (fun n => hasN [1, 5, 9] n) (fun n => hasN [5] n)) = roundF i l2 r2 k t [decide (rows.length = m ∧ m ≤ 1099511627776)] (some (.exit 2, ⟨fE2, mS r1 r2 (dkV 2 320 k t rows m)⟩)) (some (.normal, ⟨fS2 l2 (iN i), mS r1 r2 (dkV 2 320 k t rows m)⟩))
    (some (.normal, ⟨fS2 l2 (iN i), mS r1 r2 (dkV 2 320 k (tF' (Sx.rowAt r2 i.toNat) t) (rows ++ (pF (Sx.rowAt r2 i.toNat)).map rowOf) (m + (pF (Sx.rowAt r2 i.toNat)).length))⟩)) := by kernel_rfl
theorem rF3n (l1 : Nat) (r1 : List (List CV)) (i : Int) (k t : List UInt8) : code (ent Try.prog tF nolv 64 1 20) Try.prog {} 1 64 1 loopF1 ⟨fS3 l1 i, mS3 r1 (dkN 1 320 k t)⟩
  (endK 1 64 (fun n => hasN [0, 1, 5, 7] n) (fun n => hasN [1, 5] n)) = roundF i l1 r1 k t [] (some (.exit 0, ⟨fE3, mS3 r1 (dkN 1 320 k t)⟩)) (some (.normal, ⟨fS3 l1 (iN i), mS3 r1 (dkN 1 320 k t)⟩))
    (some (.normal, ⟨fS3 l1 (iN i), mS3 r1 (dkV 1 320 k (tF' (Sx.rowAt r1 i.toNat) t) ((pF (Sx.rowAt r1 i.toNat)).map rowOf) (pF (Sx.rowAt r1 i.toNat)).length)⟩)) := by kernel_rfl
theorem rF3v (l1 : Nat) (r1 : List (List CV)) (i : Int) (k t : List UInt8) (rows : List (List CV)) (m : Nat) : code (ent Try.prog tF nolv 64 1 20) Try.prog {} 1 64 1 loopF1 ⟨fS3 l1 i, mS3 r1 (dkV 1 320 k t rows m)⟩
  (endK 1 64 (fun n => hasN [0, 1, 5, 7] n) (fun n => hasN [1, 5] n)) = roundF i l1 r1 k t [decide (rows.length = m ∧ m ≤ 1099511627776)] (some (.exit 0, ⟨fE3, mS3 r1 (dkV 1 320 k t rows m)⟩)) (some (.normal, ⟨fS3 l1 (iN i), mS3 r1 (dkV 1 320 k t rows m)⟩))
    (some (.normal, ⟨fS3 l1 (iN i), mS3 r1 (dkV 1 320 k (tF' (Sx.rowAt r1 i.toNat) t) (rows ++ (pF (Sx.rowAt r1 i.toNat)).map rowOf) (m + (pF (Sx.rowAt r1 i.toNat)).length))⟩)) := by kernel_rfl
end Go.Proofs.Ytoekeplljjaehaa

/- Layer 26: disks that are filled: all rounds. -/
set_option linter.unusedVariables false
set_option linter.unusedSimpArgs false
namespace Go.Proofs.Ytoekeplljjaehaa
open Go Sx
/-- Where a row writes, and what. -/
def aN (r : List CV) : Nat := pk (atC r) 320
def sN (r : List CV) : List UInt8 := (sC r).take (320 - aN r)
theorem aN_lt (r : List CV) : aN r < 320 := pk_lt (by omega)
theorem sN_le (r : List CV) : aN r + (sN r).length ≤ 320 := by
  have := aN_lt r
  unfold sN; rw [List.length_take]; omega
theorem aF_nat {r : List CV} (h : i64B (atC r) = true) : aF r = (aN r : Nat) := pkI_nat h
theorem lF_nat {r : List CV} (h : i64B (atC r) = true) : lF r = (((sN r).length : Nat) : Int) := by
  have h1 := aN_lt r
  unfold lF sN
  rw [aF_nat h, i64_in (by omega) (by omega), List.length_take]
  split <;> omega
theorem sF_nat {r : List CV} (h : i64B (atC r) = true) : sF r = sN r := by
  have h1 := aN_lt r
  unfold sF
  rw [lF_nat h]
  show List.take ((sN r).length) (sC r) = sN r
  unfold sN
  rw [List.length_take]
  by_cases h2 : 320 - aN r ≤ (sC r).length
  · rw [Nat.min_eq_left h2]
  · rw [Nat.min_eq_right (by omega), List.take_length, List.take_of_length_le (by omega)]
def fillT : List (List CV) → List UInt8 → List UInt8
  | [], t => t
  | r :: rs, t => fillT rs (splice (aN r) (sN r) t)
def fillP : List (List CV) → List (Nat × List UInt8)
  | [] => []
  | r :: rs => parts (aN r) (sN r) ++ fillP rs
theorem fillT_len : ∀ (rs : List (List CV)) {t : List UInt8}, t.length = 320 → (fillT rs t).length = 320
  | [], t, h => h
  | r :: rs, t, h => fillT_len rs (by rw [splice_len (by have := sN_le r; omega)]; exact h)
/-- A disk with these pieces pending. -/
def dkX (o n : Nat) (k t : List UInt8) : List (Nat × List UInt8) → List (Option PObj)
  | [] => dkN o n k t
  | p :: ps => dkV o n k t ((p :: ps).map rowOf) (p :: ps).length
theorem parts_ne {a : Nat} {s : List UInt8} (h : s ≠ []) : parts a s ≠ [] := by
  rw [parts_cons (List.length_pos_iff.2 h)]; simp
theorem dkX_ne {o n : Nat} {k t : List UInt8} {ps : List (Nat × List UInt8)} (h : ps ≠ []) : dkX o n k t ps = dkV o n k t (ps.map rowOf) ps.length := by
  cases ps with
  | nil => exact absurd rfl h
  | cons p ps => rfl
theorem chks_true {α : Type} {x : Option α} : ∀ {bs : List Bool}, (∀ b ∈ bs, b = true) → chks x bs = x
  | [], _ => rfl
  | b :: bs, h => by
    have h1 := h b (List.mem_cons_self ..)
    have h2 : ∀ c ∈ bs, c = true := fun c hc => h c (List.mem_cons_of_mem _ hc)
    subst h1
    show chks x bs = x
    exact chks_true h2

structure FI where
  j : Nat
  t : List UInt8
  P : List (Nat × List UInt8)

theorem loopF {K o ex : Nat} {loop : Code} {sl : Int → List (Option AV)} {exl : List (Option AV)} {mem : List (Option PObj) → List (Option PObj)} {l : Nat} {rs : List (List CV)} {kn kx : Nat → Bool} {k : List UInt8}
    (hn : ∀ (i : Int) (t : List UInt8), code (ent Try.prog tF nolv 64 1 20) Try.prog {} K 64 1 loop ⟨sl i, mem (dkN o 320 k t)⟩ (endK K 64 kn kx) = roundF i l rs k t [] (some (.exit ex, ⟨exl, mem (dkN o 320 k t)⟩)) (some (.normal, ⟨sl (iN i), mem (dkN o 320 k t)⟩))
      (some (.normal, ⟨sl (iN i), mem (dkV o 320 k (tF' (Sx.rowAt rs i.toNat) t) ((pF (Sx.rowAt rs i.toNat)).map rowOf) (pF (Sx.rowAt rs i.toNat)).length)⟩)))
    (hv : ∀ (i : Int) (t : List UInt8) (rows : List (List CV)) (m : Nat), code (ent Try.prog tF nolv 64 1 20) Try.prog {} K 64 1 loop ⟨sl i, mem (dkV o 320 k t rows m)⟩ (endK K 64 kn kx) = roundF i l rs k t [decide (rows.length = m ∧ m ≤ 1099511627776)] (some (.exit ex, ⟨exl, mem (dkV o 320 k t rows m)⟩)) (some (.normal, ⟨sl (iN i), mem (dkV o 320 k t rows m)⟩))
      (some (.normal, ⟨sl (iN i), mem (dkV o 320 k (tF' (Sx.rowAt rs i.toNat) t) (rows ++ (pF (Sx.rowAt rs i.toNat)).map rowOf) (m + (pF (Sx.rowAt rs i.toNat)).length))⟩)))
    (hl : rs.length = l) (hr : ∀ r ∈ rs, i64B (atC r) = true) (hk : k.length = 320) (w : FI) (hw : w.j ≤ min l 8 ∧ w.t.length = 320 ∧ w.P.length ≤ 320 * w.j) :
    Tri Try.prog (.loop loop) (PState.toA ⟨sl (w.j : Int), mem (dkX o 320 k w.t w.P)⟩) (.exit ex) (PState.toA ⟨exl, mem (dkX o 320 k (fillT ((rs.take 8).drop w.j) w.t) (w.P ++ fillP ((rs.take 8).drop w.j)))⟩) K := by
  refine loop_rounds (ent_sound (T := tF) tF_ok host nolv_ok (NF := 64) (m := 1) 20) (NF := 64) (m := 1) loops_none kn kx (ι := { w : FI // w.j ≤ min l 8 ∧ w.t.length = 320 ∧ w.P.length ≤ 320 * w.j }) (fun w => ⟨sl (w.1.j : Int), mem (dkX o 320 k w.1.t w.1.P)⟩) (fun w => 8 - w.1.j)
    (fun w => (.exit ex, ⟨exl, mem (dkX o 320 k (fillT ((rs.take 8).drop w.1.j) w.1.t) (w.1.P ++ fillP ((rs.take 8).drop w.1.j)))⟩)) ?_ (fun _ => by simp) ⟨w, hw⟩
  rintro ⟨⟨j, t, P⟩, h1, h2, h3⟩
  simp only at h1 h2 h3
  by_cases hj : j < min l 8
  · left
    have hj1 : j < rs.length := by omega
    have hj8 : j < (rs.take 8).length := by rw [List.length_take]; omega
    have hrow : Sx.rowAt rs j = rs[j] := by unfold Sx.rowAt; rw [List.getD_eq_getElem?_getD, List.getElem?_eq_getElem hj1]; rfl
    have hat := hr rs[j] (List.getElem_mem hj1)
    have hdrop : (rs.take 8).drop j = rs[j] :: (rs.take 8).drop (j + 1) := by
      rw [List.drop_eq_getElem_cons hj8]; congr 1
      rw [List.getElem_take]
    have hsl := sN_le rs[j]
    have hpl := parts_len _ (aN rs[j]) (sN rs[j]) (Nat.le_refl _)
    refine ⟨⟨⟨j + 1, splice (aN rs[j]) (sN rs[j]) t, P ++ parts (aN rs[j]) (sN rs[j])⟩, ?_, ?_, ?_⟩, ?_, ?_, ?_⟩
    · simp only; omega
    · simp only; rw [splice_len (by omega)]; exact h2
    · simp only [List.length_append]; omega
    · simp only; omega
    · simp only; rw [hdrop, fillT, fillP, List.append_assoc]
    · have c1 : decide ((j : Int) < (l : Int)) = true := decide_eq_true (by omega)
      have c2 : decide ((j : Int) < 8) = true := decide_eq_true (by omega)
      have ci : iN (j : Int) = ((j + 1 : Nat) : Int) := by unfold iN; rw [i64_in (by omega) (by omega)]; rfl
      have cs : ∀ c : List Bool, (∀ b ∈ c, b = true) → ∀ b ∈ condF (j : Int) l rs k t ++ c ++ [i64B (aF (Sx.rowAt rs ((j : Int)).toNat))], b = true := by
        intro c hc b hb
        simp only [condF, Int.toNat_natCast, hrow] at hb
        rcases List.mem_append.1 hb with hb | hb
        · rcases List.mem_append.1 hb with hb | hb
          · have e1 : bF (j : Int) l = true := decide_eq_true (by omega)
            have e2 : rF (j : Int) rs = true := by unfold rF; rw [Bool.and_true]; exact decide_eq_true hj1
            have e3 : decide (0 ≤ lF rs[j] ∧ (lF rs[j]).toNat ≤ (sC rs[j]).length) = true := by
              refine decide_eq_true ?_
              rw [lF_nat hat]
              refine ⟨by omega, ?_⟩
              simp only [Int.toNat_natCast, sN, List.length_take]; omega
            have e4 : smN 320 k t = true := decide_eq_true ⟨hk, h2, by omega⟩
            simp only [e1, e2, e3, e4, hat, List.mem_cons, List.not_mem_nil, or_false, or_self] at hb
            exact hb
          · exact hc b hb
        · rw [List.mem_singleton.1 hb, aF_nat hat]
          have := aN_lt rs[j]
          exact i64B_to (by omega)
      have cin : inD 320 (aF rs[j]) (sF rs[j]).length = true := by
        rw [aF_nat hat, sF_nat hat]
        exact decide_eq_true ⟨by omega, by simp only [Int.toNat_natCast]; exact hsl⟩
      have hT : tF' rs[j] t = splice (aN rs[j]) (sN rs[j]) t := by unfold tF'; rw [aF_nat hat, sF_nat hat]; rfl
      have hP : pF rs[j] = parts (aN rs[j]) (sN rs[j]) := by unfold pF; rw [aF_nat hat, sF_nat hat]; rfl
      cases P with
      | nil =>
        refine (hn (j : Int) t).trans ?_
        unfold roundF
        rw [bcT c1, bcT c2, chks_true (cs [] (by simp))]
        simp only [Int.toNat_natCast, hrow, ci]
        rw [bcT cin, hT, hP, sF_nat hat]
        cases hs : (sN rs[j]).isEmpty with
        | true =>
          have : sN rs[j] = [] := List.isEmpty_iff.1 hs
          rw [this, splice_nil (by have := aN_lt rs[j]; omega)]; rfl
        | false =>
          have : sN rs[j] ≠ [] := fun e => by rw [e] at hs; cases hs
          show some _ = some _
          rw [List.nil_append, dkX_ne (parts_ne this)]
      | cons p ps =>
        refine (hv (j : Int) t ((p :: ps).map rowOf) (p :: ps).length).trans ?_
        unfold roundF
        rw [bcT c1, bcT c2, chks_true (cs [_] (by
          intro b hb
          rw [List.mem_singleton.1 hb]
          exact decide_eq_true ⟨by rw [List.length_map], by omega⟩))]
        simp only [Int.toNat_natCast, hrow, ci]
        rw [bcT cin, hT, hP, sF_nat hat]
        cases hs : (sN rs[j]).isEmpty with
        | true =>
          have : sN rs[j] = [] := List.isEmpty_iff.1 hs
          rw [this, splice_nil (by have := aN_lt rs[j]; omega), parts_nil, List.append_nil]; rfl
        | false =>
          show some _ = some _
          rw [dkX_ne (ps := (p :: ps) ++ _) (by simp), List.map_append, List.length_append]
  · right
    have hd : (rs.take 8).drop j = [] := List.drop_of_length_le (by rw [List.length_take]; omega)
    simp only [hd, fillT, fillP, List.append_nil]
    have hx : ∀ {α : Type} (x y z : Option α) (c : List Bool), roundF (j : Int) l rs k t c x y z = x := by
      intro α x y z c
      unfold roundF
      by_cases h4 : j < l
      · rw [bcT (b := decide _) (decide_eq_true (by omega)), bcF (b := decide _) (decide_eq_false (by omega))]
      · rw [bcF (b := decide _) (decide_eq_false (by omega))]
    cases P with
    | nil => exact (hn (j : Int) t).trans (hx _ _ _ _)
    | cons p ps => exact (hv (j : Int) t ((p :: ps).map rowOf) (p :: ps).length).trans (hx _ _ _ _)
end Go.Proofs.Ytoekeplljjaehaa

/- Layer 26: disks that are filled: the loops, told. -/
set_option linter.unusedVariables false
set_option linter.unusedSimpArgs false
namespace Go.Proofs.Ytoekeplljjaehaa
open Go Sx
theorem rF4 (k t : List UInt8) (r1 : List (List CV)) : code (ent Try.prog tF nolv 64 1 20) Try.prog {} 1 64 1 loopF2 ⟨none :: some .nilslice :: none :: none :: none :: some (.ptr 1 0) :: none :: none :: none :: some (.int .i64 0) :: List.replicate 76 none, mS3 r1 (dkN 1 320 k t)⟩
  (endK 1 64 (fun n => hasN [1, 5, 9] n) (fun n => hasN [5] n)) = some (.exit 2, ⟨none :: none :: none :: none :: none :: some (.ptr 1 0) :: none :: List.replicate 79 none, mS3 r1 (dkN 1 320 k t)⟩) := by kernel_rfl
def eqA : List CK → Bool
  | [.int .u8, .int .i64, .str, .any] => true
  | _ => false
theorem eqA_eq {sh : List CK} (h : eqA sh = true) : sh = shA := by
  unfold eqA at h; split at h
  · rfl
  · cases h
/-- Are these rows of calls, so many? -/
def okA (l : Nat) (rs : List (List CV)) : Bool := Nat.beq rs.length l && rs.all fun r => i64B (atC r)
theorem okA_of {l : Nat} {rs : List (List CV)} (h : okA l rs = true) : rs.length = l ∧ ∀ r ∈ rs, i64B (atC r) = true := by
  unfold okA at h
  rw [Bool.and_eq_true, beqT] at h
  exact ⟨h.1, fun r hr => List.all_eq_true.1 h.2 r hr⟩
def litN (o x y x1 y1 x2 y2 d d1 d2 n n1 n2 n3 : Nat) : Bool := Nat.beq x o && (Nat.beq y 0 && (Nat.beq x1 (o + 1) && (Nat.beq y1 0 && (Nat.beq x2 (o + 2) && (Nat.beq y2 0 && (Nat.beq d dT && (Nat.beq d1 5 && (Nat.beq d2 5 && (Nat.beq n 320 && (Nat.beq n1 320 && (Nat.beq n2 320 && Nat.beq n3 320)))))))))))
theorem litN_eq {o x y x1 y1 x2 y2 d d1 d2 n n1 n2 n3 : Nat} (h : litN o x y x1 y1 x2 y2 d d1 d2 n n1 n2 n3 = true) : x = o ∧ y = 0 ∧ x1 = o + 1 ∧ y1 = 0 ∧ x2 = o + 2 ∧ y2 = 0 ∧ d = dT ∧ d1 = 5 ∧ d2 = 5 ∧ n = 320 ∧ n1 = 320 ∧ n2 = 320 ∧ n3 = 320 := by
  unfold litN at h
  simpa only [Bool.and_eq_true, beqT] using h
def outF (ex o : Nat) (exl : List (Option AV)) (mem : List (Option PObj) → List (Option PObj)) (k t : List UInt8) (rs : List (List CV)) : LAns :=
  .br (fillP (rs.take 8)).isEmpty (.out (.exit ex) ⟨exl, mem (dkN o 320 k (fillT (rs.take 8) t))⟩) (.out (.exit ex) ⟨exl, mem (dkV o 320 k (fillT (rs.take 8) t) ((fillP (rs.take 8)).map rowOf) (fillP (rs.take 8)).length)⟩)
def eF1 : Nat → PState → LAns := fun K st => match K, st with
  | 2, ⟨some (.dsl z0 l1) :: some (.dsl z1 l2) :: none :: none :: none :: some (.ptr x y) :: none :: some (.int .i64 i) :: rs, some (.raw (.flatR false sh1 r1)) :: some (.raw (.flatR false sh2 r2)) :: some (.raw (.cells [.slice x1 y1 n n1, .slice x2 y2 n2 n3, .nilslice] d)) :: some (.arrB k d1) :: some (.arrB t d2) :: rm⟩ =>
    .chk (litN 2 x y x1 y1 x2 y2 d d1 d2 n n1 n2 n3) (.chk (Nat.beq z0 0 && (Nat.beq z1 1 && (eqA sh1 && (eqA sh2 && (noV 78 rs && noB 64 rm))))) (.chk (decide (i = 0)) (.chk (smN 320 k t) (.chk (okA l1 r1) (outF 0 2 (fE1 l2) (mS r1 r2) k t r1)))))
  | 1, ⟨some (.dsl z0 l1) :: some .nilslice :: none :: none :: none :: some (.ptr x y) :: none :: some (.int .i64 i) :: rs, some (.raw (.flatR false sh1 r1)) :: some (.raw (.cells [.slice x1 y1 n n1, .slice x2 y2 n2 n3, .nilslice] d)) :: some (.arrB k d1) :: some (.arrB t d2) :: rm⟩ =>
    .chk (litN 1 x y x1 y1 x2 y2 d d1 d2 n n1 n2 n3) (.chk (Nat.beq z0 0 && (eqA sh1 && (noV 78 rs && noB 64 rm))) (.chk (decide (i = 0)) (.chk (smN 320 k t) (.chk (okA l1 r1) (outF 0 1 fE3 (mS3 r1) k t r1)))))
  | _, _ => .fail
def eF2 : Nat → PState → LAns := fun K st => match K, st with
  | 2, ⟨none :: some (.dsl z1 l2) :: none :: none :: none :: some (.ptr x y) :: none :: none :: none :: some (.int .i64 i) :: rs, some (.raw (.flatR false sh1 r1)) :: some (.raw (.flatR false sh2 r2)) :: some (.raw (.cells [.slice x1 y1 n n1, .slice x2 y2 n2 n3, .nilslice] d)) :: some (.arrB k d1) :: some (.arrB t d2) :: rm⟩ =>
    .chk (litN 2 x y x1 y1 x2 y2 d d1 d2 n n1 n2 n3) (.chk (Nat.beq z1 1 && (eqA sh1 && (eqA sh2 && (noV 76 rs && noB 64 rm)))) (.chk (decide (i = 0)) (.chk (smN 320 k t) (.chk (okA l2 r2) (outF 2 2 fE2 (mS r1 r2) k t r2)))))
  | 1, ⟨none :: some .nilslice :: none :: none :: none :: some (.ptr x y) :: none :: none :: none :: some (.int .i64 i) :: rs, some (.raw (.flatR false sh1 r1)) :: some (.raw (.cells [.slice x1 y1 n n1, .slice x2 y2 n2 n3, .nilslice] d)) :: some (.arrB k d1) :: some (.arrB t d2) :: rm⟩ =>
    .chk (litN 1 x y x1 y1 x2 y2 d d1 d2 n n1 n2 n3) (.chk (eqA sh1 && (noV 76 rs && noB 64 rm)) (.chk (decide (i = 0)) (.out (.exit 2) ⟨none :: none :: none :: none :: none :: some (.ptr 1 0) :: none :: List.replicate 79 none, mS3 r1 (dkN 1 320 k t)⟩)))
  | _, _ => .fail
theorem outF_ok {K o ex : Nat} {loop : Code} {s : PState} {exl : List (Option AV)} {mem : List (Option PObj) → List (Option PObj)} {k t : List UInt8} {rs : List (List CV)}
    (h : Tri Try.prog (.loop loop) s.toA (.exit ex) (PState.toA ⟨exl, mem (dkX o 320 k (fillT ((rs.take 8).drop 0) t) ([] ++ fillP ((rs.take 8).drop 0)))⟩) K) : LAnsOK Try.prog loop K s (outF ex o exl mem k t rs) := by
  rw [List.drop_zero, List.nil_append] at h
  refine ⟨fun e => ?_, fun e => ?_⟩
  · rw [List.isEmpty_iff.1 e] at h; exact h
  · rw [dkX_ne (fun e2 => by rw [e2] at e; cases e)] at h; exact h
theorem eF1_ok (K : Nat) (st : PState) : LAnsOK Try.prog loopF1 K st (eF1 K st) := by
  unfold eF1
  split
  · rename_i z0 l1 z1 l2 x y i rs sh1 r1 sh2 r2 x1 y1 n n1 x2 y2 n2 n3 d k d1 t d2 rm
    refine ⟨fun g1 => ⟨fun g2 => ⟨fun g3 => ⟨fun g4 => ⟨fun g5 => ?_, fun _ => trivial⟩, fun _ => trivial⟩, fun _ => trivial⟩, fun _ => trivial⟩, fun _ => trivial⟩
    obtain ⟨rfl, rfl, rfl, rfl, rfl, rfl, rfl, rfl, rfl, rfl, rfl, rfl, rfl⟩ := litN_eq g1
    simp only [Bool.and_eq_true, beqT] at g2
    obtain ⟨rfl, rfl, q1, q2, q3, q4⟩ := g2
    obtain rfl := eqA_eq q1
    obtain rfl := eqA_eq q2
    rw [noV_eq _ _ q3, noB_eq _ _ q4]
    have g3 := of_decide_eq_true g3
    subst g3
    obtain ⟨h1, h2, _⟩ := smN_of g4
    obtain ⟨h3, h4⟩ := okA_of g5
    refine outF_ok ?_
    exact loopF (mem := mS r1 r2) (fun i t => rF1n l1 l2 r1 r2 i k t) (fun i t rows m => rF1v l1 l2 r1 r2 i k t rows m) h3 h4 h1 ⟨0, t, []⟩ ⟨by simp, h2, by simp⟩
  · rename_i z0 l1 x y i rs sh1 r1 x1 y1 n n1 x2 y2 n2 n3 d k d1 t d2 rm
    refine ⟨fun g1 => ⟨fun g2 => ⟨fun g3 => ⟨fun g4 => ⟨fun g5 => ?_, fun _ => trivial⟩, fun _ => trivial⟩, fun _ => trivial⟩, fun _ => trivial⟩, fun _ => trivial⟩
    obtain ⟨rfl, rfl, rfl, rfl, rfl, rfl, rfl, rfl, rfl, rfl, rfl, rfl, rfl⟩ := litN_eq g1
    simp only [Bool.and_eq_true, beqT] at g2
    obtain ⟨rfl, q1, q3, q4⟩ := g2
    obtain rfl := eqA_eq q1
    rw [noV_eq _ _ q3, noB_eq _ _ q4]
    have g3 := of_decide_eq_true g3
    subst g3
    obtain ⟨h1, h2, _⟩ := smN_of g4
    obtain ⟨h3, h4⟩ := okA_of g5
    refine outF_ok ?_
    exact loopF (mem := mS3 r1) (fun i t => rF3n l1 r1 i k t) (fun i t rows m => rF3v l1 r1 i k t rows m) h3 h4 h1 ⟨0, t, []⟩ ⟨by simp, h2, by simp⟩
  · trivial
theorem eF2_ok (K : Nat) (st : PState) : LAnsOK Try.prog loopF2 K st (eF2 K st) := by
  unfold eF2
  split
  · rename_i z1 l2 x y i rs sh1 r1 sh2 r2 x1 y1 n n1 x2 y2 n2 n3 d k d1 t d2 rm
    refine ⟨fun g1 => ⟨fun g2 => ⟨fun g3 => ⟨fun g4 => ⟨fun g5 => ?_, fun _ => trivial⟩, fun _ => trivial⟩, fun _ => trivial⟩, fun _ => trivial⟩, fun _ => trivial⟩
    obtain ⟨rfl, rfl, rfl, rfl, rfl, rfl, rfl, rfl, rfl, rfl, rfl, rfl, rfl⟩ := litN_eq g1
    simp only [Bool.and_eq_true, beqT] at g2
    obtain ⟨rfl, q1, q2, q3, q4⟩ := g2
    obtain rfl := eqA_eq q1
    obtain rfl := eqA_eq q2
    rw [noV_eq _ _ q3, noB_eq _ _ q4]
    have g3 := of_decide_eq_true g3
    subst g3
    obtain ⟨h1, h2, _⟩ := smN_of g4
    obtain ⟨h3, h4⟩ := okA_of g5
    refine outF_ok ?_
    exact loopF (mem := mS r1 r2) (fun i t => rF2n l2 r1 r2 i k t) (fun i t rows m => rF2v l2 r1 r2 i k t rows m) h3 h4 h1 ⟨0, t, []⟩ ⟨by simp, h2, by simp⟩
  · rename_i x y i rs sh1 r1 x1 y1 n n1 x2 y2 n2 n3 d k d1 t d2 rm
    refine ⟨fun g1 => ⟨fun g2 => ⟨fun g3 => ?_, fun _ => trivial⟩, fun _ => trivial⟩, fun _ => trivial⟩
    obtain ⟨rfl, rfl, rfl, rfl, rfl, rfl, rfl, rfl, rfl, rfl, rfl, rfl, rfl⟩ := litN_eq g1
    simp only [Bool.and_eq_true, beqT] at g2
    obtain ⟨q1, q3, q4⟩ := g2
    obtain rfl := eqA_eq q1
    rw [noV_eq _ _ q3, noB_eq _ _ q4]
    have g3 := of_decide_eq_true g3
    subst g3
    refine loop_rounds (ent_sound (T := tF) tF_ok host nolv_ok (NF := 64) (m := 1) 20) (NF := 64) (m := 1) loops_none (fun n => hasN [1, 5, 9] n) (fun n => hasN [5] n) (ι := Unit)
      (fun _ => ⟨none :: some .nilslice :: none :: none :: none :: some (.ptr 1 0) :: none :: none :: none :: some (.int .i64 0) :: List.replicate 76 none, mS3 r1 (dkN 1 320 k t)⟩) (fun _ => 0)
      (fun _ => (.exit 2, ⟨none :: none :: none :: none :: none :: some (.ptr 1 0) :: none :: List.replicate 79 none, mS3 r1 (dkN 1 320 k t)⟩)) (fun _ => .inr (rF4 k t r1)) (fun _ => by simp) ()
  · trivial
def lvF : FuncId → Lv := fun f => match f with
  | 20 => { keep := fun i => match i with | 3 => some [0, 1, 5, 7] | 9 => some [1, 5, 9] | _ => none, ent := fun i => match i with | 3 => some eF1 | 9 => some eF2 | _ => none }
  | _ => {}
theorem lvF_ok : LvOK Try.prog lvF := by
  intro f fn body hf hb K x hx id e hid he t
  by_cases h : f = 20
  · subst h
    obtain rfl : fn = Try.f20 := (Option.some.inj (Try.func20.symm.trans hf)).symm
    have hbody : body = bodyOf Try.f20 := by unfold bodyOf; rw [hb]; rfl
    subst hbody
    have h1 : loopBodies (bodyOf Try.f20) = [loopF1, loopF2] := by kernel_rfl
    rw [h1] at hx
    rcases List.mem_cons.1 hx with hx' | hx'
    · have h2 : id = 3 := by
        have h3 : headReg loopF1 = some 3 := by kernel_rfl
        rw [hx', h3] at hid; exact (Option.some.inj hid).symm
      subst h2
      have he' : eF1 = e := Option.some.inj he
      subst he'
      rw [hx']
      exact eF1_ok K t
    · have hx' := List.mem_singleton.1 hx'
      have h2 : id = 9 := by
        have h3 : headReg loopF2 = some 9 := by kernel_rfl
        rw [hx', h3] at hid; exact (Option.some.inj hid).symm
      subst h2
      have he' : eF2 = e := Option.some.inj he
      subst he'
      rw [hx']
      exact eF2_ok K t
  · exfalso
    have : (lvF f).ent id = none := by
      unfold lvF
      split
      · exact absurd rfl h
      · rfl
    rw [this] at he; cases he
end Go.Proofs.Ytoekeplljjaehaa

/- Layer 26: disks that are filled. -/
set_option linter.unusedVariables false
set_option linter.unusedSimpArgs false
namespace Go.Proofs.Ytoekeplljjaehaa
open Go Sx
def z320 : List UInt8 := List.replicate 320 0
theorem z320_len : z320.length = 320 := List.length_replicate ..
theorem fillP_len : ∀ (rs : List (List CV)), (fillP rs).length ≤ 320 * rs.length
  | [] => by simp [fillP]
  | r :: rs => by
    have h1 := fillP_len rs
    have h2 := parts_len _ (aN r) (sN r) (Nat.le_refl _)
    have h3 := sN_le r
    simp only [fillP, List.length_append, List.length_cons]; omega
/-- What was synced; what is there behind it; what is pending. -/
def sT1 (r1 : List (List CV)) : List UInt8 := fillT (r1.take 8) z320
def sT2 (r1 r2 : List (List CV)) : List UInt8 := fillT (r2.take 8) (sT1 r1)
theorem sT1_len (r1 : List (List CV)) : (sT1 r1).length = 320 := fillT_len _ z320_len
theorem sT2_len (r1 r2 : List (List CV)) : (sT2 r1 r2).length = 320 := fillT_len _ (sT1_len r1)
/-- The disk's objects, at a place. -/
def dkA0 (o n : Nat) (k t : List UInt8) : List PObj := [.raw (.cells [.slice (o + 1) 0 n n, .slice (o + 2) 0 n n, .nilslice] dT), .arrB k 5, .arrB t 5]
def dkA1 (o n : Nat) (k t : List UInt8) (rows : List (List CV)) (m : Nat) : List PObj := [.raw (.cells [.slice (o + 1) 0 n n, .slice (o + 2) 0 n n, .vec (o + 3) m] dT), .arrB k 5, .arrB t 5, .vecR shP rows pT]
def fr (r : List (List CV)) : PObj := .raw (.flatR false shA r)
def frm (m : Bool) (r : List (List CV)) : PObj := .raw (.flatR m shA r)
def retF (l2 : Nat) (r1 r2 : List (List CV)) (t1 : List UInt8) : Ans :=
  .chk (smN 320 z320 t1) (.chk (smN 320 t1 t1) (.chk (okA l2 r2) (.br (fillP (r2.take 8)).isEmpty (.ret (.ptr 2 0) (fr r1 :: fr r2 :: dkA0 2 320 t1 (fillT (r2.take 8) t1))) (.ret (.ptr 2 0) (fr r1 :: fr r2 :: dkA1 2 320 t1 (fillT (r2.take 8) t1) ((fillP (r2.take 8)).map rowOf) (fillP (r2.take 8)).length)))))
def retF2 (l2 : Nat) (r1 r2 : List (List CV)) (t1 : List UInt8) (rows : List (List CV)) (m : Nat) : Ans :=
  .chk (smN 320 z320 t1) (.chk (decide (rows.length = m ∧ m ≤ 1099511627776)) (.chk (smN 320 t1 t1) (.chk (okA l2 r2) (.br (fillP (r2.take 8)).isEmpty (.ret (.ptr 2 0) (fr r1 :: fr r2 :: dkA0 2 320 t1 (fillT (r2.take 8) t1))) (.ret (.ptr 2 0) (fr r1 :: fr r2 :: dkA1 2 320 t1 (fillT (r2.take 8) t1) ((fillP (r2.take 8)).map rowOf) (fillP (r2.take 8)).length))))))
def xF (l1 l2 : Nat) (r1 r2 : List (List CV)) : Ans :=
  .chk (smN 320 z320 z320) (.chk (okA l1 r1) (.br (fillP (r1.take 8)).isEmpty (retF l2 r1 r2 (fillT (r1.take 8) z320)) (retF2 l2 r1 r2 (fillT (r1.take 8) z320) ((fillP (r1.take 8)).map rowOf) (fillP (r1.take 8)).length)))
set_option maxRecDepth 1000000
theorem cF (m1 m2 : Bool) (l1 l2 : Nat) (r1 r2 : List (List CV)) : Comes tF lvF 20 [.dsl 0 l1, .dsl 1 l2] [frm m1 r1, frm m2 r2] (xF l1 l2 r1 r2) := by unfold Comes; kernel_rfl
def retG (r1 : List (List CV)) (t1 : List UInt8) : Ans := .chk (smN 320 z320 t1) (.ret (.ptr 1 0) (fr r1 :: dkA0 1 320 t1 t1))
def retG2 (r1 : List (List CV)) (t1 : List UInt8) (rows : List (List CV)) (m : Nat) : Ans := .chk (smN 320 z320 t1) (.chk (decide (rows.length = m ∧ m ≤ 1099511627776)) (.ret (.ptr 1 0) (fr r1 :: dkA0 1 320 t1 t1)))
def xG (l1 : Nat) (r1 : List (List CV)) : Ans :=
  .chk (smN 320 z320 z320) (.chk (okA l1 r1) (.br (fillP (r1.take 8)).isEmpty (retG r1 (fillT (r1.take 8) z320)) (retG2 r1 (fillT (r1.take 8) z320) ((fillP (r1.take 8)).map rowOf) (fillP (r1.take 8)).length)))
theorem cG (m1 : Bool) (l1 : Nat) (r1 : List (List CV)) : Comes tF lvF 20 [.dsl 0 l1, .nilslice] [frm m1 r1] (xG l1 r1) := by unfold Comes; kernel_rfl
end Go.Proofs.Ytoekeplljjaehaa

/- Layer 26: disks that are filled, told; calls that lie within the disk. -/
set_option linter.unusedVariables false
set_option linter.unusedSimpArgs false
namespace Go.Proofs.Ytoekeplljjaehaa
open Go Sx
def rFill (l1 l2 : Nat) (r1 r2 : List (List CV)) : Ans :=
  .chk (okA l1 r1) (.chk (okA l2 r2) (.br (fillP (r2.take 8)).isEmpty (.ret (.ptr 2 0) (fr r1 :: fr r2 :: dkA0 2 320 (sT1 r1) (sT2 r1 r2))) (.ret (.ptr 2 0) (fr r1 :: fr r2 :: dkA1 2 320 (sT1 r1) (sT2 r1 r2) ((fillP (r2.take 8)).map rowOf) (fillP (r2.take 8)).length))))
def rFill1 (l1 : Nat) (r1 : List (List CV)) : Ans := .chk (okA l1 r1) (.ret (.ptr 1 0) (fr r1 :: dkA0 1 320 (sT1 r1) (sT1 r1)))
def eFilled : Ent := fun args pre => match args, pre with
  | [.dsl a l1, .dsl b l2], [.raw (.flatR m1 sh1 r1), .raw (.flatR m2 sh2 r2)] => .chk (Nat.beq a 0 && (Nat.beq b 1 && (eqA sh1 && eqA sh2))) (rFill l1 l2 r1 r2)
  | [.dsl a l1, .nilslice], [.raw (.flatR m1 sh1 r1)] => .chk (Nat.beq a 0 && eqA sh1) (rFill1 l1 r1)
  | _, _ => .fail
theorem smN_t {k t : List UInt8} (h1 : k.length = 320) (h2 : t.length = 320) : smN 320 k t = true := decide_eq_true ⟨h1, h2, by omega⟩
theorem vec_t (rs : List (List CV)) : decide (((fillP (rs.take 8)).map rowOf).length = (fillP (rs.take 8)).length ∧ (fillP (rs.take 8)).length ≤ 1099511627776) = true := decide_eq_true ⟨by rw [List.length_map], by have := fillP_len (rs.take 8); rw [List.length_take] at this; omega⟩
theorem eFilled_ok : EntOK Try.prog 20 eFilled := fun args pre => by
  unfold eFilled
  split
  · rename_i a l1 b l2 m1 sh1 r1 m2 sh2 r2
    refine ⟨fun g => ?_, fun _ => trivial⟩
    simp only [Bool.and_eq_true, beqT] at g
    obtain ⟨rfl, rfl, g1, g2⟩ := g
    obtain rfl := eqA_eq g1
    obtain rfl := eqA_eq g2
    refine of_run (ans_comes tF_ok (cF m1 m2 l1 l2 r1 r2) lvF_ok) fun r hr => ?_
    unfold rFill at hr
    obtain ⟨c1, hr⟩ := chk_run hr
    obtain ⟨c2, hr⟩ := chk_run hr
    rw [← hr]
    have e1 : smN 320 z320 (fillT (r1.take 8) z320) = true := smN_t z320_len (sT1_len r1)
    have e2 : smN 320 (fillT (r1.take 8) z320) (fillT (r1.take 8) z320) = true := smN_t (sT1_len r1) (sT1_len r1)
    unfold xF retF retF2
    simp only [Ans.run, Ans.chk]
    rw [bcT (smN_t z320_len z320_len), bcT c1, bcT e1, bcT e2, bcT c2, bcT (vec_t r1)]
    unfold sT2 sT1
    cases (fillP (r1.take 8)).isEmpty <;> simp only [bcond, e1]
  · rename_i a l1 m1 sh1 r1
    refine ⟨fun g => ?_, fun _ => trivial⟩
    simp only [Bool.and_eq_true, beqT] at g
    obtain ⟨rfl, g1⟩ := g
    obtain rfl := eqA_eq g1
    refine of_run (ans_comes tF_ok (cG m1 l1 r1) lvF_ok) fun r hr => ?_
    unfold rFill1 at hr
    obtain ⟨c1, hr⟩ := chk_run hr
    rw [← hr]
    have e1 : smN 320 z320 (fillT (r1.take 8) z320) = true := smN_t z320_len (sT1_len r1)
    unfold xG retG retG2
    simp only [Ans.run, Ans.chk]
    rw [bcT (smN_t z320_len z320_len), bcT c1, bcT e1, bcT (vec_t r1)]
    unfold sT1
    cases (fillP (r1.take 8)).isEmpty <;> simp only [bcond, e1]
  · trivial

/-- Writes that lie within the disk; reads. -/
def eWriteI : Ent := onDisk (fun vs => match vs with | [.int .i64 a, .str s] => .ret (.int .i64 1) [] | _ => .fail)
  (fun n k t vs => match vs with | [.int .i64 a, .str s] => .chk (i64B a) (.chk (inD n a s.length) (.br s.isEmpty (.ret (.int .i64 0) (dk0 n k t)) (.ret (.int .i64 0) (dk1 n k (splice a.toNat s t) ((parts a.toNat s).map rowOf) (parts a.toNat s).length)))) | _ => .fail)
  (fun n k t rows m vs => match vs with | [.int .i64 a, .str s] => .chk (i64B a) (.chk (inD n a s.length) (.br s.isEmpty (.ret (.int .i64 0) (dk1 n k t rows m)) (.ret (.int .i64 0) (dk2 n k (splice a.toNat s t) (rows ++ (parts a.toNat s).map rowOf) (m + (parts a.toNat s).length))))) | _ => .fail)
theorem eWriteI_ok : EntOK Try.prog 25 eWriteI := fun args pre => by
  refine of_run (eWrite_ok args pre) fun r hr => ?_
  unfold eWriteI onDisk at hr
  unfold eWrite onDisk
  split at hr
  · exact hr
  · obtain ⟨c1, hr⟩ := chk_run hr
    obtain ⟨c2, hr⟩ := chk_run hr
    simp only [Ans.run, Ans.chk] at hr ⊢
    rw [bcT c1, bcT c2]
    split at hr
    · obtain ⟨c3, hr⟩ := chk_run hr
      obtain ⟨c4, hr⟩ := chk_run hr
      unfold rW0
      simp only [Ans.run]
      rw [bcT c3, bcT c4]; exact hr
    · cases hr
  · obtain ⟨c1, hr⟩ := chk_run hr
    obtain ⟨c2, hr⟩ := chk_run hr
    obtain ⟨c5, hr⟩ := chk_run hr
    obtain ⟨c6, hr⟩ := chk_run hr
    simp only [Ans.run, Ans.chk] at hr ⊢
    rw [bcT c1, bcT c2, bcT c5, bcT c6]
    split at hr
    · obtain ⟨c3, hr⟩ := chk_run hr
      obtain ⟨c4, hr⟩ := chk_run hr
      unfold rW1
      simp only [Ans.run]
      rw [bcT c3, bcT c4]; exact hr
    · cases hr
  · cases hr
def eReadI : Ent := onDisk (fun vs => match vs with | [.int .i64 a, .int .i64 c] => .ret (.tuple [.str [], .int .i64 1]) [] | _ => .fail)
  (fun n k t vs => match vs with | [.int .i64 a, .int .i64 c] => .chk (i64B a) (.chk (i64B c) (.chk (decide (0 ≤ c) && inD n a c.toNat) (.ret (.tuple [.str ((t.drop a.toNat).take c.toNat), .int .i64 0]) (dk0 n k t)))) | _ => .fail)
  (fun n k t rows m vs => match vs with | [.int .i64 a, .int .i64 c] => .chk (i64B a) (.chk (i64B c) (.chk (decide (0 ≤ c) && inD n a c.toNat) (.ret (.tuple [.str ((t.drop a.toNat).take c.toNat), .int .i64 0]) (dk1 n k t rows m)))) | _ => .fail)
theorem eReadI_ok : EntOK Try.prog 13 eReadI := fun args pre => by
  refine of_run (eRead_ok args pre) fun r hr => ?_
  unfold eReadI onDisk at hr
  unfold eRead onDisk
  split at hr
  · exact hr
  · obtain ⟨c1, hr⟩ := chk_run hr
    obtain ⟨c2, hr⟩ := chk_run hr
    simp only [Ans.run, Ans.chk] at hr ⊢
    rw [bcT c1, bcT c2]
    split at hr
    · obtain ⟨c3, hr⟩ := chk_run hr
      obtain ⟨c4, hr⟩ := chk_run hr
      obtain ⟨c5, hr⟩ := chk_run hr
      unfold rRd
      simp only [Ans.run]
      rw [bcT c3, bcT c4, bcT c5]; exact hr
    · cases hr
  · obtain ⟨c1, hr⟩ := chk_run hr
    obtain ⟨c2, hr⟩ := chk_run hr
    obtain ⟨c6, hr⟩ := chk_run hr
    obtain ⟨c7, hr⟩ := chk_run hr
    simp only [Ans.run, Ans.chk] at hr ⊢
    rw [bcT c1, bcT c2, bcT c6, bcT c7]
    split at hr
    · obtain ⟨c3, hr⟩ := chk_run hr
      obtain ⟨c4, hr⟩ := chk_run hr
      obtain ⟨c5, hr⟩ := chk_run hr
      unfold rRd
      simp only [Ans.run]
      rw [bcT c3, bcT c4, bcT c5]; exact hr
    · cases hr
  · cases hr
def tLw : Tab := [(25, eWriteI), (24, eSync), (13, eReadI), (23, ePick), (20, eFilled), (10, eTrue)]
theorem tLw_ok : TabOK Try.prog tLw := .cons eWriteI_ok (.cons eSync_ok (.cons eReadI_ok (.cons ePick_ok (.cons eFilled_ok (.cons awake_ok .nil)))))
end Go.Proofs.Ytoekeplljjaehaa

/- Layer 26: what is written is read: the law, evaluated. -/
set_option linter.unusedVariables false
set_option linter.unusedSimpArgs false
namespace Go.Proofs.Ytoekeplljjaehaa
open Go Sx
/-- A disk of five sectors: its bytes, kept and there; the rows of what is pending, if there is a block of them. -/
structure DD where
  k : List UInt8
  t : List UInt8
  p : Option (List (List CV) × Nat) := none
def ansChks (x : Ans) : List Bool → Ans
  | [] => x
  | b :: bs => .chk b (ansChks x bs)
def DD.chk (d : DD) : List Bool := match d.p with
  | none => [smN 320 d.k d.t]
  | some (rows, m) => [smN 320 d.k d.t, decide (rows.length = m ∧ m ≤ 1099511627776)]
def DD.wr (d : DD) (a : Int) (s : List UInt8) : DD := match d.p with
  | none => ⟨d.k, splice a.toNat s d.t, some ((parts a.toNat s).map rowOf, (parts a.toNat s).length)⟩
  | some (rows, m) => ⟨d.k, splice a.toNat s d.t, some (rows ++ (parts a.toNat s).map rowOf, m + (parts a.toNat s).length)⟩
def wrC (d : DD) (a : Int) (s : List UInt8) (k : DD → Ans) : Ans := ansChks (.br s.isEmpty (k d) (k (d.wr a s))) (d.chk ++ [i64B a, inD 320 a s.length])
def rdC (d : DD) (a c : Int) (k : List UInt8 → Ans) : Ans := ansChks (k ((d.t.drop a.toNat).take c.toNat)) (d.chk ++ [i64B a, i64B c, decide (0 ≤ c) && inD 320 a c.toNat])
theorem ansChks_run {x : Ans} {r : Option (AV × List PObj)} (hx : x.run pure2 = r) : ∀ {bs : List Bool}, (∀ b ∈ bs, b = true) → (ansChks x bs).run pure2 = r
  | [], _ => hx
  | b :: bs, h => by
    have h1 := h b (List.mem_cons_self ..)
    subst h1
    have h2 : ∀ c ∈ bs, c = true := fun c hc => h c (List.mem_cons_of_mem _ hc)
    show (ansChks x bs).run pure2 = r
    exact ansChks_run hx h2
/-- What is right of a disk. -/
def DD.ok (d : DD) : Prop := d.k.length = 320 ∧ d.t.length = 320 ∧ ∀ rows m, d.p = some (rows, m) → rows.length = m ∧ m ≤ 1099511627776
theorem DD.chk_ok {d : DD} (h : d.ok) : ∀ b ∈ d.chk, b = true := by
  intro b hb
  unfold DD.chk at hb
  split at hb
  · rw [List.mem_singleton.1 hb]; exact smN_t h.1 h.2.1
  · rename_i rows m hp
    rcases List.mem_cons.1 hb with rfl | hb
    · exact smN_t h.1 h.2.1
    · rw [List.mem_singleton.1 hb]; exact decide_eq_true (h.2.2 rows m hp)
theorem wrC_run {d : DD} {a : Nat} {s : List UInt8} {k : DD → Ans} {r : Option (AV × List PObj)} (hd : d.ok) (ha : a + s.length ≤ 320) (hk : (s = [] → (k d).run pure2 = r) ∧ (s ≠ [] → (k (d.wr a s)).run pure2 = r)) : (wrC d a s k).run pure2 = r := by
  unfold wrC
  refine ansChks_run ?_ ?_
  · cases hs : s.isEmpty with
    | true => exact hk.1 (List.isEmpty_iff.1 hs)
    | false => exact hk.2 (fun e => by rw [e] at hs; cases hs)
  · intro b hb
    rcases List.mem_append.1 hb with hb | hb
    · exact DD.chk_ok hd b hb
    · rcases List.mem_cons.1 hb with rfl | hb
      · exact i64B_to (by omega)
      · rw [List.mem_singleton.1 hb]; exact decide_eq_true ⟨by omega, by simp only [Int.toNat_natCast]; exact ha⟩
theorem rdC_run {d : DD} {a c : Nat} {k : List UInt8 → Ans} {r : Option (AV × List PObj)} (hd : d.ok) (ha : a + c ≤ 320) (hk : (k ((d.t.drop a).take c)).run pure2 = r) : (rdC d a c k).run pure2 = r := by
  unfold rdC
  refine ansChks_run hk ?_
  intro b hb
  rcases List.mem_append.1 hb with hb | hb
  · exact DD.chk_ok hd b hb
  · rcases List.mem_cons.1 hb with rfl | hb
    · exact i64B_to (by omega)
    · rcases List.mem_cons.1 hb with rfl | hb
      · exact i64B_to (by omega)
      · rw [List.mem_singleton.1 hb, decide_eq_true (by omega), Bool.true_and]; exact decide_eq_true ⟨by omega, by simp only [Int.toNat_natCast]; exact ha⟩
theorem DD.wr_t {d : DD} {a : Int} {s : List UInt8} : (d.wr a s).t = splice a.toNat s d.t := by unfold DD.wr; split <;> rfl
theorem DD.wr_k {d : DD} {a : Int} {s : List UInt8} : (d.wr a s).k = d.k := by unfold DD.wr; split <;> rfl
theorem DD.wr_ok {d : DD} {a : Nat} {s : List UInt8} (hd : d.ok) (ha : a + s.length ≤ 320) (hm : ∀ rows m, d.p = some (rows, m) → m ≤ 1000000000) : (d.wr a s).ok := by
  have hl := parts_len _ a s (Nat.le_refl _)
  refine ⟨by rw [DD.wr_k]; exact hd.1, by rw [DD.wr_t, splice_len (by rw [hd.2.1]; simp only [Int.toNat_natCast]; exact ha)]; exact hd.2.1, ?_⟩
  intro rows m h
  unfold DD.wr at h
  split at h
  · rename_i hp
    simp only [Option.some.injEq, Prod.mk.injEq, Int.toNat_natCast] at h
    obtain ⟨rfl, rfl⟩ := h
    exact ⟨by rw [List.length_map], by omega⟩
  · rename_i rows' m' hp
    have := hd.2.2 _ _ hp
    have := hm _ _ hp
    simp only [Option.some.injEq, Prod.mk.injEq, Int.toNat_natCast] at h
    obtain ⟨rfl, rfl⟩ := h
    exact ⟨by rw [List.length_append, List.length_map]; omega, by omega⟩

def slB (i : Int) (s : List UInt8) : Bool := decide (0 ≤ i ∧ i.toNat ≤ s.length)
def loS (i : Int) (s : List UInt8) : List UInt8 := List.take (i.toNat - 0) (List.drop 0 s)
def hiS (i : Int) (s : List UInt8) : List UInt8 := List.take (s.length - i.toNat) (List.drop i.toNat s)
def minL (a : Int) (s : List UInt8) : Int := if IntKind.i64.wrap (320 - a) < (s.length : Int) then IntKind.i64.wrap (320 - a) else (s.length : Int)
def tS (at_ : Int) (s : List UInt8) : List UInt8 := loS (minL (pkI at_ 320) s) s
def kS (at_ n : Int) (s : List UInt8) : Int := pkI n (IntKind.i64.wrap (((tS at_ s).length : Int) + 1))
def catB (a b : List UInt8) : Bool := decide (a.length + b.length ≤ 9223372036854775807)
def xReads (l1 : Nat) (r1 : List (List CV)) (at_ : Int) (s : List UInt8) (n : Int) : Ans :=
  ansChks (rdC ⟨sT1 r1, sT1 r1, none⟩ 0 320 fun old => ansChks (
    wrC ⟨sT1 r1, sT1 r1, none⟩ (pkI at_ 320) (tS at_ s) fun da =>
    .chk (slB (kS at_ n s) (tS at_ s)) (wrC ⟨sT1 r1, sT1 r1, none⟩ (pkI at_ 320) (loS (kS at_ n s) (tS at_ s)) fun db0 =>
    .chk (slB (kS at_ n s) (tS at_ s)) (wrC db0 (IntKind.i64.wrap (pkI at_ 320 + kS at_ n s)) (hiS (kS at_ n s) (tS at_ s)) fun db =>
    rdC da (pkI at_ 320) ((tS at_ s).length : Int) fun r => rdC da 0 320 fun now =>
    .br ((old.length : Int) != 320) (.ret (.bool false) [fr r1]) (.br ((now.length : Int) != 320) (.ret (.bool false) [fr r1])
      (.br (r == tS at_ s) (.chk (slB (pkI at_ 320) old) (.chk (catB (loS (pkI at_ 320) old) (tS at_ s)) (.chk (slB (IntKind.i64.wrap (pkI at_ 320 + ((tS at_ s).length : Int))) old) (.chk (catB (loS (pkI at_ 320) old ++ tS at_ s) (hiS (IntKind.i64.wrap (pkI at_ 320 + ((tS at_ s).length : Int))) old))
        (.br (now == loS (pkI at_ 320) old ++ tS at_ s ++ hiS (IntKind.i64.wrap (pkI at_ 320 + ((tS at_ s).length : Int))) old) (rdC db 0 320 fun nb => .ret (.bool (nb == now)) [fr r1]) (.ret (.bool false) [fr r1]))))))
        (.ret (.bool false) [fr r1]))))))
    [i64B at_, slB (minL (pkI at_ 320) s) s, i64B n, posB (IntKind.i64.wrap (((tS at_ s).length : Int) + 1))]) [okA l1 r1, okA l1 r1]
end Go.Proofs.Ytoekeplljjaehaa

/- Layer 26: pieces that there are not, or twice, are not kept. -/
set_option linter.unusedVariables false
set_option linter.unusedSimpArgs false
namespace Go.Proofs.Ytoekeplljjaehaa
open Go Sx
/-- Of which piece a number is. -/
def nmI (x : Int) : Int := if x < 0 then IntKind.i64.wrap (-1 - x) else x
def eNum : Ent := fun args pre => match args, pre with | [.int .i64 x], [] => .ret (.int .i64 (nmI x)) [] | _, _ => .fail
theorem cN (x : Int) : Comes [] nolv 33 [.int .i64 x] [] (.br (decide (x < 0)) (.ret (.int .i64 (IntKind.i64.wrap (-1 - x))) []) (.ret (.int .i64 x) [])) := by unfold Comes; kernel_rfl
theorem eNum_ok : EntOK Try.prog 33 eNum := fun args pre => by
  unfold eNum
  split
  · rename_i x
    refine of_run (ans_comes .nil (cN x)) fun r hr => ?_
    rw [← hr]
    simp only [Ans.run]
    unfold nmI
    by_cases h : x < 0
    · rw [bcT (b := decide _) (decide_eq_true h), if_pos h]
    · rw [bcF (b := decide _) (decide_eq_false h), if_neg h]
  · trivial
def mkB (m : Nat) : Bool := decide (0 ≤ (m : Int) ∧ (m : Int) ≤ (m : Int) ∧ (m : Int) * ((1 : Nat) : Int) ≤ 281474976710656 ∧ (m : Int) < 9223372036854775808)
def tk (m : Nat) : List Bool := List.replicate (m : Int).toNat false
def ixB (x : Int) (m : Nat) : Bool := decide (0 ≤ x ∧ x < (((m : Int).toNat : Nat) : Int))
def lnB (x : Int) (l : List Bool) : Bool := decide (0 + x.toNat * 1 < l.length)
def gtB (x : Int) (l : List Bool) : Bool := l.getD (0 + x.toNat * 1) false
/-- One number is looked at. -/
def stepK (m : Nat) (x : Int) (l : List Bool) (post : List PObj) (k : List Bool → Ans) : Ans :=
  .br (decide (nmI x ≥ (((m : Int).toNat : Nat) : Int))) (.ret (.bool false) post) (.chk (ixB (nmI x) m) (.chk (lnB (nmI x) l) (.br (gtB (nmI x) l) (.ret (.bool false) post)
    (.chk (ixB (nmI x) m) (.chk (lnB (nmI x) l) (k (l.set (0 + (nmI x).toNat * 1) true)))))))
def tNu : Tab := [(33, eNum)]
theorem tNu_ok : TabOK Try.prog tNu := .cons eNum_ok .nil
def dkl (n : Nat) (k t : List UInt8) (xs : List AV) : List PObj := [.raw (.cells [.slice 2 0 n n, .slice 3 0 n n, .nilslice] dT), .raw (.cells xs 3), .arrB k 5, .arrB t 5]
def dkm (n : Nat) (k t : List UInt8) (rows : List (List CV)) (m : Nat) (xs : List AV) : List PObj := [.raw (.cells [.slice 2 0 n n, .slice 3 0 n n, .vec 4 m] dT), .raw (.cells xs 3), .arrB k 5, .arrB t 5, .vecR shP rows pT]
theorem cA0 (n : Nat) (k t : List UInt8) (x : Int) : Comes tNu nolv 32 [.ptr 0 0, .slice 1 0 1 1] (dkl n k t [.int .i64 x]) (stepK 0 x (tk 0) (dkl n k t [.int .i64 x]) fun _ => .ret (.bool true) (dkl n k t [.int .i64 x])) := by unfold Comes; kernel_rfl
theorem cA1 (n : Nat) (k t : List UInt8) (rows : List (List CV)) (m : Nat) (x : Int) : Comes tNu nolv 32 [.ptr 0 0, .slice 1 0 1 1] (dkm n k t rows m [.int .i64 x]) (.chk (mkB m) (stepK m x (tk m) (dkm n k t rows m [.int .i64 x]) fun _ => .ret (.bool true) (dkm n k t rows m [.int .i64 x]))) := by unfold Comes; kernel_rfl
theorem cA2 (n : Nat) (k t : List UInt8) (rows : List (List CV)) (m : Nat) (x y : Int) : Comes tNu nolv 32 [.ptr 0 0, .slice 1 0 2 2] (dkm n k t rows m [.int .i64 x, .int .i64 y]) (.chk (mkB m) (stepK m x (tk m) (dkm n k t rows m [.int .i64 x, .int .i64 y]) fun l => stepK m y l (dkm n k t rows m [.int .i64 x, .int .i64 y]) fun _ => .ret (.bool true) (dkm n k t rows m [.int .i64 x, .int .i64 y]))) := by unfold Comes; kernel_rfl
end Go.Proofs.Ytoekeplljjaehaa

/- Layer 26: what is written is read: it is so. -/
set_option linter.unusedVariables false
set_option linter.unusedSimpArgs false
namespace Go.Proofs.Ytoekeplljjaehaa
open Go Sx
theorem chk_to {b : Bool} {x : Ans} {r : Option (AV × List PObj)} (h : b = true) (hx : x.run pure2 = r) : (Ans.chk b x).run pure2 = r := by subst h; exact hx
theorem loS_nat (k : Nat) (s : List UInt8) : loS (k : Int) s = s.take k := rfl
theorem hiS_nat (k : Nat) (s : List UInt8) : hiS (k : Int) s = s.drop k := by
  unfold hiS
  simp only [Int.toNat_natCast]
  rw [List.take_of_length_le (by rw [List.length_drop]; exact Nat.le_refl _)]
theorem minL_nat {p : Nat} {s : List UInt8} (hp : p ≤ 320) : minL (p : Int) s = (((s.take (320 - p)).length : Nat) : Int) := by
  unfold minL
  rw [i64_in (by omega) (by omega), List.length_take]
  split <;> omega
theorem take_min {p : Nat} {s : List UInt8} : s.take (s.take p).length = s.take p := by
  rw [List.length_take]
  by_cases h2 : p ≤ s.length
  · rw [Nat.min_eq_left h2]
  · rw [Nat.min_eq_right (by omega), List.take_length, List.take_of_length_le (by omega)]
theorem tS_nat {at_ : Int} {s : List UInt8} (h : i64B at_ = true) : tS at_ s = s.take (320 - pk at_ 320) := by
  have := pk_lt (c := at_) (n := 320) (by omega)
  unfold tS
  have e : pkI at_ 320 = (pk at_ 320 : Nat) := pkI_nat (n := 320) h
  rw [e, minL_nat (by omega), loS_nat, take_min]
theorem splice_read {a : Nat} {s t : List UInt8} (h : a + s.length ≤ t.length) : ((splice a s t).drop a).take s.length = s := by
  unfold splice
  have h1 : (t.take a).length = a := by rw [List.length_take]; omega
  rw [List.append_assoc, List.drop_append, h1, Nat.sub_self, List.drop_zero, List.drop_of_length_le (by omega), List.nil_append, List.take_left']
  rfl
theorem reads_true {l1 : Nat} {r1 : List (List CV)} {at_ n : Int} {s : List UInt8} (hl : okA l1 r1 = true) (ha : i64B at_ = true) (hn : i64B n = true) : (xReads l1 r1 at_ s n).run pure2 = some (.bool true, [fr r1]) := by
  have hp := pk_lt (c := at_) (n := 320) (by omega)
  have ep : pkI at_ 320 = (pk at_ 320 : Nat) := pkI_nat (n := 320) ha
  have et := tS_nat (s := s) ha
  generalize pk at_ 320 = p at hp ep et
  generalize hT : s.take (320 - p) = T at et
  have hTl : p + T.length ≤ 320 := by rw [← hT, List.length_take]; omega
  have ek : kS at_ n s = (pk n (T.length + 1) : Nat) := by
    unfold kS
    rw [et, i64_in (by omega) (by omega)]
    exact pkI_nat (n := T.length + 1) hn
  have hk := pk_lt (c := n) (n := T.length + 1) (by omega)
  generalize pk n (T.length + 1) = k at ek hk
  have h1 := sT1_len r1
  have hd : DD.ok ⟨sT1 r1, sT1 r1, none⟩ := ⟨h1, h1, fun rows m h => by cases h⟩
  have ew : IntKind.i64.wrap (pkI at_ 320 + kS at_ n s) = ((p + k : Nat) : Int) := by rw [ep, ek, i64_in (by omega) (by omega)]; omega
  have ev : IntKind.i64.wrap (pkI at_ 320 + ((tS at_ s).length : Int)) = ((p + T.length : Nat) : Int) := by rw [ep, et, i64_in (by omega) (by omega)]; omega
  generalize hS : sT1 r1 = S at h1 hd
  unfold xReads
  rw [hS]
  refine ansChks_run ?_ (by intro b hb; simp only [List.mem_cons, List.not_mem_nil, or_false, or_self] at hb; rw [hb]; exact hl)
  rw [ew, ev, ep, ek, et]
  refine rdC_run (a := 0) (c := 320) hd (by omega) ?_
  rw [List.drop_zero, List.take_of_length_le (by rw [h1]; omega)]
  refine ansChks_run ?_ ?_
  rotate_left
  · intro b hb
    simp only [List.mem_cons, List.not_mem_nil, or_false] at hb
    rcases hb with rfl | rfl | rfl | rfl
    · exact ha
    · rw [minL_nat (by omega), hT]; exact decide_eq_true ⟨by omega, by rw [← hT]; simp only [Int.toNat_natCast, List.length_take]; omega⟩
    · exact hn
    · rw [i64_in (by omega) (by omega)]; exact posB_to (by omega)
  -- what comes of a, of b
  have main : ∀ da db0 db : DD, da.ok → db.ok → da.t = splice p T S → db.t = splice p T S → (rdC da (p : Int) (T.length : Int) fun r => rdC da 0 320 fun now =>
    .br ((S.length : Int) != 320) (.ret (.bool false) [fr r1]) (.br ((now.length : Int) != 320) (.ret (.bool false) [fr r1])
      (.br (r == T) (.chk (slB (p : Int) S) (.chk (catB (loS (p : Int) S) T) (.chk (slB ((p + T.length : Nat) : Int) S) (.chk (catB (loS (p : Int) S ++ T) (hiS ((p + T.length : Nat) : Int) S))
        (.br (now == loS (p : Int) S ++ T ++ hiS ((p + T.length : Nat) : Int) S) (rdC db 0 320 fun nb => .ret (.bool (nb == now)) [fr r1]) (.ret (.bool false) [fr r1]))))))
        (.ret (.bool false) [fr r1])))).run pure2 = some (.bool true, [fr r1]) := by
    intro da db0 db ha hb hat hbt
    refine rdC_run ha (by omega) ?_
    refine rdC_run (a := 0) (c := 320) ha (by omega) ?_
    have hs : (splice p T S).length = 320 := by rw [splice_len (by omega)]; exact h1
    rw [List.drop_zero, hat, List.take_of_length_le (by rw [hs]; omega), splice_read (by omega), loS_nat, hiS_nat]
    simp only [Ans.run, Ans.chk]
    rw [bcF (b := (S.length : Int) != 320) (by rw [h1]; rfl), bcF (b := ((splice p T S).length : Int) != 320) (by rw [hs]; rfl), bcT (b := T == T) (by simp)]
    have b1 : slB (p : Int) S = true := decide_eq_true ⟨by omega, by simp only [Int.toNat_natCast]; omega⟩
    have b2 : catB (S.take p) T = true := decide_eq_true (by rw [List.length_take]; omega)
    have b3 : slB ((p + T.length : Nat) : Int) S = true := decide_eq_true ⟨by omega, by simp only [Int.toNat_natCast]; omega⟩
    have b4 : catB (S.take p ++ T) (S.drop (p + T.length)) = true := decide_eq_true (by rw [List.length_append, List.length_take, List.length_drop]; omega)
    rw [bcT b1, bcT b2, bcT b3, bcT b4, bcT (b := splice p T S == _) (by unfold splice; simp)]
    refine rdC_run (a := 0) (c := 320) hb (by omega) ?_
    rw [List.drop_zero, hbt, List.take_of_length_le (by rw [hs]; omega)]
    simp [Ans.run, pure2]
  have nil : ∀ q : Nat, q ≤ 320 → splice q [] S = S := fun q hq => splice_nil (by omega)
  have hkT : slB (k : Int) T = true := decide_eq_true ⟨by omega, by simp only [Int.toNat_natCast]; omega⟩
  have rest : ∀ da : DD, da.ok → da.t = splice p T S → (Ans.chk (slB (k : Int) T) (wrC ⟨S, S, none⟩ (p : Int) (loS (k : Int) T) fun db0 =>
    .chk (slB (k : Int) T) (wrC db0 ((p + k : Nat) : Int) (hiS (k : Int) T) fun db =>
    rdC da (p : Int) (T.length : Int) fun r => rdC da 0 320 fun now =>
    .br ((S.length : Int) != 320) (.ret (.bool false) [fr r1]) (.br ((now.length : Int) != 320) (.ret (.bool false) [fr r1])
      (.br (r == T) (.chk (slB (p : Int) S) (.chk (catB (loS (p : Int) S) T) (.chk (slB ((p + T.length : Nat) : Int) S) (.chk (catB (loS (p : Int) S ++ T) (hiS ((p + T.length : Nat) : Int) S))
        (.br (now == loS (p : Int) S ++ T ++ hiS ((p + T.length : Nat) : Int) S) (rdC db 0 320 fun nb => .ret (.bool (nb == now)) [fr r1]) (.ret (.bool false) [fr r1]))))))
        (.ret (.bool false) [fr r1])))))).run pure2 = some (.bool true, [fr r1]) := by
    intro da hda hat
    refine chk_to hkT ?_
    rw [loS_nat, hiS_nat]
    have hl1 : (T.take k).length = k := by rw [List.length_take]; omega
    have hl2 : (T.drop k).length = T.length - k := by rw [List.length_drop]
    have step2 : ∀ db0 : DD, db0.ok → db0.t = splice p (T.take k) S → (∀ rows m, db0.p = some (rows, m) → m ≤ 1000000000) → (Ans.chk (slB (k : Int) T) (wrC db0 ((p + k : Nat) : Int) (T.drop k) fun db =>
    rdC da (p : Int) (T.length : Int) fun r => rdC da 0 320 fun now =>
    .br ((S.length : Int) != 320) (.ret (.bool false) [fr r1]) (.br ((now.length : Int) != 320) (.ret (.bool false) [fr r1])
      (.br (r == T) (.chk (slB (p : Int) S) (.chk (catB (loS (p : Int) S) T) (.chk (slB ((p + T.length : Nat) : Int) S) (.chk (catB (loS (p : Int) S ++ T) (hiS ((p + T.length : Nat) : Int) S))
        (.br (now == loS (p : Int) S ++ T ++ hiS ((p + T.length : Nat) : Int) S) (rdC db 0 320 fun nb => .ret (.bool (nb == now)) [fr r1]) (.ret (.bool false) [fr r1]))))))
        (.ret (.bool false) [fr r1]))))).run pure2 = some (.bool true, [fr r1]) := by
      intro db0 h0 h0t h0m
      refine chk_to hkT ?_
      refine wrC_run (a := p + k) (s := T.drop k) h0 (by omega) ⟨fun e => ?_, fun e => ?_⟩
      · refine main da db0 db0 hda h0 hat ?_
        have := splice_two (a := p) (m := k) (s := T) (t := S) (by omega) (by omega)
        rw [e, splice_nil (by rw [splice_len (by omega)]; omega)] at this
        rw [h0t]; exact this
      · refine main da db0 _ hda (DD.wr_ok h0 (by omega) h0m) hat ?_
        rw [DD.wr_t, h0t]
        simp only [Int.toNat_natCast]
        exact splice_two (by omega) (by omega)
    refine wrC_run (a := p) (s := T.take k) hd (by omega) ⟨fun e => ?_, fun e => ?_⟩
    · exact step2 _ hd (by rw [e, nil p (by omega)]) (fun rows m h => by cases h)
    · refine step2 _ (DD.wr_ok hd (by omega) (fun rows m h => by cases h)) (by rw [DD.wr_t]; rfl) ?_
      intro rows m h
      have hl := parts_len _ p (T.take k) (Nat.le_refl _)
      simp only [DD.wr, Option.some.injEq, Prod.mk.injEq, Int.toNat_natCast] at h
      omega
  refine wrC_run (a := p) (s := T) hd (by omega) ⟨fun e => ?_, fun e => ?_⟩
  · exact rest _ hd (by rw [e, nil p (by omega)])
  · exact rest _ (DD.wr_ok hd (by omega) (fun rows m h => by cases h)) (by rw [DD.wr_t]; rfl)
end Go.Proofs.Ytoekeplljjaehaa

/- Layer 26: what can't be done. -/
set_option linter.unusedVariables false
set_option linter.unusedSimpArgs false
namespace Go.Proofs.Ytoekeplljjaehaa
open Go Sx
/-- Numbers of which the first is no piece's, or the second the first one's piece again. -/
def bad1 (m : Nat) (x : Int) : Bool := decide ((m : Int) ≤ nmI x)
def bad2 (m : Nat) (x y : Int) : Bool := decide (0 ≤ nmI x ∧ nmI x < (m : Int) ∧ nmI y = nmI x)
def litE (x y q o l c t x1 y1 x2 y2 d d1 d2 n n1 n2 n3 j : Nat) : Bool := Nat.beq x 0 && (Nat.beq y 0 && (Nat.beq q 1 && (Nat.beq o 0 && (Nat.beq l j && (Nat.beq c j && (Nat.beq t 3 && (Nat.beq x1 2 && (Nat.beq y1 0 && (Nat.beq x2 3 && (Nat.beq y2 0 && (Nat.beq d dT && (Nat.beq d1 5 && (Nat.beq d2 5 && (Nat.beq n1 n && (Nat.beq n2 n && Nat.beq n3 n)))))))))))))))
theorem litE_eq {x y q o l c t x1 y1 x2 y2 d d1 d2 n n1 n2 n3 j : Nat} (h : litE x y q o l c t x1 y1 x2 y2 d d1 d2 n n1 n2 n3 j = true) : x = 0 ∧ y = 0 ∧ q = 1 ∧ o = 0 ∧ l = j ∧ c = j ∧ t = 3 ∧ x1 = 2 ∧ y1 = 0 ∧ x2 = 3 ∧ y2 = 0 ∧ d = dT ∧ d1 = 5 ∧ d2 = 5 ∧ n1 = n ∧ n2 = n ∧ n3 = n := by
  unfold litE at h
  simpa only [Bool.and_eq_true, beqT] using h
def litU (v ty : Nat) (sh : List CK) : Bool := Nat.beq v 4 && (Nat.beq ty pT && eqC sh)
theorem litU_eq {v ty : Nat} {sh : List CK} (h : litU v ty sh = true) : v = 4 ∧ ty = pT ∧ sh = shP := by
  unfold litU at h
  simp only [Bool.and_eq_true, beqT] at h
  exact ⟨h.1, h.2.1, eqC_eq h.2.2⟩
def eAre : Ent := fun args pre => match args, pre with
  | [.ptr x y, .slice q o l c], [.raw (.cells [.slice x1 y1 n n1, .slice x2 y2 n2 n3, .nilslice] d), .raw (.cells [.int .i64 a] t), .arrB k d1, .arrB u d2] =>
    .chk (litE x y q o l c t x1 y1 x2 y2 d d1 d2 n n1 n2 n3 1) (.chk (bad1 0 a) (.ret (.bool false) (dkl n k u [.int .i64 a])))
  | [.ptr x y, .slice q o l c], [.raw (.cells [.slice x1 y1 n n1, .slice x2 y2 n2 n3, .vec v m] d), .raw (.cells [.int .i64 a] t), .arrB k d1, .arrB u d2, .vecR sh rows ty] =>
    .chk (litE x y q o l c t x1 y1 x2 y2 d d1 d2 n n1 n2 n3 1) (.chk (litU v ty sh) (.chk (mkB m) (.chk (bad1 m a) (.ret (.bool false) (dkm n k u rows m [.int .i64 a])))))
  | [.ptr x y, .slice q o l c], [.raw (.cells [.slice x1 y1 n n1, .slice x2 y2 n2 n3, .vec v m] d), .raw (.cells [.int .i64 a, .int .i64 b] t), .arrB k d1, .arrB u d2, .vecR sh rows ty] =>
    .chk (litE x y q o l c t x1 y1 x2 y2 d d1 d2 n n1 n2 n3 2) (.chk (litU v ty sh) (.chk (mkB m) (.chk (bad2 m a b) (.ret (.bool false) (dkm n k u rows m [.int .i64 a, .int .i64 b])))))
  | _, _ => .fail
theorem eAre_ok : EntOK Try.prog 32 eAre := fun args pre => by
  unfold eAre
  split
  · refine ⟨fun g1 => ⟨fun g2 => ?_, fun _ => trivial⟩, fun _ => trivial⟩
    obtain ⟨rfl, rfl, rfl, rfl, rfl, rfl, rfl, rfl, rfl, rfl, rfl, rfl, rfl, rfl, rfl, rfl, rfl⟩ := litE_eq g1
    refine of_run (ans_comes tNu_ok (cA0 _ _ _ _)) fun r hr => ?_
    rw [← hr]
    unfold stepK
    simp only [Ans.run]
    have g2 := of_decide_eq_true g2
    rw [bcT (b := decide _) (decide_eq_true (by simpa using g2))]
  · rename_i m d a t k d1 u d2 sh rows ty
    refine ⟨fun g1 => ⟨fun g2 => ⟨fun g3 => ⟨fun g4 => ?_, fun _ => trivial⟩, fun _ => trivial⟩, fun _ => trivial⟩, fun _ => trivial⟩
    obtain ⟨rfl, rfl, rfl, rfl, rfl, rfl, rfl, rfl, rfl, rfl, rfl, rfl, rfl, rfl, rfl, rfl, rfl⟩ := litE_eq g1
    obtain ⟨rfl, rfl, rfl⟩ := litU_eq g2
    refine of_run (ans_comes tNu_ok (cA1 _ _ _ _ _ _)) fun r hr => ?_
    rw [← hr]
    unfold stepK
    simp only [Ans.run, Ans.chk]
    have g4 := of_decide_eq_true g4
    rw [bcT g3, bcT (b := decide _) (decide_eq_true (by simpa using g4))]
  · rename_i m d a b t k d1 u d2 sh rows ty
    refine ⟨fun g1 => ⟨fun g2 => ⟨fun g3 => ⟨fun g4 => ?_, fun _ => trivial⟩, fun _ => trivial⟩, fun _ => trivial⟩, fun _ => trivial⟩
    obtain ⟨rfl, rfl, rfl, rfl, rfl, rfl, rfl, rfl, rfl, rfl, rfl, rfl, rfl, rfl, rfl, rfl, rfl⟩ := litE_eq g1
    obtain ⟨rfl, rfl, rfl⟩ := litU_eq g2
    refine of_run (ans_comes tNu_ok (cA2 _ _ _ _ _ _ _)) fun r hr => ?_
    rw [← hr]
    unfold stepK
    simp only [Ans.run, Ans.chk]
    obtain ⟨h1, h2, h3⟩ := of_decide_eq_true g4
    obtain ⟨p, hp⟩ := Int.eq_ofNat_of_zero_le h1
    rw [h3, hp]
    rw [hp] at h2
    have e1 : ixB (p : Int) m = true := decide_eq_true ⟨by omega, by simpa using h2⟩
    have e2 : lnB (p : Int) (tk m) = true := decide_eq_true (by unfold tk; simp only [Int.toNat_natCast, List.length_replicate]; omega)
    have e3 : gtB (p : Int) (tk m) = false := by unfold gtB tk; simp only [Int.toNat_natCast]; rw [List.getD_eq_getElem?_getD, List.getElem?_replicate]; split <;> rfl
    have e4 : lnB (p : Int) ((tk m).set (0 + (p : Int).toNat * 1) true) = true := decide_eq_true (by unfold tk; simp only [Int.toNat_natCast, List.length_set, List.length_replicate]; omega)
    have e5 : gtB (p : Int) ((tk m).set (0 + (p : Int).toNat * 1) true) = true := by
      unfold gtB tk
      simp only [Int.toNat_natCast]
      rw [List.getD_eq_getElem?_getD, List.getElem?_set_self (by rw [List.length_replicate]; omega)]; rfl
    rw [bcT g3, bcF (b := decide _) (decide_eq_false (by simp; omega)), bcT e1, bcT e2, bcF e3, bcT e1, bcT e2, bcF (b := decide _) (decide_eq_false (by simp; omega)), bcT e1, bcT e4, bcT e5]
  · trivial
end Go.Proofs.Ytoekeplljjaehaa

/- Layer 26: which numbers are pieces'; what a crash lays: the rounds. -/
set_option linter.unusedVariables false
set_option linter.unusedSimpArgs false
namespace Go.Proofs.Ytoekeplljjaehaa
open Go Sx
noncomputable abbrev loopA1 : Code := (loopBodies (bodyOf Try.f32)).headD .skip
noncomputable abbrev loopC1 : Code := (loopBodies (bodyOf Try.f21)).headD .skip
def meK (l : List Int) (k t : List UInt8) (n m : Nat) (rows : List (List CV)) : List (Option PObj) :=
  [some (.raw (.cells [.slice 2 0 n n, .slice 3 0 n n, .vec 4 m] dT)), some (.vecI .i64 l 3), some (.arrB k 5), some (.arrB t 5), some (.vecR shP rows pT)]
def sAr (i : Int) (l : List Int) (k t : List UInt8) (n m len : Nat) (rows : List (List CV)) (tk : List Bool) : PState :=
  ⟨none :: none :: none :: none :: none :: some (.slice 5 0 m m) :: none :: none :: none :: none :: none :: none :: none :: none :: none :: some (.vec 1 len) :: some (.int .i64 len) :: some (.int .i64 i) :: List.replicate 19 none,
   meK l k t n m rows ++ some (.arrT tk 4) :: List.replicate 64 none⟩
def sArF (l : List Int) (k t : List UInt8) (n m : Nat) (rows : List (List CV)) : PState := ⟨none :: none :: none :: none :: some (.bool false) :: List.replicate 32 none, meK l k t n m rows ++ List.replicate 64 none⟩
def sArX (l : List Int) (k t : List UInt8) (n m : Nat) (rows : List (List CV)) : PState := ⟨List.replicate 37 none, meK l k t n m rows ++ List.replicate 64 none⟩
def sCr (i : Int) (l : List Int) (k t : List UInt8) (n m len : Nat) (rows : List (List CV)) : PState :=
  ⟨some (.ptr 0 0) :: none :: none :: none :: none :: none :: none :: none :: none :: none :: none :: none :: none :: none :: some (.vec 1 len) :: some (.int .i64 len) :: some (.int .i64 i) :: List.replicate 34 none, meK l k t n m rows ++ List.replicate 64 none⟩
def sCrX (l : List Int) (k t : List UInt8) (n m : Nat) (rows : List (List CV)) : PState := ⟨some (.ptr 0 0) :: List.replicate 50 none, meK l k t n m rows ++ List.replicate 64 none⟩
def xK (l : List Int) (i : Int) : Int := l.getD (i.toNat * 1) 0
def ixm (x : Int) (m : Nat) : Bool := decide (0 ≤ x ∧ x < (m : Int))
def lnL (i : Int) (l : List Int) : Bool := decide (i.toNat * 1 < l.length)
theorem rAr (i : Int) (l : List Int) (k t : List UInt8) (n m len : Nat) (rows : List (List CV)) (tk : List Bool) : code (ent Try.prog tNu nolv 64 1 20) Try.prog {} 5 64 1 loopA1 (sAr i l k t n m len rows tk) (endK 5 64 (fun n => hasN [5, 15, 16, 17] n) (fun n => hasN [4] n))
  = bcond (decide (i < (len : Int))) (chks (bcond (decide (nmI (xK l i) ≥ (m : Int))) (some (.ret, sArF l k t n m rows)) (chks (bcond (gtB (nmI (xK l i)) tk) (some (.ret, sArF l k t n m rows))
      (chks (some (.normal, sAr (iN i) l k t n m len rows (tk.set (0 + (nmI (xK l i)).toNat * 1) true))) [ixm (nmI (xK l i)) m, lnB (nmI (xK l i)) tk])) [ixm (nmI (xK l i)) m, lnB (nmI (xK l i)) tk])) [bF i len, lnL i l]) (some (.exit 0, sArX l k t n m rows)) := by kernel_rfl
def rK (rows : List (List CV)) (l : List Int) (i : Int) : List CV := Sx.rowAt rows (nmI (xK l i)).toNat
def oK (a : Int) (n : Nat) : Nat := if n = a.toNat then 0 else 0 + a.toNat * 1
def layC (a : Int) (s k : List UInt8) (n : Nat) : List Bool := [decide (0 ≤ a) && true && true && decide (a.toNat ≤ n ∧ n ≤ n ∧ n ≤ n), decide (s.length ≤ n - a.toNat ∧ oK a n + s.length ≤ k.length)]
def layT (a : Int) (s k : List UInt8) (n : Nat) : List UInt8 := List.take (oK a n) k ++ s ++ List.drop (oK a n + s.length) k
def hfI (s : List UInt8) : Int := IntKind.i64.wrap (((s.length : Int)).tdiv 2)
theorem rCr (i : Int) (l : List Int) (k t : List UInt8) (n m len : Nat) (rows : List (List CV)) : code (ent Try.prog tNu nolv 64 1 20) Try.prog {} 5 64 1 loopC1 (sCr i l k t n m len rows) (endK 5 64 (fun n => hasN [0, 14, 15, 16] n) (fun n => hasN [0] n))
  = bcond (decide (i < (len : Int))) (chks (bcond (decide (xK l i < 0))
      (chks (some (.normal, sCr (iN i) l (layT (rowCV (rK rows l i) 0).n (loS (hfI (rowCV (rK rows l i) 1).s) (rowCV (rK rows l i) 1).s) k n) t n m len rows)) (slB (hfI (rowCV (rK rows l i) 1).s) (rowCV (rK rows l i) 1).s :: layC (rowCV (rK rows l i) 0).n (loS (hfI (rowCV (rK rows l i) 1).s) (rowCV (rK rows l i) 1).s) k n))
      (chks (some (.normal, sCr (iN i) l (layT (rowCV (rK rows l i) 0).n (rowCV (rK rows l i) 1).s k n) t n m len rows)) (layC (rowCV (rK rows l i) 0).n (rowCV (rK rows l i) 1).s k n)))
      [bF i len, lnL i l, ixm (nmI (xK l i)) m, decide ((nmI (xK l i)).toNat < rows.length) && true && true]) (some (.exit 0, sCrX l k t n m rows)) := by kernel_rfl
end Go.Proofs.Ytoekeplljjaehaa

/- Layer 26: which numbers are pieces'; what a crash lays: all rounds. -/
set_option linter.unusedVariables false
set_option linter.unusedSimpArgs false
namespace Go.Proofs.Ytoekeplljjaehaa
open Go Sx
/-- Numbers of pieces, none of them twice. -/
def okK (m : Nat) : List Bool → List Int → Bool
  | _, [] => true
  | tk, x :: xs => ixm (nmI x) m && (!(gtB (nmI x) tk) && okK m (tk.set (0 + (nmI x).toNat * 1) true) xs)
theorem okK_in {m : Nat} : ∀ {tk : List Bool} {l : List Int}, okK m tk l = true → ∀ x ∈ l, ixm (nmI x) m = true
  | _, [], _, x, hx => by cases hx
  | tk, y :: ys, h, x, hx => by
    simp only [okK, Bool.and_eq_true] at h
    rcases List.mem_cons.1 hx with rfl | hx
    · exact h.1
    · exact okK_in h.2.2 x hx
theorem getD_drop {l : List Int} {j : Nat} (h : j < l.length) : l.drop j = l.getD j 0 :: l.drop (j + 1) := by
  rw [List.drop_eq_getElem_cons h, List.getD_eq_getElem?_getD, List.getElem?_eq_getElem h]; rfl
theorem iN_nat {j : Nat} (h : j < 1099511627776) : iN (j : Int) = ((j + 1 : Nat) : Int) := by unfold iN; rw [i64_in (by omega) (by omega)]; rfl
theorem xK_nat (l : List Int) (j : Nat) : xK l (j : Int) = l.getD j 0 := by unfold xK; rw [Int.toNat_natCast, Nat.mul_one]
theorem loopAr {l : List Int} {k t : List UInt8} {n m : Nat} {rows : List (List CV)} (hl : l.length ≤ 1099511627776) (j : Nat) (tk : List Bool) (h : j ≤ l.length ∧ tk.length = m ∧ okK m tk (l.drop j) = true) :
    Tri Try.prog (.loop loopA1) (sAr j l k t n m l.length rows tk).toA (.exit 0) (sArX l k t n m rows).toA 5 := by
  refine loop_rounds (ent_sound (T := tNu) tNu_ok host nolv_ok (NF := 64) (m := 1) 20) (NF := 64) (m := 1) loops_none (fun n => hasN [5, 15, 16, 17] n) (fun n => hasN [4] n) (ι := { w : Nat × List Bool // w.1 ≤ l.length ∧ w.2.length = m ∧ okK m w.2 (l.drop w.1) = true })
    (fun w => sAr (w.1.1 : Int) l k t n m l.length rows w.1.2) (fun w => l.length - w.1.1) (fun _ => (.exit 0, sArX l k t n m rows)) ?_ (fun _ => by simp) ⟨(j, tk), h⟩
  rintro ⟨⟨j, tk⟩, h1, h2, h3⟩
  simp only at h1 h2 h3
  by_cases hj : j < l.length
  · left
    rw [getD_drop hj] at h3
    simp only [okK, Bool.and_eq_true] at h3
    obtain ⟨g1, g2, g3⟩ := h3
    refine ⟨⟨(j + 1, tk.set (0 + (nmI (l.getD j 0)).toNat * 1) true), by simp only; omega, by simp only [List.length_set]; exact h2, g3⟩, by simp only; omega, rfl, ?_⟩
    refine (rAr j l k t n m l.length rows tk).trans ?_
    have g1' := of_decide_eq_true g1
    have e1 : bF (j : Int) l.length = true := decide_eq_true (by omega)
    have e2 : lnL (j : Int) l = true := decide_eq_true (by simp only [Int.toNat_natCast]; omega)
    have e3 : lnB (nmI (l.getD j 0)) tk = true := decide_eq_true (by omega)
    have e4 : gtB (nmI (l.getD j 0)) tk = false := (Bool.not_eq_true' _).mp g2
    rw [xK_nat, iN_nat (by omega)]
    rw [bcT (b := decide ((j : Int) < _)) (decide_eq_true (by omega)), chks_true (all2 e1 e2), bcF (b := decide _) (decide_eq_false (by omega)), chks_true (all2 g1 e3), bcF e4, chks_true (all2 g1 e3)]
  · right
    refine (rAr j l k t n m l.length rows tk).trans ?_
    rw [bcF (b := decide ((j : Int) < _)) (decide_eq_false (by omega))]
where
  all2 {a b : Bool} (ha : a = true) (hb : b = true) : ∀ x ∈ [a, b], x = true := fun x hx => by
    simp only [List.mem_cons, List.not_mem_nil, or_false] at hx
    rcases hx with rfl | rfl
    · exact ha
    · exact hb
/-- A number's piece, or half of it, laid over bytes. -/
def layX (rows : List (List CV)) (x : Int) (k : List UInt8) : List UInt8 :=
  splice (rowCV (Sx.rowAt rows (nmI x).toNat) 0).n.toNat (if x < 0 then (rowCV (Sx.rowAt rows (nmI x).toNat) 1).s.take ((rowCV (Sx.rowAt rows (nmI x).toNat) 1).s.length / 2) else (rowCV (Sx.rowAt rows (nmI x).toNat) 1).s) k
def layAll (rows : List (List CV)) : List Int → List UInt8 → List UInt8
  | [], k => k
  | x :: xs, k => layAll rows xs (layX rows x k)
/-- Rows whose bytes lie within so many. -/
def rowsB (n : Nat) (rows : List (List CV)) : Bool := rows.all fun r => decide (0 ≤ (rowCV r 0).n) && decide ((rowCV r 0).n.toNat + (rowCV r 1).s.length ≤ n)
theorem rowsB_at {n : Nat} {rows : List (List CV)} (h : rowsB n rows = true) {j : Nat} (hj : j < rows.length) : 0 ≤ (rowCV (Sx.rowAt rows j) 0).n ∧ (rowCV (Sx.rowAt rows j) 0).n.toNat + (rowCV (Sx.rowAt rows j) 1).s.length ≤ n := by
  have e : Sx.rowAt rows j = rows[j] := by unfold Sx.rowAt; rw [List.getD_eq_getElem?_getD, List.getElem?_eq_getElem hj]; rfl
  rw [e]
  have := List.all_eq_true.1 h _ (List.getElem_mem hj)
  simp only [Bool.and_eq_true] at this
  exact ⟨of_decide_eq_true this.1, of_decide_eq_true this.2⟩
theorem lay_nat {a : Int} {s k : List UInt8} {n : Nat} (h0 : 0 ≤ a) (h : a.toNat + s.length ≤ n) (hk : k.length = n) : layT a s k n = splice a.toNat s k ∧ ∀ b ∈ layC a s k n, b = true := by
  have ho : oK a n = a.toNat ∨ (n = a.toNat ∧ s = [] ∧ oK a n = 0) := by
    unfold oK
    by_cases e : n = a.toNat
    · rw [if_pos e]; exact .inr ⟨e, List.eq_nil_of_length_eq_zero (by omega), rfl⟩
    · rw [if_neg e]; left; omega
  refine ⟨?_, fun b hb => ?_⟩
  · rcases ho with e | ⟨e1, rfl, e2⟩
    · unfold layT splice; rw [e]
    · unfold layT; rw [e2, splice_nil (by omega)]; simp
  · unfold layC at hb
    simp only [List.mem_cons, List.not_mem_nil, or_false] at hb
    rcases hb with rfl | rfl
    · rw [decide_eq_true h0, decide_eq_true (show a.toNat ≤ n ∧ n ≤ n ∧ n ≤ n by omega)]; rfl
    · refine decide_eq_true ?_
      rcases ho with e | ⟨e1, rfl, e2⟩
      · rw [e]; omega
      · rw [e2]; simp
theorem hfI_nat {s : List UInt8} (h : s.length ≤ 1099511627776) : hfI s = ((s.length / 2 : Nat) : Int) := by
  unfold hfI
  rw [show ((s.length : Int)).tdiv 2 = ((s.length / 2 : Nat) : Int) by rfl, i64_in (by omega) (by omega)]
theorem layX_len {n : Nat} {rows : List (List CV)} (hr : rowsB n rows = true) {x : Int} {k : List UInt8} (hx : ixm (nmI x) rows.length = true) (hk : k.length = n) : (layX rows x k).length = n := by
  have hx := of_decide_eq_true hx
  obtain ⟨h1, h2⟩ := rowsB_at hr (j := (nmI x).toNat) (by omega)
  unfold layX
  rw [splice_len]
  · exact hk
  · split
    · rw [List.length_take]; omega
    · omega
theorem layAll_len {n : Nat} {rows : List (List CV)} (hr : rowsB n rows = true) : ∀ {l : List Int} {k : List UInt8}, (∀ x ∈ l, ixm (nmI x) rows.length = true) → k.length = n → (layAll rows l k).length = n
  | [], k, _, hk => hk
  | x :: xs, k, h, hk => layAll_len (l := xs) (k := layX rows x k) hr (fun y hy => h y (List.mem_cons_of_mem _ hy)) (layX_len hr (h x (List.mem_cons_self ..)) hk)
theorem loopCr {l : List Int} {t : List UInt8} {n m : Nat} {rows : List (List CV)} (hl : l.length ≤ 1099511627776) (hn : n ≤ 1099511627776) (hm : rows.length = m) (hr : rowsB n rows = true) (hx : ∀ x ∈ l, ixm (nmI x) m = true) (j : Nat) (k : List UInt8) (h : j ≤ l.length ∧ k.length = n) :
    Tri Try.prog (.loop loopC1) (sCr j l k t n m l.length rows).toA (.exit 0) (sCrX l (layAll rows (l.drop j) k) t n m rows).toA 5 := by
  refine loop_rounds (ent_sound (T := tNu) tNu_ok host nolv_ok (NF := 64) (m := 1) 20) (NF := 64) (m := 1) loops_none (fun n => hasN [0, 14, 15, 16] n) (fun n => hasN [0] n) (ι := { w : Nat × List UInt8 // w.1 ≤ l.length ∧ w.2.length = n })
    (fun w => sCr (w.1.1 : Int) l w.1.2 t n m l.length rows) (fun w => l.length - w.1.1) (fun w => (.exit 0, sCrX l (layAll rows (l.drop w.1.1) w.1.2) t n m rows)) ?_ (fun _ => by simp) ⟨(j, k), h⟩
  rintro ⟨⟨j, k⟩, h1, h2⟩
  simp only at h1 h2
  by_cases hj : j < l.length
  · left
    have hxj := hx (l.getD j 0) (by rw [List.getD_eq_getElem?_getD, List.getElem?_eq_getElem hj]; exact List.getElem_mem hj)
    have hxj' := of_decide_eq_true hxj
    have hin : (nmI (l.getD j 0)).toNat < rows.length := by omega
    obtain ⟨p1, p2⟩ := rowsB_at hr hin
    refine ⟨⟨(j + 1, layX rows (l.getD j 0) k), by simp only; omega, layX_len hr (by rw [hm]; exact hxj) h2⟩, by simp only; omega, ?_, ?_⟩
    · simp only
      rw [getD_drop hj]; rfl
    · refine (rCr j l k t n m l.length rows).trans ?_
      have e1 : bF (j : Int) l.length = true := decide_eq_true (by omega)
      have e2 : lnL (j : Int) l = true := decide_eq_true (by simp only [Int.toNat_natCast]; omega)
      have e3 : (decide ((nmI (l.getD j 0)).toNat < rows.length) && true && true) = true := by rw [decide_eq_true hin]; rfl
      unfold rK
      rw [xK_nat, iN_nat (by omega)]
      rw [bcT (b := decide ((j : Int) < _)) (decide_eq_true (by omega)), chks_true (by
        intro b hb
        simp only [List.mem_cons, List.not_mem_nil, or_false] at hb
        rcases hb with rfl | rfl | rfl | rfl
        · exact e1
        · exact e2
        · exact hxj
        · exact e3)]
      generalize hrow : Sx.rowAt rows (nmI (l.getD j 0)).toNat = r at p1 p2
      have hlx : layX rows (l.getD j 0) k = splice (rowCV r 0).n.toNat (if l.getD j 0 < 0 then (rowCV r 1).s.take ((rowCV r 1).s.length / 2) else (rowCV r 1).s) k := by unfold layX; rw [hrow]
      show _ = some (Ex.normal, sCr ((j + 1 : Nat) : Int) l (layX rows (l.getD j 0) k) t n m l.length rows)
      rw [hlx]
      by_cases hneg : l.getD j 0 < 0
      · rw [bcT (b := decide _) (decide_eq_true hneg), if_pos hneg, hfI_nat (by omega)]
        have es : loS (((rowCV r 1).s.length / 2 : Nat) : Int) (rowCV r 1).s = (rowCV r 1).s.take ((rowCV r 1).s.length / 2) := rfl
        rw [es]
        obtain ⟨q1, q2⟩ := lay_nat (s := (rowCV r 1).s.take ((rowCV r 1).s.length / 2)) p1 (by rw [List.length_take]; omega) h2
        rw [chks_true (by
          intro b hb
          rcases List.mem_cons.1 hb with rfl | hb
          · exact decide_eq_true ⟨by omega, by simp only [Int.toNat_natCast]; omega⟩
          · exact q2 b hb), q1]
      · rw [bcF (b := decide _) (decide_eq_false hneg), if_neg hneg]
        obtain ⟨q1, q2⟩ := lay_nat p1 p2 h2
        rw [chks_true q2, q1]
  · right
    have hd : l.drop j = [] := List.drop_of_length_le (by omega)
    simp only [hd, layAll]
    refine (rCr j l k t n m l.length rows).trans ?_
    rw [bcF (b := decide ((j : Int) < _)) (decide_eq_false (by omega))]
end Go.Proofs.Ytoekeplljjaehaa

/- Layer 26: which pieces are kept, out of raw numbers: the rounds. -/
set_option linter.unusedVariables false
set_option linter.unusedSimpArgs false
namespace Go.Proofs.Ytoekeplljjaehaa
open Go Sx
noncomputable abbrev loopK1 : Code := (loopBodies (bodyOf Try.f22)).headD .skip
def tPk : Tab := [(23, ePick)]
theorem tPk_ok : TabOK Try.prog tPk := .cons ePick_ok .nil
def slK (len m : Nat) (p q : AV) (i : Int) : List (Option AV) := some (.dsl 0 len) :: some (.int .i64 m) :: none :: none :: none :: some p :: some q :: some (.int .i64 i) :: List.replicate 48 none
def slKx (p : AV) : List (Option AV) := none :: none :: none :: none :: none :: some p :: List.replicate 50 none
def sKN (l : List Int) (len m : Nat) (tk : List Bool) (i : Int) : PState := ⟨slK len m .nilslice (.slice 1 0 m m) i, some (.flatI false l) :: some (.arrT tk 4) :: List.replicate 64 none⟩
def sKV (l : List Int) (len m : Nat) (tk : List Bool) (out : List Int) (ol : Nat) (i : Int) : PState := ⟨slK len m (.vec 1 ol) (.slice 2 0 m m) i, some (.flatI false l) :: some (.vecI .i64 out 3) :: some (.arrT tk 4) :: List.replicate 64 none⟩
def sKNx (l : List Int) : PState := ⟨slKx .nilslice, some (.flatI false l) :: List.replicate 64 none⟩
def sKVx (l out : List Int) (ol : Nat) : PState := ⟨slKx (.vec 1 ol), some (.flatI false l) :: some (.vecI .i64 out 3) :: List.replicate 64 none⟩
def kI (x : Int) (m : Nat) : Int := pkI x (IntKind.i64.wrap (2 * (m : Int)))
def hI (x : Int) (m : Nat) : Int := IntKind.i64.wrap ((kI x m).tdiv 2)
def hN (x : Int) (m : Nat) : Int := IntKind.i64.wrap (-1 - hI x m)
def roundK {α : Type} (l : List Int) (len m : Nat) (tk : List Bool) (i : Int) (c : List Bool) (x y z u : Option α) : Option α :=
  bcond (decide (i < (len : Int))) (bcond (decide (i < 20)) (bcond (decide ((m : Int) > 0)) (chks (bcond (gtB (hI (xK l i) m) tk) y (chks (bcond ((kI (xK l i) m).tmod 2 == 1) (chks z c) (chks u c)) [ixm (hI (xK l i) m) m, lnB (hI (xK l i) m) tk]))
    [bF i len, lnL i l, i64B (xK l i), posB (IntKind.i64.wrap (2 * (m : Int))), ixm (hI (xK l i) m) m, lnB (hI (xK l i) m) tk]) x) x) x
def tkS (tk : List Bool) (h : Int) : List Bool := tk.set (0 + h.toNat * 1) true
theorem rKN (l : List Int) (len m : Nat) (tk : List Bool) (i : Int) : code (ent Try.prog tPk nolv 64 1 20) Try.prog {} 1 64 1 loopK1 (sKN l len m tk i) (endK 1 64 (fun n => hasN [0, 1, 5, 6, 7] n) (fun n => hasN [5] n))
  = roundK l len m tk i [] (some (.exit 0, sKNx l)) (some (.normal, sKN l len m tk (iN i))) (some (.normal, sKV l len m (tkS tk (hI (xK l i) m)) [hN (xK l i) m] 1 (iN i))) (some (.normal, sKV l len m (tkS tk (hI (xK l i) m)) [hI (xK l i) m] 1 (iN i))) := by kernel_rfl
theorem rKV (l : List Int) (len m : Nat) (tk : List Bool) (out : List Int) (ol : Nat) (i : Int) : code (ent Try.prog tPk nolv 64 1 20) Try.prog {} 1 64 1 loopK1 (sKV l len m tk out ol i) (endK 1 64 (fun n => hasN [0, 1, 5, 6, 7] n) (fun n => hasN [5] n))
  = roundK l len m tk i [decide (out.length = ol * 1) && roomB (ol + 1) 8] (some (.exit 0, sKVx l out ol)) (some (.normal, sKV l len m tk out ol (iN i))) (some (.normal, sKV l len m (tkS tk (hI (xK l i) m)) (out ++ [hN (xK l i) m]) (ol + 1) (iN i))) (some (.normal, sKV l len m (tkS tk (hI (xK l i) m)) (out ++ [hI (xK l i) m]) (ol + 1) (iN i))) := by kernel_rfl

/-- What is kept. -/
def keepL (m : Nat) : List Bool → List Int → List Int
  | _, [] => []
  | tk, x :: xs => if gtB ((pk x (2 * m) / 2 : Nat) : Int) tk then keepL m tk xs else (if pk x (2 * m) % 2 = 1 then -1 - ((pk x (2 * m) / 2 : Nat) : Int) else ((pk x (2 * m) / 2 : Nat) : Int)) :: keepL m (tkS tk ((pk x (2 * m) / 2 : Nat) : Int)) xs
theorem nm_kept {c : Int} {h : Nat} (hh : h < 1099511627776) (e : c = -1 - (h : Int) ∨ c = (h : Int)) : nmI c = (h : Int) := by
  unfold nmI
  rcases e with rfl | rfl
  · rw [if_pos (by omega), i64_in (by omega) (by omega)]; omega
  · rw [if_neg (by omega)]
theorem keepL_ok {m : Nat} (h0 : 0 < m) (hm : m ≤ 1099511627776) : ∀ (l : List Int) (tk : List Bool), okK m tk (keepL m tk l) = true
  | [], _ => rfl
  | x :: xs, tk => by
    have hk := pk_lt (c := x) (n := 2 * m) (by omega)
    have hh : pk x (2 * m) / 2 < m := by omega
    generalize hp : pk x (2 * m) / 2 = h at hh
    simp only [keepL, hp]
    cases hg : gtB (h : Int) tk with
    | true => exact keepL_ok h0 hm xs tk
    | false =>
      simp only [Bool.false_eq_true, if_false, okK, Bool.and_eq_true]
      have hn : nmI (if pk x (2 * m) % 2 = 1 then -1 - (h : Int) else (h : Int)) = (h : Int) := nm_kept (by omega) (by split <;> simp)
      rw [hn, hg]
      exact ⟨decide_eq_true (by omega), rfl, keepL_ok h0 hm xs _⟩
def keepX (l : List Int) (len m : Nat) (tk : List Bool) (i : Int) : List Int → PState
  | [] => sKN l len m tk i
  | c :: out => sKV l len m tk (c :: out) (c :: out).length i
def keepXx (l : List Int) : List Int → PState
  | [] => sKNx l
  | c :: out => sKVx l (c :: out) (c :: out).length
theorem loopK {l : List Int} {len m : Nat} (hl : l.length = len) (h0 : 0 < m) (hm : m ≤ 1099511627776) (hr : ∀ x ∈ l, i64B x = true) (j : Nat) (tk : List Bool) (out : List Int) (h : j ≤ min len 20 ∧ tk.length = m ∧ out.length ≤ j) :
    Tri Try.prog (.loop loopK1) (keepX l len m tk j out).toA (.exit 0) (keepXx l (out ++ keepL m tk ((l.take 20).drop j))).toA 1 := by
  refine loop_rounds (ent_sound (T := tPk) tPk_ok host nolv_ok (NF := 64) (m := 1) 20) (NF := 64) (m := 1) loops_none (fun n => hasN [0, 1, 5, 6, 7] n) (fun n => hasN [5] n) (ι := { w : Nat × List Bool × List Int // w.1 ≤ min len 20 ∧ w.2.1.length = m ∧ w.2.2.length ≤ w.1 })
    (fun w => keepX l len m w.1.2.1 (w.1.1 : Int) w.1.2.2) (fun w => 20 - w.1.1) (fun w => (.exit 0, keepXx l (w.1.2.2 ++ keepL m w.1.2.1 ((l.take 20).drop w.1.1)))) ?_ (fun _ => by simp) ⟨(j, tk, out), h⟩
  rintro ⟨⟨j, tk, out⟩, h1, h2, h3⟩
  simp only at h1 h2 h3
  by_cases hj : j < min len 20
  · left
    have hj1 : j < l.length := by omega
    have hxe : xK l (j : Int) = l[j] := by rw [xK_nat, List.getD_eq_getElem?_getD, List.getElem?_eq_getElem hj1]; rfl
    have hx := hr l[j] (List.getElem_mem hj1)
    have hdrop : (l.take 20).drop j = l[j] :: (l.take 20).drop (j + 1) := by
      rw [List.drop_eq_getElem_cons (by rw [List.length_take]; omega)]; congr 1; rw [List.getElem_take]
    have hw : IntKind.i64.wrap (2 * (m : Int)) = ((2 * m : Nat) : Int) := by rw [i64_in (by omega) (by omega)]; omega
    have hk := pk_lt (c := l[j]) (n := 2 * m) (by omega)
    have ek : kI l[j] m = (pk l[j] (2 * m) : Nat) := by unfold kI; rw [hw]; exact pkI_nat (n := 2 * m) hx
    have eh : hI l[j] m = ((pk l[j] (2 * m) / 2 : Nat) : Int) := by
      unfold hI; rw [ek, show ((pk l[j] (2 * m) : Nat) : Int).tdiv 2 = ((pk l[j] (2 * m) / 2 : Nat) : Int) by rfl, i64_in (by omega) (by omega)]
    have en : hN l[j] m = -1 - ((pk l[j] (2 * m) / 2 : Nat) : Int) := by unfold hN; rw [eh, i64_in (by omega) (by omega)]
    have em : ((kI l[j] m).tmod 2 == 1) = decide (pk l[j] (2 * m) % 2 = 1) := by
      rw [ek, show ((pk l[j] (2 * m) : Nat) : Int).tmod 2 = ((pk l[j] (2 * m) % 2 : Nat) : Int) by rfl]
      by_cases e : pk l[j] (2 * m) % 2 = 1
      · rw [e]; rfl
      · rw [decide_eq_false e, beq_eq_false_iff_ne]; omega
    have hh : pk l[j] (2 * m) / 2 < m := by omega
    have hin : ixm ((pk l[j] (2 * m) / 2 : Nat) : Int) m = true := decide_eq_true (by omega)
    have hln : lnB ((pk l[j] (2 * m) / 2 : Nat) : Int) tk = true := decide_eq_true (by simp only [Int.toNat_natCast]; omega)
    have rK : ∀ {α : Type} (c : List Bool) (x y z u : Option α), (∀ b ∈ c, b = true) → roundK l len m tk (j : Int) c x y z u = bcond (gtB ((pk l[j] (2 * m) / 2 : Nat) : Int) tk) y (bcond (decide (pk l[j] (2 * m) % 2 = 1)) z u) := by
      intro α c x y z u hc
      unfold roundK
      rw [hxe, eh, em, bcT (b := decide ((j : Int) < _)) (decide_eq_true (by omega)), bcT (b := decide ((j : Int) < _)) (decide_eq_true (by omega)), bcT (b := decide _) (decide_eq_true (by omega)), chks_true (bs := [_, _, _, _, _, _]) (by
        intro b hb
        simp only [List.mem_cons, List.not_mem_nil, or_false] at hb
        rcases hb with rfl | rfl | rfl | rfl | rfl | rfl
        · exact decide_eq_true (by omega)
        · exact decide_eq_true (by simp only [Int.toNat_natCast]; omega)
        · exact hx
        · rw [hw]; exact posB_to (by omega)
        · exact hin
        · exact hln), chks_true (bs := [_, _]) (by
        intro b hb
        simp only [List.mem_cons, List.not_mem_nil, or_false] at hb
        rcases hb with rfl | rfl
        · exact hin
        · exact hln), chks_true hc, chks_true hc]
    generalize hp : pk l[j] (2 * m) = q at hk eh en em hh hin hln rK
    have hkl : keepL m tk ((l.take 20).drop j) = if gtB ((q / 2 : Nat) : Int) tk then keepL m tk ((l.take 20).drop (j + 1)) else (if q % 2 = 1 then -1 - ((q / 2 : Nat) : Int) else ((q / 2 : Nat) : Int)) :: keepL m (tkS tk ((q / 2 : Nat) : Int)) ((l.take 20).drop (j + 1)) := by
      rw [hdrop]; simp only [keepL, hp]
    have hi := iN_nat (j := j) (by omega)
    cases hg : gtB ((q / 2 : Nat) : Int) tk with
    | true =>
      refine ⟨⟨(j + 1, tk, out), by simp only; omega, h2, by simp only; omega⟩, by simp only; omega, ?_, ?_⟩
      · simp only; rw [hkl, hg, if_pos rfl]
      · cases out with
        | nil => refine (rKN l len m tk (j : Int)).trans ?_; rw [rK [] _ _ _ _ (by simp), hg, bcT rfl, hi]; rfl
        | cons c out =>
          refine (rKV l len m tk (c :: out) (c :: out).length (j : Int)).trans ?_
          rw [rK [_] _ _ _ _ (all1 h1 h3), hg, bcT rfl, hi]; rfl
    | false =>
      refine ⟨⟨(j + 1, tkS tk ((q / 2 : Nat) : Int), out ++ [if q % 2 = 1 then -1 - ((q / 2 : Nat) : Int) else ((q / 2 : Nat) : Int)]), by simp only; omega, by simp only [tkS, List.length_set]; exact h2, by simp only [List.length_append, List.length_singleton]; omega⟩, by simp only; omega, ?_, ?_⟩
      · simp only; rw [hkl, hg, if_neg (show ¬ (false = true) by simp), List.append_assoc]; rfl
      · cases out with
        | nil =>
          refine (rKN l len m tk (j : Int)).trans ?_
          rw [rK [] _ _ _ _ (by simp), hg, bcF rfl, hi, hxe, eh, en]
          by_cases e : q % 2 = 1
          · rw [decide_eq_true e, if_pos e]; rfl
          · rw [decide_eq_false e, if_neg e]; rfl
        | cons c out =>
          refine (rKV l len m tk (c :: out) (c :: out).length (j : Int)).trans ?_
          rw [rK [_] _ _ _ _ (all1 h1 h3), hg, bcF rfl, hi, hxe, eh, en]
          by_cases e : q % 2 = 1
          · rw [decide_eq_true e, if_pos e]; simp [keepX, bcond]
          · rw [decide_eq_false e, if_neg e]; simp [keepX, bcond]
  · right
    have hd : (l.take 20).drop j = [] := List.drop_of_length_le (by rw [List.length_take]; omega)
    simp only [hd, keepL, List.append_nil]
    have hx : ∀ {α : Type} (c : List Bool) (x y z u : Option α), roundK l len m tk (j : Int) c x y z u = x := by
      intro α c x y z u
      unfold roundK
      by_cases h4 : j < len
      · rw [bcT (b := decide _) (decide_eq_true (by omega)), bcF (b := decide _) (decide_eq_false (by omega))]
      · rw [bcF (b := decide _) (decide_eq_false (by omega))]
    cases out with
    | nil => exact (rKN l len m tk (j : Int)).trans (hx _ _ _ _ _)
    | cons c out => exact (rKV l len m tk (c :: out) (c :: out).length (j : Int)).trans (hx _ _ _ _ _)
where
  all1 {c : Int} {out : List Int} {j len : Nat} (h1 : j ≤ min len 20) (h3 : (c :: out).length ≤ j) : ∀ b ∈ [decide ((c :: out).length = (c :: out).length * 1) && roomB ((c :: out).length + 1) 8], b = true := by
    intro b hb
    rw [List.mem_singleton.1 hb, decide_eq_true (by omega), Bool.true_and]
    exact decide_eq_true (by omega)
end Go.Proofs.Ytoekeplljjaehaa

/- Layer 26: a crash, told. -/
set_option linter.unusedVariables false
set_option linter.unusedSimpArgs false
namespace Go.Proofs.Ytoekeplljjaehaa
open Go Sx
def litK (x3 y3 x4 y4 v d c1 c2 c3 ty : Nat) (sh : List CK) : Bool := Nat.beq x3 2 && (Nat.beq y3 0 && (Nat.beq x4 3 && (Nat.beq y4 0 && (Nat.beq v 4 && (Nat.beq d dT && (Nat.beq c1 3 && (Nat.beq c2 5 && (Nat.beq c3 5 && (Nat.beq ty pT && eqC sh)))))))))
theorem litK_eq {x3 y3 x4 y4 v d c1 c2 c3 ty : Nat} {sh : List CK} (h : litK x3 y3 x4 y4 v d c1 c2 c3 ty sh = true) : x3 = 2 ∧ y3 = 0 ∧ x4 = 3 ∧ y4 = 0 ∧ v = 4 ∧ d = dT ∧ c1 = 3 ∧ c2 = 5 ∧ c3 = 5 ∧ ty = pT ∧ sh = shP := by
  unfold litK at h
  simp only [Bool.and_eq_true, beqT] at h
  obtain ⟨h1, h2, h3, h4, h5, h6, h7, h8, h9, h10, h11⟩ := h
  exact ⟨h1, h2, h3, h4, h5, h6, h7, h8, h9, h10, eqC_eq h11⟩
def c1K (i li : Int) (l : List Int) (len n n1 n2 n3 a b m : Nat) (tk : List Bool) : Bool := decide (i = 0 ∧ li = (len : Int) ∧ l.length = len ∧ len ≤ 1099511627776 ∧ n1 = n ∧ n2 = n ∧ n3 = n ∧ a = m ∧ b = m ∧ tk.length = m)
def c2K (i li : Int) (l : List Int) (len n n1 n2 n3 m : Nat) (k : List UInt8) (rows : List (List CV)) : Bool := decide (i = 0 ∧ li = (len : Int) ∧ l.length = len ∧ len ≤ 1099511627776 ∧ n1 = n ∧ n2 = n ∧ n3 = n ∧ rows.length = m ∧ k.length = n ∧ n ≤ 1099511627776)
def inK (m : Nat) (l : List Int) : Bool := l.all fun x => ixm (nmI x) m
def eArL : Nat → PState → LAns := fun K st => match K, st with
  | 5, ⟨none :: none :: none :: none :: none :: some (.slice x1 y1 a b) :: none :: none :: none :: none :: none :: none :: none :: none :: none :: some (.vec x2 len) :: some (.int .i64 li) :: some (.int .i64 i) :: rs, some (.raw (.cells [.slice x3 y3 n n1, .slice x4 y4 n2 n3, .vec v m] d)) :: some (.vecI .i64 l c1) :: some (.arrB k c2) :: some (.arrB t c3) :: some (.vecR sh rows ty) :: some (.arrT tk c4) :: rm⟩ =>
    .chk (litK x3 y3 x4 y4 v d c1 c2 c3 ty sh) (.chk (Nat.beq x1 5 && (Nat.beq y1 0 && (Nat.beq x2 1 && (Nat.beq c4 4 && (noV 19 rs && noB 64 rm))))) (.chk (c1K i li l len n n1 n2 n3 a b m tk) (.chk (okK m tk l) (.out (.exit 0) (sArX l k t n m rows)))))
  | _, _ => .fail
def eCrL : Nat → PState → LAns := fun K st => match K, st with
  | 5, ⟨some (.ptr x1 y1) :: none :: none :: none :: none :: none :: none :: none :: none :: none :: none :: none :: none :: none :: some (.vec x2 len) :: some (.int .i64 li) :: some (.int .i64 i) :: rs, some (.raw (.cells [.slice x3 y3 n n1, .slice x4 y4 n2 n3, .vec v m] d)) :: some (.vecI .i64 l c1) :: some (.arrB k c2) :: some (.arrB t c3) :: some (.vecR sh rows ty) :: rm⟩ =>
    .chk (litK x3 y3 x4 y4 v d c1 c2 c3 ty sh) (.chk (Nat.beq x1 0 && (Nat.beq y1 0 && (Nat.beq x2 1 && (noV 34 rs && noB 64 rm)))) (.chk (c2K i li l len n n1 n2 n3 m k rows) (.chk (rowsB n rows) (.chk (inK m l) (.out (.exit 0) (sCrX l (layAll rows l k) t n m rows))))))
  | _, _ => .fail
theorem eArL_ok (K : Nat) (st : PState) : LAnsOK Try.prog loopA1 K st (eArL K st) := by
  unfold eArL
  split
  · refine ⟨fun g1 => ⟨fun g2 => ⟨fun g3 => ⟨fun g4 => ?_, fun _ => trivial⟩, fun _ => trivial⟩, fun _ => trivial⟩, fun _ => trivial⟩
    obtain ⟨rfl, rfl, rfl, rfl, rfl, rfl, rfl, rfl, rfl, rfl, rfl⟩ := litK_eq g1
    simp only [Bool.and_eq_true, beqT] at g2
    obtain ⟨rfl, rfl, rfl, rfl, q1, q2⟩ := g2
    rw [noV_eq _ _ q1, noB_eq _ _ q2]
    obtain ⟨rfl, rfl, rfl, h1, rfl, rfl, rfl, rfl, rfl, h2⟩ := of_decide_eq_true g3
    exact loopAr h1 0 _ ⟨Nat.zero_le _, h2, g4⟩
  · trivial
theorem eCrL_ok (K : Nat) (st : PState) : LAnsOK Try.prog loopC1 K st (eCrL K st) := by
  unfold eCrL
  split
  · refine ⟨fun g1 => ⟨fun g2 => ⟨fun g3 => ⟨fun g4 => ⟨fun g5 => ?_, fun _ => trivial⟩, fun _ => trivial⟩, fun _ => trivial⟩, fun _ => trivial⟩, fun _ => trivial⟩
    obtain ⟨rfl, rfl, rfl, rfl, rfl, rfl, rfl, rfl, rfl, rfl, rfl⟩ := litK_eq g1
    simp only [Bool.and_eq_true, beqT] at g2
    obtain ⟨rfl, rfl, rfl, q1, q2⟩ := g2
    rw [noV_eq _ _ q1, noB_eq _ _ q2]
    obtain ⟨rfl, rfl, rfl, h1, rfl, rfl, rfl, h2, h3, h4⟩ := of_decide_eq_true g3
    exact loopCr h1 h4 h2 g4 (fun x hx => List.all_eq_true.1 g5 x hx) 0 _ ⟨Nat.zero_le _, h3⟩
  · trivial
def lvC : FuncId → Lv := fun f => match f with
  | 32 => { keep := fun _ => some [5, 15, 16, 17], ent := fun i => match i with | 3 => some eArL | _ => none }
  | 21 => { keep := fun _ => some [0, 14, 15, 16], ent := fun i => match i with | 6 => some eCrL | _ => none }
  | _ => {}
theorem lvC_ok : LvOK Try.prog lvC := by
  intro f fn body hf hb K x hx id e hid he t
  by_cases h : f = 32
  · subst h
    obtain rfl : fn = Try.f32 := (Option.some.inj (Try.func32.symm.trans hf)).symm
    have hbody : body = bodyOf Try.f32 := by unfold bodyOf; rw [hb]; rfl
    subst hbody
    have h1 : loopBodies (bodyOf Try.f32) = [loopA1] := by kernel_rfl
    rw [h1] at hx
    have hx' := List.mem_singleton.1 hx
    have h2 : id = 3 := by
      have h3 : headReg loopA1 = some 3 := by kernel_rfl
      rw [hx', h3] at hid; exact (Option.some.inj hid).symm
    subst h2
    have he' : eArL = e := Option.some.inj he
    subst he'
    rw [hx']
    exact eArL_ok K t
  · by_cases h' : f = 21
    · subst h'
      obtain rfl : fn = Try.f21 := (Option.some.inj (Try.func21.symm.trans hf)).symm
      have hbody : body = bodyOf Try.f21 := by unfold bodyOf; rw [hb]; rfl
      subst hbody
      have h1 : loopBodies (bodyOf Try.f21) = [loopC1] := by kernel_rfl
      rw [h1] at hx
      have hx' := List.mem_singleton.1 hx
      have h2 : id = 6 := by
        have h3 : headReg loopC1 = some 6 := by kernel_rfl
        rw [hx', h3] at hid; exact (Option.some.inj hid).symm
      subst h2
      have he' : eCrL = e := Option.some.inj he
      subst he'
      rw [hx']
      exact eCrL_ok K t
    · exfalso
      have : (lvC f).ent id = none := by
        unfold lvC
        split
        · exact absurd rfl h
        · exact absurd rfl h'
        · rfl
      rw [this] at he; cases he
def preK (l : List Int) (k t : List UInt8) (n m : Nat) (rows : List (List CV)) : List PObj :=
  [.raw (.cells [.slice 2 0 n n, .slice 3 0 n n, .vec 4 m] dT), .vecI .i64 l 3, .arrB k 5, .arrB t 5, .vecR shP rows pT]
def postK (l : List Int) (k t : List UInt8) (n : Nat) (rows : List (List CV)) : List PObj :=
  [.raw (.cells [.slice 2 0 n n, .slice 3 0 n n, .nilslice] dT), .vecI .i64 l 3, .arrB k 5, .arrB t 5, .vecR shP rows pT]
def xCr (l : List Int) (len : Nat) (k t : List UInt8) (n m : Nat) (rows : List (List CV)) : Ans :=
  .chk (mkB m) (.chk (c1K 0 len l len n n n n m m m (tk m)) (.chk (okK m (tk m) l) (.chk (c2K 0 len l len n n n n m k rows) (.chk (rowsB n rows) (.chk (inK m l) (.chk (cpC n t (layAll rows l k)) (.ret (.int .i64 0) (postK l (layAll rows l k) (cpB n t (layAll rows l k)) n rows))))))))
theorem cCr (l : List Int) (len : Nat) (k t : List UInt8) (n m : Nat) (rows : List (List CV)) : Comes tNu lvC 21 [.ptr 0 0, .vec 1 len] (preK l k t n m rows) (xCr l len k t n m rows) := by unfold Comes; kernel_rfl
def xC1 (k t : List UInt8) (n m : Nat) (rows : List (List CV)) : Ans := .chk (mkB m) (.chk (cpC n t k) (.ret (.int .i64 0) (dkv n k (cpB n t k) rows)))
theorem cC1 (k t : List UInt8) (n m : Nat) (rows : List (List CV)) : Comes tNu nolv 21 [.ptr 0 0, .nilslice] (dk1 n k t rows m) (xC1 k t n m rows) := by unfold Comes; kernel_rfl
def xC0 (k t : List UInt8) (n : Nat) : Ans := .chk (cpC n t k) (.ret (.int .i64 0) (dk0 n k (cpB n t k)))
theorem cC0 (k t : List UInt8) (n : Nat) : Comes tNu nolv 21 [.ptr 0 0, .nilslice] (dk0 n k t) (xC0 k t n) := by unfold Comes; kernel_rfl
end Go.Proofs.Ytoekeplljjaehaa
