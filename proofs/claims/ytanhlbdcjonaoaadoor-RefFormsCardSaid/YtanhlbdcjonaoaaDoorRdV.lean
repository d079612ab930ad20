/- Layer 2: apostrophes that are doubled. -/
import Derived.Test.YtanhlbdcjonaoaaDoorRdV0
set_option linter.unusedVariables false
set_option linter.unusedSimpArgs false
namespace Go.Proofs.YtanhlbdcjonaoaaDoor
open Go Sx

def dblS : List UInt8 → List UInt8
  | [] => []
  | c :: r => if c = 39 then 39 :: 39 :: dblS r else c :: dblS r
theorem dbl_none : ∀ (l : List UInt8), l.count 39 = 0 → dblS l = l
  | [], _ => rfl
  | c :: r, h => by
    rw [List.count_cons] at h
    by_cases e : c = 39
    · subst e; simp at h
    · rw [dblS, if_neg e, dbl_none r (by omega)]
theorem dbl_at : ∀ (l : List UInt8) (o : Nat), l[o]? = some 39 → (∀ k, k < o → l[k]? ≠ some 39) → dblS l = l.take o ++ 39 :: 39 :: dblS (l.drop (o + 1)) ∧ l.count 39 = (l.drop (o + 1)).count 39 + 1
  | [], o, h, _ => by simp at h
  | c :: r, 0, h, _ => by
    have hc : c = 39 := by simpa using h
    subst hc
    exact ⟨by simp [dblS], by simp⟩
  | c :: r, o + 1, h, hn => by
    have hc : c ≠ 39 := fun e => hn 0 (by omega) (by simp [e])
    obtain ⟨h1, h2⟩ := dbl_at r o (by simpa using h) (fun k hk => by have := hn (k + 1) (by omega); simpa using this)
    refine ⟨?_, ?_⟩
    · rw [dblS, if_neg hc, h1]; rfl
    · rw [List.count_cons, h2, if_neg (by simpa using hc)]; rfl
theorem ixQ_some {l : List UInt8} (h : 0 < l.count 39) : ∃ o : Nat, ixQ l = o ∧ o < l.length ∧ l[o]? = some 39 ∧ ∀ k, k < o → l[k]? ≠ some 39 := by
  have hg := Lib.indexByte_ge l 39
  by_cases e : Lib.indexByte l 39 = -1
  · exfalso
    have hn := Lib.indexByte_none e
    have : (39 : UInt8) ∈ l := List.count_pos_iff.1 h
    obtain ⟨k, hk, hk2⟩ := List.getElem_of_mem this
    exact hn k (by rw [List.getElem?_eq_getElem hk, hk2])
  · obtain ⟨o, ho⟩ : ∃ o : Nat, Lib.indexByte l 39 = o := ⟨(Lib.indexByte l 39).toNat, by omega⟩
    obtain ⟨h1, h2⟩ := Lib.indexByte_some ho
    refine ⟨o, ho, ?_, h1, h2⟩
    exact (List.getElem?_eq_some_iff.1 h1).1
/-- What so many rounds leave: what has been written, and how far that is. -/
def goQ (l : List UInt8) : Nat → List UInt8 → Nat → List UInt8 × Nat
  | 0, acc, p => (acc, p)
  | k + 1, acc, p => goQ l k (acc ++ (l.drop p).take (ixQ (l.drop p)).toNat ++ [39, 39]) (p + (ixQ (l.drop p)).toNat + 1)
theorem goQ_end (l : List UInt8) : ∀ (k : Nat) (acc : List UInt8) (p : Nat), p ≤ l.length → (l.drop p).count 39 = k → (goQ l k acc p).1 ++ l.drop (goQ l k acc p).2 = acc ++ dblS (l.drop p) ∧ (goQ l k acc p).2 ≤ l.length ∧ (goQ l k acc p).1.length + 2 * (l.length - (goQ l k acc p).2) ≤ acc.length + 2 * (l.length - p)
  | 0, acc, p, hp, hc => ⟨by rw [goQ, dbl_none _ hc], hp, Nat.le_refl _⟩
  | k + 1, acc, p, hp, hc => by
    obtain ⟨o, ho, hl, h1, h2⟩ := ixQ_some (l := l.drop p) (by omega)
    obtain ⟨d1, d2⟩ := dbl_at _ o h1 h2
    rw [List.drop_drop] at d1 d2
    rw [List.length_drop] at hl
    rw [goQ, ho, Int.toNat_natCast]
    have := goQ_end l k (acc ++ (l.drop p).take o ++ [39, 39]) (p + o + 1) (by omega) (by rw [Nat.add_assoc]; omega)
    refine ⟨?_, this.2.1, ?_⟩
    · rw [this.1, d1]; simp [Nat.add_assoc]
    · have h3 := this.2.2
      simp only [List.length_append, List.length_take, List.length_drop, List.length_cons, List.length_nil] at h3
      omega

theorem loop60 (l : List UInt8) (hl : l.length ≤ 1000000) :
    Tri Tryd.prog (.loop ((loopBodies (bodyOf Tryd.f60)).headD .skip)) (st60 l [] 0 0 ((l.count 39 : Nat) : Int) 0).toA (.exit 0) (fin60 l (goQ l (l.count 39) [] 0).1 (goQ l (l.count 39) [] 0).1.length ((goQ l (l.count 39) [] 0).2 : Int)).toA 0 := by
  have main := loop_rounds (ι := { q : Nat × List UInt8 × Nat // q.2.2 ≤ l.length ∧ (l.drop q.2.2).count 39 = q.1 ∧ q.2.1.length + 2 * (l.length - q.2.2) ≤ 2 * l.length ∧ q.1 ≤ l.count 39 }) (ent_sound (NF := 64) (m := 18446744073709551616) tabQ_ok host nolv_ok 30) (lv := {}) (K := 0) (NF := 64) (m := 18446744073709551616) (x := (loopBodies (bodyOf Tryd.f60)).headD .skip) (fun x hx id e h1 h2 => by cases h2) (fun n => hasN [0, 1, 2, 8, 10, 11, 52, 53] n) (fun n => hasN [0, 8, 10, 11] n)
    (fun q => st60 l q.1.2.1 q.1.2.1.length (q.1.2.2 : Int) ((l.count 39 : Nat) : Int) (((l.count 39 : Nat) : Int) - (q.1.1 : Int))) (fun q => q.1.1) (fun q => (.exit 0, fin60 l (goQ l q.1.1 q.1.2.1 q.1.2.2).1 (goQ l q.1.1 q.1.2.1 q.1.2.2).1.length ((goQ l q.1.1 q.1.2.1 q.1.2.2).2 : Int))) ?_ (fun q => by simp) ⟨(l.count 39, [], 0), by simp⟩
  · have e : ((l.count 39 : Nat) : Int) - ((l.count 39 : Nat) : Int) = 0 := by omega
    simp only [e] at main
    exact main
  rintro ⟨⟨k, acc, p⟩, hp, hc, hb, hk⟩
  simp only at hp hc hb hk ⊢
  have hcl : l.count 39 ≤ l.length := List.count_le_length
  rw [round60]
  cases k with
  | zero =>
    refine .inr ?_
    rw [bcF (b := decide (((l.count 39 : Nat) : Int) - ((0 : Nat) : Int) < ((l.count 39 : Nat) : Int))) (decide_eq_false (by omega))]
    rfl
  | succ k =>
    obtain ⟨o, ho, hlo, h1, h2⟩ := ixQ_some (l := l.drop p) (by omega)
    obtain ⟨d1, d2⟩ := dbl_at _ o h1 h2
    rw [List.drop_drop] at d1 d2
    rw [List.length_drop] at hlo
    have htake : List.take (l.length - p) (List.drop p l) = List.drop p l := List.take_of_length_le (by rw [List.length_drop]; exact Nat.le_refl _)
    have hj : jQ l (p : Int) = ((p + o : Nat) : Int) := by
      unfold jQ
      rw [Int.toNat_natCast, htake, ho, i64_in (by omega) (by omega)]; push_cast; rfl
    have hq : pcQ l (p : Int) = (l.drop p).take o := by
      unfold pcQ
      rw [hj, Int.toNat_natCast, Int.toNat_natCast, show p + o - p = o by omega]
    have hql : (pcQ l (p : Int)).length = o := by rw [hq, List.length_take, List.length_drop]; omega
    have room : ∀ (a : List UInt8) (m k : Nat), a.length = m → 2 * (m + k) ≤ 281474976710656 → roomB a m k = true := fun a m k h1 h2 => by
      unfold roomB
      rw [Bool.true_and, Bool.and_eq_true, decide_eq_true_eq, decide_eq_true_eq]
      exact ⟨by show a.length = m * 1; omega, by omega⟩
    rw [bcT (b := decide (_ < _)) (decide_eq_true (by omega)), bcT (b := decide (0 ≤ (p : Int) ∧ _)) (decide_eq_true (by omega)), hj, bcT (b := decide (0 ≤ (p : Int) ∧ _)) (decide_eq_true (by omega)),
      bcT (b := roomB acc acc.length (pcQ l (p : Int)).length) (room _ _ _ rfl (by omega)), bcT (b := roomB (acc ++ pcQ l (p : Int)) (acc.length + (pcQ l (p : Int)).length) 2) (room _ _ _ (by simp) (by omega))]
    refine .inl ⟨⟨(k, acc ++ (l.drop p).take o ++ [39, 39], p + o + 1), by simp only; omega, by simp only; rw [Nat.add_assoc]; omega, ?_, by simp only; omega⟩, by simp, ?_, ?_⟩
    · simp only [List.length_append, List.length_take, List.length_drop, List.length_cons, List.length_nil]
      omega
    · simp only [goQ, ho, Int.toNat_natCast]
    · have e1 : IntKind.i64.wrap (((p + o : Nat) : Int) + 1) = ((p + o + 1 : Nat) : Int) := by rw [i64_in (by omega) (by omega)]; push_cast; rfl
      have e2 : IntKind.i64.wrap (((l.count 39 : Nat) : Int) - ((k + 1 : Nat) : Int) + 1) = ((l.count 39 : Nat) : Int) - (k : Int) := by rw [i64_in (by omega) (by omega)]; push_cast; omega
      rw [e1, e2, hq]
      have e3 : acc.length + ((l.drop p).take o).length + 2 = (acc ++ (l.drop p).take o ++ [39, 39]).length := by simp [Nat.add_assoc]
      rw [e3]

def dropN : Nat → List (Option AV) → Option (List (Option AV))
  | 0, r => some r
  | n + 1, none :: r => dropN n r
  | _, _ => none
theorem dropN_eq : ∀ (n : Nat) (l r : List (Option AV)), dropN n l = some r → l = List.replicate n none ++ r
  | 0, l, r, h => by cases h; rfl
  | n + 1, [], r, h => by cases h
  | n + 1, none :: l, r, h => by rw [dropN_eq n l r h]; rfl
  | n + 1, some _ :: l, r, h => by cases h
def onlyN : Nat → List (Option AV) → Bool
  | 0, [] => true
  | n + 1, none :: r => onlyN n r
  | _, _ => false
theorem onlyN_eq : ∀ (n : Nat) (l : List (Option AV)), onlyN n l = true → l = List.replicate n none
  | 0, [], _ => rfl
  | 0, _ :: _, h => by cases h
  | n + 1, [], h => by cases h
  | n + 1, none :: r, h => by rw [List.replicate_succ, ← onlyN_eq n r h]
  | n + 1, some _ :: r, h => by cases h
def e60 : Nat → PState → LAns := fun K t => match K, t with
  | 0, ⟨some (.str l) :: some (.str [39]) :: some (.str [39, 39]) :: none :: none :: none :: none :: none :: some (.str []) :: none :: some (.ptr 0 0) :: some (.int .i64 p) :: r, some (.raw (.cells [.ptr 0 0, .vec 1 0] 60)) :: some (.vecB [] 5) :: rm⟩ => match dropN 40 r with
    | some (some (.int .i64 n) :: some (.int .i64 i) :: r2) =>
      .chk (onlyN 50 r2) (.chk (nonesB 64 rm) (.chk (decide (p = 0 ∧ i = 0 ∧ n = ((l.count 39 : Nat) : Int) ∧ l.length ≤ 1000000)) (.out (.exit 0) (fin60 l (goQ l (l.count 39) [] 0).1 (goQ l (l.count 39) [] 0).1.length ((goQ l (l.count 39) [] 0).2 : Int)))))
    | _ => .fail
  | _, _ => .fail
def lv60 : FuncId → Lv := fun f => match f with
  | 60 => { keep := fun i => if i = 13 then some [0, 1, 2, 8, 10, 11, 52, 53] else none, ent := fun i => match i with | 13 => some e60 | _ => none }
  | _ => {}
end Go.Proofs.YtanhlbdcjonaoaaDoor
