/- Digits, and what the decimals' deeds come to: plain mathematics. -/
import Init
import Derived.Test.YtdomenmfkbfakaaGreatDoorGr05
import Derived.Test.YtdomenmfkbfakaaGreatDoorProg
import Derived.KernelRfl
set_option linter.unusedVariables false
set_option linter.unusedSimpArgs false
namespace Go.Proofs.YtdomenmfkbfakaaGreatDoor.Dc

/-- The number that digits are, the greatest first. -/
def val (l : List Int) : Int := l.foldl (fun n d => n * 10 + d) 0
def Dig (l : List Int) : Prop := ∀ d ∈ l, 0 ≤ d ∧ d ≤ 9
def digs : Nat → Int → List Int
  | 0, _ => []
  | n + 1, v => digs n (v / 10) ++ [v % 10]

theorem val_nil : val [] = 0 := rfl
theorem val_snoc (l : List Int) (d : Int) : val (l ++ [d]) = val l * 10 + d := by simp [val]
theorem foldl_val (l : List Int) : ∀ a : Int, l.foldl (fun n d => n * 10 + d) a = a * 10 ^ l.length + val l := by
  induction l with
  | nil => intro a; simp [val]
  | cons d l ih =>
    intro a
    have e : val (d :: l) = d * 10 ^ l.length + val l := by
      show l.foldl _ (0 * 10 + d) = _; rw [ih]; simp
    show l.foldl _ (a * 10 + d) = _
    rw [ih, e, List.length_cons, Int.pow_succ]
    rw [Int.add_mul, Int.mul_assoc, Int.mul_comm 10 _]
    omega
theorem val_cons (d : Int) (l : List Int) : val (d :: l) = d * 10 ^ l.length + val l := by
  show l.foldl _ (0 * 10 + d) = _; rw [foldl_val]; simp
theorem val_append (a b : List Int) : val (a ++ b) = val a * 10 ^ b.length + val b := by
  show (a ++ b).foldl _ 0 = _; rw [List.foldl_append, foldl_val]; rfl

theorem pow_pos' (n : Nat) : (0 : Int) < 10 ^ n := Int.pow_pos (by decide)

theorem pow_mono {n m : Nat} (h : n ≤ m) : (10 : Int) ^ n ≤ 10 ^ m := by
  have := Nat.pow_le_pow_right (n := 10) (by decide) h
  exact_mod_cast this

theorem digs_length : ∀ (n : Nat) (v : Int), (digs n v).length = n
  | 0, _ => rfl
  | n + 1, v => by simp [digs, digs_length n]
theorem digs_dig : ∀ (n : Nat) (v : Int), Dig (digs n v)
  | 0, _ => by intro d h; cases h
  | n + 1, v => by
    intro d h
    simp only [digs, List.mem_append, List.mem_singleton] at h
    rcases h with h | h
    · exact digs_dig n _ d h
    · subst h; omega
theorem val_digs : ∀ (n : Nat) (v : Int), 0 ≤ v → v < 10 ^ n → val (digs n v) = v
  | 0, v, h0, h => by simp at h; simp [digs, val]; omega
  | n + 1, v, h0, h => by
    rw [Int.pow_succ] at h
    simp only [digs, val_snoc]
    rw [val_digs n (v / 10) (by omega) (by omega)]
    omega
theorem Dig.cons {d : Int} {l : List Int} (h : Dig (d :: l)) : (0 ≤ d ∧ d ≤ 9) ∧ Dig l := ⟨h d (by simp), fun e he => h e (by simp [he])⟩
theorem Dig.append {a b : List Int} (h : Dig a) (k : Dig b) : Dig (a ++ b) := fun d hd => by
  rcases List.mem_append.1 hd with g | g
  · exact h d g
  · exact k d g
theorem Dig.left {a b : List Int} (h : Dig (a ++ b)) : Dig a := fun d hd => h d (by simp [hd])
theorem Dig.right {a b : List Int} (h : Dig (a ++ b)) : Dig b := fun d hd => h d (by simp [hd])
theorem Dig.take {a : List Int} (h : Dig a) (n : Nat) : Dig (a.take n) := fun d hd => h d (List.mem_of_mem_take hd)
theorem Dig.drop {a : List Int} (h : Dig a) (n : Nat) : Dig (a.drop n) := fun d hd => h d (List.mem_of_mem_drop hd)
theorem Dig.getD {a : List Int} (h : Dig a) (i : Nat) : 0 ≤ a.getD i 0 ∧ a.getD i 0 ≤ 9 := by
  by_cases hi : i < a.length
  · have : a.getD i 0 = a[i] := by simp [List.getD, hi]
    rw [this]; exact h _ (List.getElem_mem hi)
  · have : a.getD i 0 = 0 := by simp [List.getD, List.getElem?_eq_none (by omega : a.length ≤ i)]
    omega
theorem val_bounds : ∀ (l : List Int), Dig l → 0 ≤ val l ∧ val l < 10 ^ l.length
  | [], _ => by simp [val]
  | d :: l, h => by
    obtain ⟨hd, hl⟩ := h.cons
    obtain ⟨h1, h2⟩ := val_bounds l hl
    rw [val_cons, List.length_cons, Int.pow_succ]
    have := pow_pos' l.length
    have h3 : 0 ≤ d * 10 ^ l.length := Int.mul_nonneg hd.1 (by omega)
    have h4 : d * 10 ^ l.length ≤ 9 * 10 ^ l.length := Int.mul_le_mul_of_nonneg_right hd.2 (by omega)
    omega
theorem digs_val' : ∀ (n : Nat) (l : List Int), Dig l → l.length = n → digs n (val l) = l
  | 0, l, h, hn => by rw [List.length_eq_zero_iff.1 hn]; rfl
  | n + 1, l, h, hn => by
    have hne : l ≠ [] := by intro e; rw [e] at hn; simp at hn
    have e : l = l.dropLast ++ [l.getLast hne] := (List.dropLast_concat_getLast hne).symm
    generalize l.dropLast = a at e
    generalize l.getLast hne = d at e
    subst e
    have hd := h.right d (by simp)
    rw [val_snoc, digs, show (val a * 10 + d) / 10 = val a by omega, show (val a * 10 + d) % 10 = d by omega, digs_val' n a h.left (by simpa using hn)]
theorem digs_val {l : List Int} (h : Dig l) : digs l.length (val l) = l := digs_val' _ l h rfl
/-- Digits that are one number are the same. -/
theorem eq_digs {n : Nat} {l : List Int} {v : Int} (h : Dig l) (hl : l.length = n) (hv : val l = v) : l = digs n v := by
  rw [← hv, ← hl, digs_val h]

theorem digs_add : ∀ (b a : Nat) (v : Int), digs (a + b) v = digs a (v / 10 ^ b) ++ digs b v
  | 0, a, v => by simp [digs]
  | b + 1, a, v => by
    rw [← Nat.add_assoc, digs, digs_add b a (v / 10), digs, Int.pow_succ, ← List.append_assoc]
    rw [Int.mul_comm, Int.ediv_ediv_of_nonneg (by decide : (0 : Int) ≤ 10)]
theorem digs_take {n k : Nat} (v : Int) (h : k ≤ n) : (digs n v).take k = digs k (v / 10 ^ (n - k)) := by
  have := digs_add (n - k) k v
  rw [show k + (n - k) = n by omega] at this
  rw [this, List.take_left' (digs_length _ _)]
theorem digs_drop {n k : Nat} (v : Int) (h : k ≤ n) : (digs n v).drop k = digs (n - k) v := by
  have := digs_add (n - k) k v
  rw [show k + (n - k) = n by omega] at this
  rw [this, List.drop_left' (digs_length _ _)]
theorem digs_mod : ∀ (n : Nat) (v : Int), digs n (v % 10 ^ n) = digs n v
  | 0, v => rfl
  | n + 1, v => by
    rw [digs, digs, Int.pow_succ]
    have h1 : v % (10 ^ n * 10) % 10 = v % 10 := Int.emod_emod_of_dvd v (Int.dvd_mul_left _ _)
    have h2 : v % (10 ^ n * 10) / 10 = v / 10 % 10 ^ n := by
      have e : v / (10 ^ n * 10) = v / 10 / 10 ^ n := by rw [Int.ediv_ediv_of_nonneg (by decide : (0 : Int) ≤ 10), Int.mul_comm]
      rw [Int.emod_def, Int.emod_def, e]
      have e2 : (10 ^ n * 10 : Int) * (v / 10 / 10 ^ n) = 10 * (10 ^ n * (v / 10 / 10 ^ n)) := by rw [Int.mul_comm (10 ^ n) 10, Int.mul_assoc]
      rw [e2]
      omega
    rw [h1, h2, digs_mod n]
theorem val_digs_mod (n : Nat) (v : Int) : val (digs n v) = v % 10 ^ n := by
  rw [← digs_mod, val_digs]
  · exact Int.emod_nonneg _ (by have := pow_pos' n; omega)
  · exact Int.emod_lt_of_pos _ (pow_pos' n)
theorem digs_get {n : Nat} {i : Nat} (v : Int) (h : i < n) : (digs n v).getD i 0 = v / 10 ^ (n - 1 - i) % 10 := by
  have e := digs_add (n - 1 - i) (i + 1) v
  rw [show i + 1 + (n - 1 - i) = n by omega] at e
  rw [e]
  have hl : i < (digs (i + 1) (v / 10 ^ (n - 1 - i))).length := by rw [digs_length]; omega
  simp only [List.getD_eq_getElem?_getD, List.getElem?_append_left hl, digs]
  rw [List.getElem?_append_left (by rw [List.length_append, digs_length]; simp), List.getElem?_append_right (by rw [digs_length]; omega), digs_length]
  simp
theorem digs_set {n p : Nat} {v d : Int} (hp : p < n) (h0 : 0 ≤ v) (hv : v < 10 ^ p) (hd : 0 ≤ d ∧ d ≤ 9) : (digs n v).set (n - 1 - p) d = digs n (d * 10 ^ p + v) := by
  have e1 := digs_add p (n - p) v
  have e2 := digs_add p (n - p) (d * 10 ^ p + v)
  rw [show n - p + p = n by omega] at e1 e2
  have hpp := pow_pos' p
  have q1 : v / 10 ^ p = 0 := Int.ediv_eq_zero_of_lt h0 hv
  have q2 : (d * 10 ^ p + v) / 10 ^ p = d := by rw [Int.add_comm, Int.add_mul_ediv_right _ _ (by omega), q1]; omega
  have m2 : digs p (d * 10 ^ p + v) = digs p v := by
    rw [← digs_mod p (d * 10 ^ p + v), ← digs_mod p v]
    congr 1
    rw [Int.add_comm, Int.add_mul_emod_self_right]
  rw [e1, e2, q1, q2, m2]
  obtain ⟨m, hm⟩ : ∃ m, n - p = m + 1 := ⟨n - p - 1, by omega⟩
  rw [hm, List.set_append_left _ _ (by rw [digs_length]; omega)]
  congr 1
  rw [digs, digs, show n - 1 - p = m by omega, List.set_append_right _ _ (by rw [digs_length]; omega), digs_length]
  rw [show (0 : Int) / 10 = 0 by decide, show d / 10 = 0 by omega, show d % 10 = d by omega]
  simp

theorem val_zeros (n : Nat) : val (List.replicate n 0) = 0 := by
  induction n with
  | zero => rfl
  | succ n ih => rw [List.replicate_succ, val_cons, ih]; omega
theorem dig_zeros (n : Nat) : Dig (List.replicate n 0) := fun d h => by have := (List.mem_replicate.1 h).2; omega
theorem zeros_digs (n : Nat) : List.replicate n (0 : Int) = digs n 0 := eq_digs (dig_zeros n) (by simp) (val_zeros n)
theorem val_zero_iff {l : List Int} (h : Dig l) : val l = 0 ↔ ∀ d ∈ l, d = 0 := by
  induction l with
  | nil => simp [val]
  | cons d l ih =>
    obtain ⟨hd, hl⟩ := h.cons
    rw [val_cons]
    have := val_bounds l hl
    have hp := pow_pos' l.length
    constructor
    · intro e
      have hd0 : d = 0 := by
        rcases Int.lt_or_le 0 d with g | g
        · have : 1 * 10 ^ l.length ≤ d * 10 ^ l.length := Int.mul_le_mul_of_nonneg_right g (by omega)
          omega
        · omega
      subst hd0
      intro x hx
      rcases List.mem_cons.1 hx with g | g
      · exact g
      · exact (ih hl).1 (by omega) x g
    · intro e
      have h0 := e d (by simp)
      subst h0
      rw [(ih hl).2 fun x hx => e x (by simp [hx])]; omega

/-! ### sums -/
/-- Digits added (or taken away), from the last one on: the new digits, and what is carried. -/
def addS (s : Int) : List Int → List Int → List Int × Int
  | x :: xs, y :: ys => let r := addS s xs ys; ((10 + x + s * y + r.2) % 10 :: r.1, (10 + x + s * y + r.2) / 10 - 1)
  | _, _ => ([], 0)

theorem addS_spec {s : Int} (hs : s = 1 ∨ s = -1) : ∀ (xs ys : List Int), Dig xs → Dig ys → xs.length = ys.length →
    (addS s xs ys).1.length = xs.length ∧ Dig (addS s xs ys).1 ∧ (-1 ≤ (addS s xs ys).2 ∧ (addS s xs ys).2 ≤ 1) ∧ val (addS s xs ys).1 + (addS s xs ys).2 * 10 ^ xs.length = val xs + s * val ys
  | [], [], _, _, _ => by simp [addS, val, Dig]
  | [], _ :: _, _, _, h => by simp at h
  | _ :: _, [], _, _, h => by simp at h
  | x :: xs, y :: ys, hx, hy, hl => by
    obtain ⟨hx1, hx2⟩ := hx.cons
    obtain ⟨hy1, hy2⟩ := hy.cons
    obtain ⟨h1, h2, h3, h4⟩ := addS_spec hs xs ys hx2 hy2 (by simpa using hl)
    generalize hr : addS s xs ys = r at h1 h2 h3 h4
    have hys : ys.length = xs.length := by simp at hl; omega
    have hsy : -9 ≤ s * y ∧ s * y ≤ 9 := by rcases hs with rfl | rfl <;> omega
    simp only [addS, hr]
    refine ⟨by simp [h1], fun d hd => ?_, by omega, ?_⟩
    · rcases List.mem_cons.1 hd with g | g
      · subst g; omega
      · exact h2 d g
    · rw [val_cons, val_cons, val_cons, h1, hys, List.length_cons, Int.pow_succ]
      generalize hp : (10 : Int) ^ xs.length = p at h4 ⊢
      generalize hsy' : s * y = sy at hsy ⊢
      have e1 : s * (y * p + val ys) = sy * p + s * val ys := by rw [Int.mul_add, ← Int.mul_assoc, hsy']
      rw [e1]
      have e2 : (10 + x + sy + r.2) % 10 = (10 + x + sy + r.2) - 10 * ((10 + x + sy + r.2) / 10) := by omega
      rw [e2]
      generalize (10 + x + sy + r.2) / 10 = c
      have e3 : (10 + x + sy + r.2 - 10 * c) * p = 10 * p + x * p + sy * p + r.2 * p - 10 * (c * p) := by
        simp only [Int.sub_mul, Int.add_mul, Int.mul_assoc]
      have e4 : (c - 1) * (p * 10) = 10 * (c * p) - 10 * p := by
        rw [Int.sub_mul, ← Int.mul_assoc]; omega
      rw [e3, e4]
      omega

/-- The digits of one number, the last of them made those of the sum. -/
def addArr (s : Int) (xs ys : List Int) (k : Nat) : List Int := xs.take k ++ (addS s (xs.drop k) (ys.drop k)).1
def addCarry (s : Int) (xs ys : List Int) (k : Nat) : Int := (addS s (xs.drop k) (ys.drop k)).2

theorem drop_getD {l : List Int} {k : Nat} (h : k < l.length) : l.drop k = l.getD k 0 :: l.drop (k + 1) := by
  rw [List.drop_eq_getElem_cons h]; simp [List.getD, h]

theorem addArr_step {s : Int} {xs ys : List Int} {k : Nat} (hx : k < xs.length) (hy : k < ys.length) :
    (addArr s xs ys (k + 1)).set k ((10 + xs.getD k 0 + s * ys.getD k 0 + addCarry s xs ys (k + 1)) % 10) = addArr s xs ys k ∧
    addCarry s xs ys k = (10 + xs.getD k 0 + s * ys.getD k 0 + addCarry s xs ys (k + 1)) / 10 - 1 := by
  unfold addArr addCarry
  rw [drop_getD hx, drop_getD hy, addS]
  refine ⟨?_, rfl⟩
  have e : xs.take (k + 1) = xs.take k ++ [xs.getD k 0] := by
    rw [List.take_succ_eq_append_getElem hx]; simp [List.getD, hx]
  rw [e, List.append_assoc, List.set_append_right _ _ (by simp; omega)]
  have : k - (xs.take k).length = 0 := by simp; omega
  rw [this]
  simp
theorem addArr_get {s : Int} {xs ys : List Int} {k : Nat} (hx : k < xs.length) : (addArr s xs ys (k + 1)).getD k 0 = xs.getD k 0 := by
  unfold addArr
  simp only [List.getD_eq_getElem?_getD]
  rw [List.getElem?_append_left (by simp; omega)]
  simp
theorem addArr_length {s : Int} {xs ys : List Int} {k : Nat} (hs : s = 1 ∨ s = -1) (hx : Dig xs) (hy : Dig ys) (hl : xs.length = ys.length) (hk : k ≤ xs.length) : (addArr s xs ys k).length = xs.length := by
  unfold addArr
  have := (addS_spec hs (xs.drop k) (ys.drop k) (hx.drop k) (hy.drop k) (by simp [hl])).1
  simp [this]; omega
theorem addCarry_bounds {s : Int} {xs ys : List Int} {k : Nat} (hs : s = 1 ∨ s = -1) (hx : Dig xs) (hy : Dig ys) (hl : xs.length = ys.length) : -1 ≤ addCarry s xs ys k ∧ addCarry s xs ys k ≤ 1 :=
  (addS_spec hs (xs.drop k) (ys.drop k) (hx.drop k) (hy.drop k) (by simp [hl])).2.2.1
theorem addArr_end {s : Int} {xs ys : List Int} : addArr s xs ys xs.length = xs := by
  unfold addArr
  rw [List.drop_length]; simp [addS]
theorem addCarry_end {s : Int} {xs ys : List Int} : addCarry s xs ys xs.length = 0 := by
  unfold addCarry
  rw [List.drop_length]; simp [addS]
theorem addArr_zero {s : Int} {n : Nat} {X Y : Int} (hs : s = 1 ∨ s = -1) (hX : 0 ≤ X ∧ X < 10 ^ n) (hY : 0 ≤ Y ∧ Y < 10 ^ n) (hr : 0 ≤ X + s * Y ∧ X + s * Y < 10 ^ n) :
    addArr s (digs n X) (digs n Y) 0 = digs n (X + s * Y) := by
  unfold addArr
  simp only [List.take_zero, List.drop_zero, List.nil_append]
  obtain ⟨h1, h2, h3, h4⟩ := addS_spec hs _ _ (digs_dig n X) (digs_dig n Y) (by simp [digs_length])
  rw [val_digs n X hX.1 hX.2, val_digs n Y hY.1 hY.2, digs_length] at h4
  rw [digs_length] at h1
  refine eq_digs h2 h1 ?_
  have hb := val_bounds _ h2
  rw [h1] at hb
  generalize (addS s (digs n X) (digs n Y)).2 = c at *
  generalize val (addS s (digs n X) (digs n Y)).1 = v at *
  generalize (10 : Int) ^ n = p at *
  have hc : c = 0 := by
    have : c = -1 ∨ c = 0 ∨ c = 1 := by omega
    rcases this with rfl | rfl | rfl <;> omega
  subst hc; omega

/-! ### products with a number -/
def timesS (m : Int) : List Int → List Int × Int
  | x :: xs => let r := timesS m xs; ((x * m + r.2) % 10 :: r.1, (x * m + r.2) / 10)
  | [] => ([], 0)

theorem timesS_spec {m : Int} (hm : 0 ≤ m) : ∀ (xs : List Int), Dig xs → (timesS m xs).1.length = xs.length ∧ Dig (timesS m xs).1 ∧ (0 ≤ (timesS m xs).2 ∧ (timesS m xs).2 ≤ m) ∧ val (timesS m xs).1 + (timesS m xs).2 * 10 ^ xs.length = val xs * m
  | [], _ => by simp [timesS, val, Dig, hm]
  | x :: xs, hx => by
    obtain ⟨hx1, hx2⟩ := hx.cons
    obtain ⟨h1, h2, h3, h4⟩ := timesS_spec hm xs hx2
    generalize hr : timesS m xs = r at h1 h2 h3 h4
    simp only [timesS, hr]
    have hxm : 0 ≤ x * m ∧ x * m ≤ 9 * m := ⟨Int.mul_nonneg hx1.1 hm, Int.mul_le_mul_of_nonneg_right hx1.2 hm⟩
    refine ⟨by simp [h1], fun d hd => ?_, by omega, ?_⟩
    · rcases List.mem_cons.1 hd with g | g
      · subst g; omega
      · exact h2 d g
    · rw [val_cons, val_cons, h1, List.length_cons, Int.pow_succ]
      generalize hp : (10 : Int) ^ xs.length = p at h4 ⊢
      generalize hxm' : x * m = xm at hxm ⊢
      have e1 : (x * p + val xs) * m = xm * p + val xs * m := by rw [Int.add_mul, Int.mul_assoc, Int.mul_comm p m, ← Int.mul_assoc, hxm']
      rw [e1]
      have e2 : (xm + r.2) % 10 = (xm + r.2) - 10 * ((xm + r.2) / 10) := by omega
      rw [e2]
      generalize (xm + r.2) / 10 = c
      have e3 : (xm + r.2 - 10 * c) * p = xm * p + r.2 * p - 10 * (c * p) := by
        simp only [Int.sub_mul, Int.add_mul, Int.mul_assoc]
      have e4 : c * (p * 10) = 10 * (c * p) := by rw [← Int.mul_assoc]; omega
      rw [e3, e4]; omega

def timesArr (m : Int) (xs : List Int) (k : Nat) : List Int := xs.take k ++ (timesS m (xs.drop k)).1
def timesCarry (m : Int) (xs : List Int) (k : Nat) : Int := (timesS m (xs.drop k)).2
theorem timesArr_step {m : Int} {xs : List Int} {k : Nat} (hx : k < xs.length) :
    (timesArr m xs (k + 1)).set k ((xs.getD k 0 * m + timesCarry m xs (k + 1)) % 10) = timesArr m xs k ∧ timesCarry m xs k = (xs.getD k 0 * m + timesCarry m xs (k + 1)) / 10 := by
  unfold timesArr timesCarry
  rw [drop_getD hx, timesS]
  refine ⟨?_, rfl⟩
  have e : xs.take (k + 1) = xs.take k ++ [xs.getD k 0] := by
    rw [List.take_succ_eq_append_getElem hx]; simp [List.getD, hx]
  rw [e, List.append_assoc, List.set_append_right _ _ (by simp; omega)]
  have : k - (xs.take k).length = 0 := by simp; omega
  rw [this]; simp
theorem timesArr_get {m : Int} {xs : List Int} {k : Nat} (hx : k < xs.length) : (timesArr m xs (k + 1)).getD k 0 = xs.getD k 0 := by
  unfold timesArr
  simp only [List.getD_eq_getElem?_getD]
  rw [List.getElem?_append_left (by simp; omega)]
  simp
theorem timesArr_length {m : Int} {xs : List Int} {k : Nat} (hm : 0 ≤ m) (hx : Dig xs) (hk : k ≤ xs.length) : (timesArr m xs k).length = xs.length := by
  unfold timesArr
  have := (timesS_spec hm (xs.drop k) (hx.drop k)).1
  simp [this]; omega
theorem timesCarry_bounds {m : Int} {xs : List Int} {k : Nat} (hm : 0 ≤ m) (hx : Dig xs) : 0 ≤ timesCarry m xs k ∧ timesCarry m xs k ≤ m := (timesS_spec hm (xs.drop k) (hx.drop k)).2.2.1
theorem timesArr_end {m : Int} {xs : List Int} : timesArr m xs xs.length = xs := by
  unfold timesArr; rw [List.drop_length]; simp [timesS]
theorem timesCarry_end {m : Int} {xs : List Int} : timesCarry m xs xs.length = 0 := by
  unfold timesCarry; rw [List.drop_length]; simp [timesS]
theorem timesArr_zero {m : Int} {n : Nat} {X : Int} (hm : 0 ≤ m) (hX : 0 ≤ X ∧ X < 10 ^ n) (hr : X * m < 10 ^ n) : timesArr m (digs n X) 0 = digs n (X * m) := by
  unfold timesArr
  simp only [List.take_zero, List.drop_zero, List.nil_append]
  obtain ⟨h1, h2, h3, h4⟩ := timesS_spec hm _ (digs_dig n X)
  rw [val_digs n X hX.1 hX.2, digs_length] at h4
  rw [digs_length] at h1
  refine eq_digs h2 h1 ?_
  have hb := val_bounds _ h2
  rw [h1] at hb
  generalize (timesS m (digs n X)).2 = c at *
  generalize val (timesS m (digs n X)).1 = v at *
  have hpp := pow_pos' n
  generalize (10 : Int) ^ n = p at *
  have hc : c = 0 := by
    rcases Int.lt_or_le 0 c with g | g
    · have : 1 * p ≤ c * p := Int.mul_le_mul_of_nonneg_right g (by omega)
      omega
    · omega
  subst hc; omega

attribute [irreducible] digs val addArr timesArr addCarry timesCarry

end Go.Proofs.YtdomenmfkbfakaaGreatDoor.Dc


set_option linter.unusedVariables false
set_option linter.unusedSimpArgs false
set_option maxRecDepth 20000
namespace Go.Proofs.YtdomenmfkbfakaaGreatDoor.Dq
open Go Sx Dc

theorem size_meets (n : Int) (h : -9223372036854775808 < n ∧ n < 9223372036854775808) : Meets Tryz.prog 111 [jI n] [] (jI ((n.natAbs : Nat) : Int)) [] := by
  let q1 : List Orc := [rG []]
  by_cases c1 : n < 0
  · exact meets_run (fn := Tryz.f111) 0 (q1 ++ [rG [hhB 1 true], rG [hhI 1 (-n)]]) [{}] Tryz.func111 (by kernel_rfl) Tryz.call111
      (oA (oS (bT c1)) <| oW (0 - n) (-n) (by omega))
      (oS (show jI (-n) = jI ((n.natAbs : Nat) : Int) from intE (by omega))) (by kernel_rfl)
  · exact meets_run (fn := Tryz.f111) 0 (q1 ++ [rG [hhB 1 false], rG []]) [{}] Tryz.func111 (by kernel_rfl) Tryz.call111
      (oS (bF c1))
      (oS (show jI n = jI ((n.natAbs : Nat) : Int) from intE (by omega))) (by kernel_rfl)

def rightB (m e : Int) : Bool := decide (-999999999999999 ≤ m ∧ m ≤ 999999999999999 ∧ -9 ≤ e ∧ e ≤ 9 ∧ (m = 0 → e = 0) ∧ (m ≠ 0 → e = 9 ∨ m.tmod 10 ≠ 0))

def trimD : Nat → Int → Int → Int × Int
  | 0, m, e => (m, e)
  | n + 1, m, e => if m.tmod 10 = 0 then trimD n (m.tdiv 10) (e + 1) else (m, e)
/-- The one form of m times ten to e. -/
def trimmedS (m e : Int) : Int × Int := if m = 0 then (0, 0) else trimD (9 - e).toNat m e

def trimmed_inv (m e : Int) : AState :=
  ⟨([sI m, sI e, none, none, sP 0 0] ++ nn 17), [some (jC [jI 0, jI 0] 23)]⟩

theorem trimmed_round (m e : Int) (h : -9223372036854775808 < m ∧ m < 9223372036854775808) (he : -100 ≤ e ∧ e ≤ 9) (h1 : e < 9) (h2 : m.tmod 10 = 0) : Tri Tryz.prog (loopN (bodyOf Tryz.f127) 0) (trimmed_inv m e) .normal (trimmed_inv (m.tdiv 10) (e + 1)) := by
  exact tri_weak [rG [hhB 1 true, hhB 5 true], rG [hhI 1 (m.tdiv 10)], rG [hhI 1 (e + 1)]]
    (oA (oS (bT h1)) <| oA (oS (show (10 : Int) ≠ 0 from by decide)) <| oA (oS (eqT h2)) <| oA (oS (show (10 : Int) ≠ 0 from by decide)) <| oA (oS (show AV.int .i64 (IntKind.i64.wrap (m.tdiv 10)) = jI (m.tdiv 10) from tdivI (by omega))) <| oWs (e + 1) (by omega))
    (oA (oR [jI (m.tdiv 10), jI (e + 1), jP 0 0]) <| oQ [jC [jI 0, jI 0] 23]) (by kernel_rfl)

theorem trimmed_last (m e : Int) (h : -9223372036854775808 < m ∧ m < 9223372036854775808) (he : -100 ≤ e ∧ e ≤ 9) (h1 : ¬ (e < 9 ∧ m.tmod 10 = 0)) : Tri Tryz.prog (loopN (bodyOf Tryz.f127) 0) (trimmed_inv m e) (.exit 0) (trimmed_inv m e) := by
  by_cases c1 : e < 9
  · have o1 := oA (oS (bT c1)) <| oS (show (10 : Int) ≠ 0 from by decide)
    by_cases c2 : (m.tmod 10) = 0
    · exact absurd ⟨‹_›, ‹_›⟩ h1
    · exact tri_weak [rG [hhB 1 true, hhB 5 false]]
        (oA o1 <| oS (eqF c2))
        (oA (oR [jI m, jI e, jP 0 0]) <| oQ [jC [jI 0, jI 0] 23]) (by kernel_rfl)
  · exact tri_weak [rG [hhB 1 false]]
      (oS (bF c1))
      (oA (oR [jI m, jI e, jP 0 0]) <| oQ [jC [jI 0, jI 0] 23]) (by kernel_rfl)

theorem trimmed_loop : ∀ (n : Nat) (m e : Int), n = (9 - e).toNat → (-9223372036854775808 < m ∧ m < 9223372036854775808) → (-100 ≤ e ∧ e ≤ 9) →
    Tri Tryz.prog (.loop (loopN (bodyOf Tryz.f127) 0)) (trimmed_inv m e) (.exit 0) (trimmed_inv (trimD n m e).1 (trimD n m e).2) := by
  intro n m e hn hm he
  refine tri_loop (ι := {p : Int × Int // (-9223372036854775808 < p.1 ∧ p.1 < 9223372036854775808) ∧ (-100 ≤ p.2 ∧ p.2 ≤ 9) ∧ trimD (9 - p.2).toNat p.1 p.2 = trimD n m e}) (fun i => trimmed_inv i.1.1 i.1.2) (fun i => (9 - i.1.2).toNat) (ne_normal_exit 0) ?_ ⟨(m, e), hm, he, by rw [hn]⟩
  rintro ⟨⟨m', e'⟩, h1, h2, h3⟩
  simp only at h1 h2 h3
  by_cases hc : e' < 9 ∧ m'.tmod 10 = 0
  · have e1 : (9 - e').toNat = (9 - (e' + 1)).toNat + 1 := by omega
    rw [e1, trimD, if_pos hc.2] at h3
    have hb := tdiv_range (y := 10) h1
    exact .inl ⟨⟨(m'.tdiv 10, e' + 1), hb, by simp only; omega, h3⟩, by simp only; omega, trimmed_round m' e' h1 h2 hc.1 hc.2⟩
  · have e1 : trimD (9 - e').toNat m' e' = (m', e') := by
      by_cases h9 : e' = 9
      · rw [h9]; rfl
      · have : (9 - e').toNat = (9 - (e' + 1)).toNat + 1 := by omega
        rw [this, trimD, if_neg (by omega)]
    rw [e1] at h3
    have hx : trimmed_inv m' e' = trimmed_inv (trimD n m e).1 (trimD n m e).2 := by rw [← h3]
    exact .inr (Eq.subst (motive := fun s => Tri _ _ (trimmed_inv m' e') (.exit 0) s) hx (trimmed_last m' e' h1 h2 hc))

theorem trimmed_meets (m e : Int) (h : -9223372036854775808 < m ∧ m < 9223372036854775808) (he : -100 ≤ e ∧ e ≤ 9) : Meets Tryz.prog 127 [jI m, jI e] [] (jA [jI ((trimmedS m e).1), jI ((trimmedS m e).2)]) [] := by
  let q1 : List Orc := [rG [hhN 0 0]]
  by_cases c1 : m = 0
  · exact meets_run (fn := Tryz.f127) 1 (q1 ++ [rG [hhB 1 true], rG [(1, {obj := some [jC [jI 0, jI 0] 23]})]]) [{val := some (jA [jI 0, jI 0])}] Tryz.func127 (by kernel_rfl) Tryz.call127
      (oA (oS (eqT c1)) <| oSw ([jI 0, jI 0]) ([jI 0, jI 0]) 23 (rfl) (rfl))
      (oA (oLw ([jI 0, jI 0]) (rfl)) <| oA (oS (show jA [jI 0, jI 0] = jA [jI ((trimmedS m e).1), jI ((trimmedS m e).2)] from by simp [trimmedS, *])) <| oV (D := (fun n => decide (0 ≤ n))) (jA [jI ((trimmedS m e).1), jI ((trimmedS m e).2)]) rfl) (by kernel_rfl)
  · exact meets_run (fn := Tryz.f127) 1 (q1 ++ [rG [hhB 1 false], .loop (⟨([sI m, sI e, none, none, sP 0 0] ++ nn 17), [some (jC [jI 0, jI 0] 23)]⟩) (.exit 0) (⟨([sI ((trimD (9 - e).toNat m e).1), sI ((trimD (9 - e).toNat m e).2), none, none, sP 0 0] ++ nn 17), [some (jC [jI 0, jI 0] 23)]⟩), rG [hhV 2 (jA [jI ((trimD (9 - e).toNat m e).1), jI ((trimD (9 - e).toNat m e).2)]), (3, {obj := some [jC [jI ((trimD (9 - e).toNat m e).1), jI ((trimD (9 - e).toNat m e).2)] 23]})]]) [{val := some (jA [jI ((trimD (9 - e).toNat m e).1), jI ((trimD (9 - e).toNat m e).2)])}] Tryz.func127 (by kernel_rfl) Tryz.call127
      (oA (oS (eqF c1)) <| oA (oR [jI m, jI e, jP 0 0]) <| oA (oQ [jC [jI 0, jI 0] 23]) <| oA (oS (show Tri Tryz.prog (.loop (loopN (bodyOf Tryz.f127) 0)) (⟨([sI m, sI e, none, none, sP 0 0] ++ nn 17), [some (jC [jI 0, jI 0] 23)]⟩) (.exit 0) (⟨([sI ((trimD (9 - e).toNat m e).1), sI ((trimD (9 - e).toNat m e).2), none, none, sP 0 0] ++ nn 17), [some (jC [jI 0, jI 0] 23)]⟩) from trimmed_loop _ m e rfl h he)) <| oA (oS (show ([jI ((trimD (9 - e).toNat m e).1)] : List AV).length = 1 from rfl)) <| oA (oS (show 0 + 1 ≤ ([jI 0, jI 0] : List AV).length from Nat.le_of_ble_eq_true (by kernel_rfl))) <| oA (oS (show ([jI ((trimD (9 - e).toNat m e).2)] : List AV).length = 1 from rfl)) <| oA (oS (show 1 + 1 ≤ (List.take 0 [jI 0, jI 0] ++ [jI ((trimD (9 - e).toNat m e).1)] ++ List.drop 1 [jI 0, jI 0] : List AV).length from Nat.le_of_ble_eq_true (by kernel_rfl))) <| oA (oS (show AV.agg (List.take 1 (List.take 0 [jI 0, jI 0] ++ [jI ((trimD (9 - e).toNat m e).1)] ++ List.drop 1 [jI 0, jI 0]) ++ [jI ((trimD (9 - e).toNat m e).2)] ++ List.drop 2 (List.take 0 [jI 0, jI 0] ++ [jI ((trimD (9 - e).toNat m e).1)] ++ List.drop 1 [jI 0, jI 0])) = jA [jI ((trimD (9 - e).toNat m e).1), jI ((trimD (9 - e).toNat m e).2)] from by kernel_rfl)) <| oSw ([jI ((trimD (9 - e).toNat m e).1), jI ((trimD (9 - e).toNat m e).2)]) ([jI 0, jI 0]) 23 (rfl) (rfl))
      (oA (oLw ([jI ((trimD (9 - e).toNat m e).1), jI ((trimD (9 - e).toNat m e).2)]) (rfl)) <| oA (oS (show jA [jI ((trimD (9 - e).toNat m e).1), jI ((trimD (9 - e).toNat m e).2)] = jA [jI ((trimmedS m e).1), jI ((trimmedS m e).2)] from by simp [trimmedS, *])) <| oV (D := (fun n => decide (0 ≤ n))) (jA [jI ((trimmedS m e).1), jI ((trimmedS m e).2)]) rfl) (by kernel_rfl)

end Go.Proofs.YtdomenmfkbfakaaGreatDoor.Dq
