/- Digits, and what the decimals' deeds come to: plain mathematics. -/
import Init
set_option linter.unusedVariables false
set_option linter.unusedSimpArgs false
namespace Go.Proofs.YtdomenmfkbfakaaGreatDoor.Dc

/-- The number that digits are, the greatest first. -/
def val (l : List Int) : Int := l.foldl (fun n d => n * 10 + d) 0
def Dig (l : List Int) : Prop := ∀ d ∈ l, 0 ≤ d ∧ d ≤ 9
def digs : Nat → Int → List Int
  | 0, _ => []
  | n + 1, v => digs n (v / 10) ++ [v % 10]

theorem val_nil : val [] = 0 := rfl
theorem val_snoc (l : List Int) (d : Int) : val (l ++ [d]) = val l * 10 + d := by simp [val]
theorem foldl_val (l : List Int) : ∀ a : Int, l.foldl (fun n d => n * 10 + d) a = a * 10 ^ l.length + val l := by
  induction l with
  | nil => intro a; simp [val]
  | cons d l ih =>
    intro a
    have e : val (d :: l) = d * 10 ^ l.length + val l := by
      show l.foldl _ (0 * 10 + d) = _; rw [ih]; simp
    show l.foldl _ (a * 10 + d) = _
    rw [ih, e, List.length_cons, Int.pow_succ]
    rw [Int.add_mul, Int.mul_assoc, Int.mul_comm 10 _]
    omega
theorem val_cons (d : Int) (l : List Int) : val (d :: l) = d * 10 ^ l.length + val l := by
  show l.foldl _ (0 * 10 + d) = _; rw [foldl_val]; simp
theorem val_append (a b : List Int) : val (a ++ b) = val a * 10 ^ b.length + val b := by
  show (a ++ b).foldl _ 0 = _; rw [List.foldl_append, foldl_val]; rfl

theorem pow_pos' (n : Nat) : (0 : Int) < 10 ^ n := Int.pow_pos (by decide)

theorem pow_mono {n m : Nat} (h : n ≤ m) : (10 : Int) ^ n ≤ 10 ^ m := by
  have := Nat.pow_le_pow_right (n := 10) (by decide) h
  exact_mod_cast this

theorem digs_length : ∀ (n : Nat) (v : Int), (digs n v).length = n
  | 0, _ => rfl
  | n + 1, v => by simp [digs, digs_length n]
theorem digs_dig : ∀ (n : Nat) (v : Int), Dig (digs n v)
  | 0, _ => by intro d h; cases h
  | n + 1, v => by
    intro d h
    simp only [digs, List.mem_append, List.mem_singleton] at h
    rcases h with h | h
    · exact digs_dig n _ d h
    · subst h; omega
theorem val_digs : ∀ (n : Nat) (v : Int), 0 ≤ v → v < 10 ^ n → val (digs n v) = v
  | 0, v, h0, h => by simp at h; simp [digs, val]; omega
  | n + 1, v, h0, h => by
    rw [Int.pow_succ] at h
    simp only [digs, val_snoc]
    rw [val_digs n (v / 10) (by omega) (by omega)]
    omega
theorem Dig.cons {d : Int} {l : List Int} (h : Dig (d :: l)) : (0 ≤ d ∧ d ≤ 9) ∧ Dig l := ⟨h d (by simp), fun e he => h e (by simp [he])⟩
theorem Dig.append {a b : List Int} (h : Dig a) (k : Dig b) : Dig (a ++ b) := fun d hd => by
  rcases List.mem_append.1 hd with g | g
  · exact h d g
  · exact k d g
theorem Dig.left {a b : List Int} (h : Dig (a ++ b)) : Dig a := fun d hd => h d (by simp [hd])
theorem Dig.right {a b : List Int} (h : Dig (a ++ b)) : Dig b := fun d hd => h d (by simp [hd])
theorem Dig.take {a : List Int} (h : Dig a) (n : Nat) : Dig (a.take n) := fun d hd => h d (List.mem_of_mem_take hd)
theorem Dig.drop {a : List Int} (h : Dig a) (n : Nat) : Dig (a.drop n) := fun d hd => h d (List.mem_of_mem_drop hd)
theorem Dig.getD {a : List Int} (h : Dig a) (i : Nat) : 0 ≤ a.getD i 0 ∧ a.getD i 0 ≤ 9 := by
  by_cases hi : i < a.length
  · have : a.getD i 0 = a[i] := by simp [List.getD, hi]
    rw [this]; exact h _ (List.getElem_mem hi)
  · have : a.getD i 0 = 0 := by simp [List.getD, List.getElem?_eq_none (by omega : a.length ≤ i)]
    omega
theorem val_bounds : ∀ (l : List Int), Dig l → 0 ≤ val l ∧ val l < 10 ^ l.length
  | [], _ => by simp [val]
  | d :: l, h => by
    obtain ⟨hd, hl⟩ := h.cons
    obtain ⟨h1, h2⟩ := val_bounds l hl
    rw [val_cons, List.length_cons, Int.pow_succ]
    have := pow_pos' l.length
    have h3 : 0 ≤ d * 10 ^ l.length := Int.mul_nonneg hd.1 (by omega)
    have h4 : d * 10 ^ l.length ≤ 9 * 10 ^ l.length := Int.mul_le_mul_of_nonneg_right hd.2 (by omega)
    omega
theorem digs_val' : ∀ (n : Nat) (l : List Int), Dig l → l.length = n → digs n (val l) = l
  | 0, l, h, hn => by rw [List.length_eq_zero_iff.1 hn]; rfl
  | n + 1, l, h, hn => by
    have hne : l ≠ [] := by intro e; rw [e] at hn; simp at hn
    have e : l = l.dropLast ++ [l.getLast hne] := (List.dropLast_concat_getLast hne).symm
    generalize l.dropLast = a at e
    generalize l.getLast hne = d at e
    subst e
    have hd := h.right d (by simp)
    rw [val_snoc, digs, show (val a * 10 + d) / 10 = val a by omega, show (val a * 10 + d) % 10 = d by omega, digs_val' n a h.left (by simpa using hn)]
theorem digs_val {l : List Int} (h : Dig l) : digs l.length (val l) = l := digs_val' _ l h rfl
/-- Digits that are one number are the same. -/
theorem eq_digs {n : Nat} {l : List Int} {v : Int} (h : Dig l) (hl : l.length = n) (hv : val l = v) : l = digs n v := by
  rw [← hv, ← hl, digs_val h]

theorem digs_add : ∀ (b a : Nat) (v : Int), digs (a + b) v = digs a (v / 10 ^ b) ++ digs b v
  | 0, a, v => by simp [digs]
  | b + 1, a, v => by
    rw [← Nat.add_assoc, digs, digs_add b a (v / 10), digs, Int.pow_succ, ← List.append_assoc]
    rw [Int.mul_comm, Int.ediv_ediv_of_nonneg (by decide : (0 : Int) ≤ 10)]
theorem digs_take {n k : Nat} (v : Int) (h : k ≤ n) : (digs n v).take k = digs k (v / 10 ^ (n - k)) := by
  have := digs_add (n - k) k v
  rw [show k + (n - k) = n by omega] at this
  rw [this, List.take_left' (digs_length _ _)]
theorem digs_drop {n k : Nat} (v : Int) (h : k ≤ n) : (digs n v).drop k = digs (n - k) v := by
  have := digs_add (n - k) k v
  rw [show k + (n - k) = n by omega] at this
  rw [this, List.drop_left' (digs_length _ _)]
theorem digs_mod : ∀ (n : Nat) (v : Int), digs n (v % 10 ^ n) = digs n v
  | 0, v => rfl
  | n + 1, v => by
    rw [digs, digs, Int.pow_succ]
    have h1 : v % (10 ^ n * 10) % 10 = v % 10 := Int.emod_emod_of_dvd v (Int.dvd_mul_left _ _)
    have h2 : v % (10 ^ n * 10) / 10 = v / 10 % 10 ^ n := by
      have e : v / (10 ^ n * 10) = v / 10 / 10 ^ n := by rw [Int.ediv_ediv_of_nonneg (by decide : (0 : Int) ≤ 10), Int.mul_comm]
      rw [Int.emod_def, Int.emod_def, e]
      have e2 : (10 ^ n * 10 : Int) * (v / 10 / 10 ^ n) = 10 * (10 ^ n * (v / 10 / 10 ^ n)) := by rw [Int.mul_comm (10 ^ n) 10, Int.mul_assoc]
      rw [e2]
      omega
    rw [h1, h2, digs_mod n]
theorem val_digs_mod (n : Nat) (v : Int) : val (digs n v) = v % 10 ^ n := by
  rw [← digs_mod, val_digs]
  · exact Int.emod_nonneg _ (by have := pow_pos' n; omega)
  · exact Int.emod_lt_of_pos _ (pow_pos' n)
theorem digs_set {n p : Nat} {v d : Int} (hp : p < n) (h0 : 0 ≤ v) (hv : v < 10 ^ p) (hd : 0 ≤ d ∧ d ≤ 9) : (digs n v).set (n - 1 - p) d = digs n (d * 10 ^ p + v) := by
  have e1 := digs_add p (n - p) v
  have e2 := digs_add p (n - p) (d * 10 ^ p + v)
  rw [show n - p + p = n by omega] at e1 e2
  have hpp := pow_pos' p
  have q1 : v / 10 ^ p = 0 := Int.ediv_eq_zero_of_lt h0 hv
  have q2 : (d * 10 ^ p + v) / 10 ^ p = d := by rw [Int.add_comm, Int.add_mul_ediv_right _ _ (by omega), q1]; omega
  have m2 : digs p (d * 10 ^ p + v) = digs p v := by
    rw [← digs_mod p (d * 10 ^ p + v), ← digs_mod p v]
    congr 1
    rw [Int.add_comm, Int.add_mul_emod_self_right]
  rw [e1, e2, q1, q2, m2]
  obtain ⟨m, hm⟩ : ∃ m, n - p = m + 1 := ⟨n - p - 1, by omega⟩
  rw [hm, List.set_append_left _ _ (by rw [digs_length]; omega)]
  congr 1
  rw [digs, digs, show n - 1 - p = m by omega, List.set_append_right _ _ (by rw [digs_length]; omega), digs_length]
  rw [show (0 : Int) / 10 = 0 by decide, show d / 10 = 0 by omega, show d % 10 = d by omega]
  simp

theorem val_zeros (n : Nat) : val (List.replicate n 0) = 0 := by
  induction n with
  | zero => rfl
  | succ n ih => rw [List.replicate_succ, val_cons, ih]; omega
theorem dig_zeros (n : Nat) : Dig (List.replicate n 0) := fun d h => by have := (List.mem_replicate.1 h).2; omega
theorem zeros_digs (n : Nat) : List.replicate n (0 : Int) = digs n 0 := eq_digs (dig_zeros n) (by simp) (val_zeros n)
theorem val_zero_iff {l : List Int} (h : Dig l) : val l = 0 ↔ ∀ d ∈ l, d = 0 := by
  induction l with
  | nil => simp [val]
  | cons d l ih =>
    obtain ⟨hd, hl⟩ := h.cons
    rw [val_cons]
    have := val_bounds l hl
    have hp := pow_pos' l.length
    constructor
    · intro e
      have hd0 : d = 0 := by
        rcases Int.lt_or_le 0 d with g | g
        · have : 1 * 10 ^ l.length ≤ d * 10 ^ l.length := Int.mul_le_mul_of_nonneg_right g (by omega)
          omega
        · omega
      subst hd0
      intro x hx
      rcases List.mem_cons.1 hx with g | g
      · exact g
      · exact (ih hl).1 (by omega) x g
    · intro e
      have h0 := e d (by simp)
      subst h0
      rw [(ih hl).2 fun x hx => e x (by simp [hx])]; omega

/-! ### sums -/
/-- Digits added (or taken away), from the last one on: the new digits, and what is carried. -/
def addS (s : Int) : List Int → List Int → List Int × Int
  | x :: xs, y :: ys => let r := addS s xs ys; ((10 + x + s * y + r.2) % 10 :: r.1, (10 + x + s * y + r.2) / 10 - 1)
  | _, _ => ([], 0)


/-- The digits of one number, the last of them made those of the sum. -/
def addArr (s : Int) (xs ys : List Int) (k : Nat) : List Int := xs.take k ++ (addS s (xs.drop k) (ys.drop k)).1
def addCarry (s : Int) (xs ys : List Int) (k : Nat) : Int := (addS s (xs.drop k) (ys.drop k)).2



/-! ### products with a number -/
def timesS (m : Int) : List Int → List Int × Int
  | x :: xs => let r := timesS m xs; ((x * m + r.2) % 10 :: r.1, (x * m + r.2) / 10)
  | [] => ([], 0)


def timesArr (m : Int) (xs : List Int) (k : Nat) : List Int := xs.take k ++ (timesS m (xs.drop k)).1
def timesCarry (m : Int) (xs : List Int) (k : Nat) : Int := (timesS m (xs.drop k)).2

attribute [irreducible] digs val addArr timesArr addCarry timesCarry

end Go.Proofs.YtdomenmfkbfakaaGreatDoor.Dc
