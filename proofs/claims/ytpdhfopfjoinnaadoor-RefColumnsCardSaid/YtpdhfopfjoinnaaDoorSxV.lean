/- The symbolic executor, part V: small lemmas for what a run leaves to be shown. -/
import Derived.Test.YtpdhfopfjoinnaaDoorSxU
set_option linter.unusedSimpArgs false
set_option linter.unusedVariables false
namespace Go.Proofs.YtpdhfopfjoinnaaDoor.Sx
open Go

/-- The bodies of a code's loops, in the order of the text. -/
def loopsOf : Code → List Code
  | .loop b => b :: loopsOf b
  | .seq a b => loopsOf a ++ loopsOf b
  | .cond _ a b => loopsOf a ++ loopsOf b
  | .block _ b => loopsOf b
  | .scope b => loopsOf b
  | _ => []
def loopN (c : Code) (i : Nat) : Code := (loopsOf c).getD i .skip

/-- A type's zero value, cell by cell. -/
def zeroCellsA (P : Program) (t : TypeId) : List AV := match zeroA P t with | some z => z.cells | none => []

theorem bT {p : Prop} [Decidable p] (h : p) : AV.bool (decide p) = AV.bool true := by simp [h]
theorem bF {p : Prop} [Decidable p] (h : ¬ p) : AV.bool (decide p) = AV.bool false := by simp [h]
theorem eqT {α : Type} [BEq α] [LawfulBEq α] {a b : α} (h : a = b) : AV.bool (a == b) = AV.bool true := by simp [h]
theorem eqF {α : Type} [BEq α] [LawfulBEq α] {a b : α} (h : ¬ a = b) : AV.bool (a == b) = AV.bool false := by simp [h]
theorem neT {α : Type} [BEq α] [LawfulBEq α] {a b : α} (h : ¬ a = b) : AV.bool (a != b) = AV.bool true := by simp [h]
theorem neF {α : Type} [BEq α] [LawfulBEq α] {a b : α} (h : a = b) : AV.bool (a != b) = AV.bool false := by simp [h]
theorem sneT {α : Type} [BEq α] [LawfulBEq α] {a b : α} (h : ¬ a = b) : AV.bool (!(a == b)) = AV.bool true := by simp [h]
theorem sneF {α : Type} [BEq α] [LawfulBEq α] {a b : α} (h : a = b) : AV.bool (!(a == b)) = AV.bool false := by simp [h]
theorem boolT {b : Bool} (h : b = true) : AV.bool b = AV.bool true := by rw [h]
theorem boolF {b : Bool} (h : ¬ b = true) : AV.bool b = AV.bool false := by cases b <;> simp_all

theorem i64_in {n : Int} (h : -9223372036854775808 ≤ n) (h2 : n < 9223372036854775808) : IntKind.i64.wrap n = n := by
  have e : IntKind.i64.wrap n = (if n % 18446744073709551616 ≥ 9223372036854775808 then n % 18446744073709551616 - 18446744073709551616 else n % 18446744073709551616) := by
    simp [IntKind.wrap, IntKind.bits, IntKind.signed]
  rw [e]; split <;> omega
theorem u8_in {n : Int} (h : 0 ≤ n) (h2 : n < 256) : IntKind.u8.wrap n = n := by
  have e : IntKind.u8.wrap n = n % 256 := by simp [IntKind.wrap, IntKind.bits, IntKind.signed]
  rw [e]; omega
theorem i32_in {n : Int} (h : -2147483648 ≤ n) (h2 : n < 2147483648) : IntKind.i32.wrap n = n := by
  have e : IntKind.i32.wrap n = (if n % 4294967296 ≥ 2147483648 then n % 4294967296 - 4294967296 else n % 4294967296) := by
    simp [IntKind.wrap, IntKind.bits, IntKind.signed]
  rw [e]; split <;> omega
theorem u64_in {n : Int} (h : 0 ≤ n) (h2 : n < 18446744073709551616) : IntKind.u64.wrap n = n := by
  have e : IntKind.u64.wrap n = n % 18446744073709551616 := by simp [IntKind.wrap, IntKind.bits, IntKind.signed]
  rw [e]; omega
theorem u32_in {n : Int} (h : 0 ≤ n) (h2 : n < 4294967296) : IntKind.u32.wrap n = n := by
  have e : IntKind.u32.wrap n = n % 4294967296 := by simp [IntKind.wrap, IntKind.bits, IntKind.signed]
  rw [e]; omega

theorem wI {n z : Int} (h : n = z ∧ -9223372036854775808 ≤ z ∧ z < 9223372036854775808) : AV.int .i64 (IntKind.i64.wrap n) = AV.int .i64 z := by
  rw [h.1, i64_in h.2.1 h.2.2]
theorem w_u8 {n z : Int} (h : n = z ∧ 0 ≤ z ∧ z < 256) : AV.int .u8 (IntKind.u8.wrap n) = AV.int .u8 z := by
  rw [h.1, u8_in h.2.1 h.2.2]
theorem w_i32 {n z : Int} (h : n = z ∧ -2147483648 ≤ z ∧ z < 2147483648) : AV.int .i32 (IntKind.i32.wrap n) = AV.int .i32 z := by
  rw [h.1, i32_in h.2.1 h.2.2]
theorem w_u64 {n z : Int} (h : n = z ∧ 0 ≤ z ∧ z < 18446744073709551616) : AV.int .u64 (IntKind.u64.wrap n) = AV.int .u64 z := by
  rw [h.1, u64_in h.2.1 h.2.2]
theorem w_u32 {n z : Int} (h : n = z ∧ 0 ≤ z ∧ z < 4294967296) : AV.int .u32 (IntKind.u32.wrap n) = AV.int .u32 z := by
  rw [h.1, u32_in h.2.1 h.2.2]
theorem quoI {x y z : Int} (h : 0 ≤ x ∧ 0 < y ∧ x < 9223372036854775808 ∧ x / y = z) : AV.int .i64 (IntKind.i64.wrap (x.tdiv y)) = AV.int .i64 z := by
  obtain ⟨h1, h2, h3, h4⟩ := h
  rw [Int.tdiv_eq_ediv_of_nonneg h1, h4]
  have a : 0 ≤ x / y := Int.ediv_nonneg h1 (by omega)
  have b : x / y ≤ x := Int.ediv_le_self _ h1
  rw [i64_in (by omega) (by omega)]
theorem tdiv_range {x y : Int} (h : -9223372036854775808 < x ∧ x < 9223372036854775808) : -9223372036854775808 < x.tdiv y ∧ x.tdiv y < 9223372036854775808 := by
  have h1 : (x.tdiv y).natAbs = x.natAbs / y.natAbs := Int.natAbs_tdiv x y
  have h3 : (x.tdiv y).natAbs ≤ x.natAbs := h1 ▸ Nat.div_le_self x.natAbs y.natAbs
  clear h1
  generalize x.tdiv y = z at h3 ⊢
  omega
theorem tdivI {x y : Int} (h : -9223372036854775808 < x ∧ x < 9223372036854775808) : AV.int .i64 (IntKind.i64.wrap (x.tdiv y)) = AV.int .i64 (x.tdiv y) := by
  have := tdiv_range (y := y) h
  rw [i64_in (by omega) (by omega)]
theorem remI {x y z : Int} (h : 0 ≤ x ∧ x % y = z) : AV.int .i64 (x.tmod y) = AV.int .i64 z := by
  rw [Int.tmod_eq_emod_of_nonneg h.1, h.2]
theorem intE {k : IntKind} {a b : Int} (h : a = b) : AV.int k a = AV.int k b := by rw [h]
theorem strE {a b : List UInt8} (h : a = b) : AV.str a = AV.str b := by rw [h]
theorem boolE {a b : Bool} (h : a = b) : AV.bool a = AV.bool b := by rw [h]
theorem ptrE {n a b : Nat} (h : a = b) : AV.ptr n a = AV.ptr n b := by rw [h]
theorem vecE {n a b : Nat} (h : a = b) : AV.vec n a = AV.vec n b := by rw [h]
theorem dslE {n a b : Nat} (h : a = b) : AV.dsl n a = AV.dsl n b := by rw [h]
theorem dptrE {n a b : Nat} (h : a = b) : AV.dptr n a = AV.dptr n b := by rw [h]
theorem sliceE {n a b l l' c c' : Nat} (h : a = b) (h1 : l = l') (h2 : c = c') : AV.slice n a l c = AV.slice n b l' c' := by rw [h, h1, h2]
theorem minI {k : IntKind} {x y : Int} : AV.int k (if y < x then y else x) = AV.int k (min x y) := by congr 1; omega
theorem maxI {k : IntKind} {x y : Int} : AV.int k (if y > x then y else x) = AV.int k (max x y) := by congr 1; omega

theorem ints_length {k : IntKind} {l : List Int} : (ints k l).length = l.length := by simp [ints]
theorem u8s_length {l : List UInt8} : (u8s l).length = l.length := by simp [u8s]
theorem ints_get {k : IntKind} {l : List Int} {i : Nat} (h : i < l.length) : (ints k l)[i]? = some (AV.int k (l.getD i 0)) := by
  simp [ints, List.getD, h]
theorem ints_get' {k : IntKind} {l : List Int} {i : Nat} (h : i < l.length) : (ints k l)[i]? = some (AV.int k (l.getD i 0)) := ints_get h
theorem ints_at {k : IntKind} {l : List Int} {i j : Nat} (pre : List AV) (h : j = i + pre.length) (hi : i < l.length) : (pre ++ ints k l)[j]? = some (AV.int k (l.getD i 0)) := by
  rw [h, List.getElem?_append_right (by omega), show i + pre.length - pre.length = i by omega, ints_get hi]
theorem ints_in {k : IntKind} {l : List Int} {i j : Nat} {post : List AV} (pre : List AV) (h : j = i + pre.length) (hi : i < l.length) : (pre ++ (ints k l ++ post))[j]? = some (AV.int k (l.getD i 0)) := by
  rw [h, List.getElem?_append_right (by omega), show i + pre.length - pre.length = i by omega, List.getElem?_append_left (by rw [ints_length]; omega), ints_get hi]
theorem flat1 {α : Type} {a : α} (n : Nat) : (List.replicate n [a]).flatten = List.replicate n a := by
  induction n with
  | zero => rfl
  | succ n ih => rw [List.replicate_succ, List.flatten_cons, ih, List.replicate_succ]; rfl
/-- The tail of a stretch of numbers made zero. -/
theorem clear_ints {k : IntKind} {l us : List Int} {i m j t : Nat} (pre : List AV) (hj : j = i + pre.length) (hl : i + m = l.length) (hu : l.take i ++ List.replicate m 0 = us) :
    AObj.cells (List.take j (pre ++ ints k l) ++ (List.replicate m [AV.int k 0]).flatten ++ List.drop (j + ((List.replicate m [AV.int k 0]).flatten).length) (pre ++ ints k l)) t = AObj.cells (pre ++ ints k us) t := by
  subst hu; subst hj
  rw [flat1, List.length_replicate, List.take_append, List.drop_append, List.take_of_length_le (by omega), List.drop_eq_nil_of_le (by omega)]
  rw [show i + pre.length - pre.length = i by omega, show i + pre.length + m - pre.length = l.length by omega]
  simp only [ints, List.map_append, List.map_take, List.map_replicate]
  rw [List.drop_eq_nil_of_le (by simp)]
  simp
theorem part_at {l : List AV} {n i : Nat} (pre : List AV) (hi : i = pre.length) (h : l.length = n) : List.take n (List.drop i (pre ++ l)) = l := by
  subst hi; subst h
  rw [List.drop_left, List.take_length]
theorem u8s_get {s : List UInt8} {i : Nat} (h : i < s.length) : (u8s s)[i]? = some (AV.int .u8 (((s.getD i 0).toNat : Nat) : Int)) := by
  simp [u8s, List.getD, h]
theorem atT {l : List AV} {n : Nat} {b : Bool} (h : l[n]? = some (AV.bool b)) (hb : b = true) : l[n]? = some (AV.bool true) := by rw [h, hb]
theorem atF {l : List AV} {n : Nat} {b : Bool} (h : l[n]? = some (AV.bool b)) (hb : ¬ b = true) : l[n]? = some (AV.bool false) := by rw [h]; simpa using hb
theorem ints_set {k : IntKind} {l : List Int} {i : Nat} {x : Int} : (ints k l).set i (AV.int k x) = ints k (l.set i x) := by
  simp [ints, List.map_set]
theorem strGet {s : List UInt8} {i : Nat} (h : i < s.length) : Option.map (fun c : UInt8 => (c.toNat : Int)) s[i]? = some ((s.getD i 0).toNat : Int) := by
  simp [List.getD, h]
theorem whole_cells {l : List AV} {n : Nat} (h : l.length = n) : List.take n (List.drop (0 - 0) l) = l := by
  simp [← h]
theorem set_eq {l : List AV} {i : Nat} {v : AV} (h : i < l.length) : List.take i l ++ [v] ++ List.drop (i + 1) l = l.set i v := by
  rw [List.set_eq_take_append_cons_drop, if_pos h]; simp
theorem store_ints {k : IntKind} {l : List Int} {i t : Nat} {x : Int} (pre : List AV) (h : i < l.length) :
    AObj.cells (List.take (i + pre.length) (pre ++ ints k l) ++ [AV.int k x] ++ List.drop (i + pre.length + 1) (pre ++ ints k l)) t = AObj.cells (pre ++ ints k (l.set i x)) t := by
  rw [set_eq (by simp [ints_length]; omega), List.set_append_right _ _ (by omega), show i + pre.length - pre.length = i by omega, ints_set]
theorem store_whole {l v : List AV} {n t : Nat} (h : l.length = n) : AObj.cells (List.take 0 l ++ v ++ List.drop (0 + n) l) t = AObj.cells v t := by
  simp [← h]

theorem renL_ints (r : List Nat) (k : IntKind) (l : List Int) : renL r (ints k l) = ints k l := by
  induction l with
  | nil => rfl
  | cons a l ih => simp only [ints, List.map_cons, renL, AV.ren] at ih ⊢; rw [ih]
theorem renL_u8s (r : List Nat) (l : List UInt8) : renL r (u8s l) = u8s l := by
  induction l with
  | nil => rfl
  | cons a l ih => simp only [u8s, List.map_cons, renL, AV.ren] at ih ⊢; rw [ih]
theorem renL_append (r : List Nat) (a b : List AV) : renL r (a ++ b) = renL r a ++ renL r b := by
  induction a with
  | nil => rfl
  | cons v a ih => simp [renL, ih]

theorem dropOK {s : AState} (D : List Nat) (h : (D.all (freshB s.mem)) = true) : ∀ n, (fun n => D.contains n) n = true → s.mem[n]? = some none := by
  intro n hn
  have := List.all_eq_true.1 h n (by simpa using hn)
  unfold freshB at this
  split at this
  · assumption
  · cases this

/-- What is never written may be told of its first cells alone, and of another one who made it. -/
theorem Fits.flat {m m' : Bool} {cs us : List AV} (h : cs.take us.length = us) : Fits (.flat m cs) (.flat m' us) := fun E w k c ho => by
  obtain ⟨xs, hx, hz, hw⟩ := (sameF_obj (a := .flat m cs) (b := .flat m us) ⟨rfl, h⟩ ho)
  exact ⟨xs, hx, hz, hw⟩
theorem Fits.ints {m m' : Bool} {k : IntKind} {r : List Nat} {l l' : List Int} (h : l.take l'.length = l') : Fits (.flat m (ints k l)) (AObj.ren r (.flat m' (ints k l'))) := by
  simp only [AObj.ren, renL_ints]
  exact Fits.flat (by rw [ints_length]; simp only [Sx.ints, ← List.map_take, h])
theorem Fits.ints' {m m' : Bool} {k : IntKind} {l l' : List Int} (h : l.take l'.length = l') : Fits (.flat m (Sx.ints k l)) (.flat m' (Sx.ints k l')) :=
  Fits.flat (by rw [ints_length]; simp only [Sx.ints, ← List.map_take, h])
theorem Fits.vec_flat {m : Bool} {k : IntKind} {l l' : List Int} {t : TypeId} {sz : Nat} (h : l.take l'.length = l') : Fits (.vec (Sx.ints k l) t sz) (.flat m (Sx.ints k l')) := fun E w b c ho => by
  have hlt := ho.lt rfl rfl
  obtain ⟨xs, ys, hx, ⟨mk, hw, hmk⟩, hl, h1, h2⟩ := ho
  have hob : ObjR E w b c (.flat m (Sx.ints k l)) := ⟨xs, hx, (fun e => by rw [h2] at e; cases e), fun _ => ⟨hlt, fun i x hi => by
    rw [h1, Nat.zero_add, cell_of_block hw]
    have hlt := (List.getElem?_eq_some_iff.1 hi).1
    simp only [List.getElem?_toArray, List.getElem?_append_left hlt, hi]⟩⟩
  exact Fits.ints' (m := m) h E w b c hob
theorem sameF_ints {m : Bool} {k : IntKind} {l l' : List Int} (h : l.take l'.length = l') : sameF (.flat m (ints k l)) (.flat m (ints k l')) :=
  ⟨rfl, by rw [ints_length]; simp only [ints, ← List.map_take, h]⟩
theorem sameF_ren {m : Bool} {k : IntKind} {r : List Nat} {l l' : List Int} (h : l.take l'.length = l') : sameF (.flat m (ints k l)) (AObj.ren r (.flat m (ints k l'))) := by
  simp only [AObj.ren, renL_ints]; exact sameF_ints h

theorem tri_down {P : Program} {body : Code} {ex : Ex} {out : AState} {K : Nat} (inv : Nat → AState) (hex : ex ≠ .normal) (n : Nat) (round : ∀ k, k < n → Tri P body (inv (k + 1)) .normal (inv k) K) (last : Tri P body (inv 0) ex out K) (k : Nat) (hk : k ≤ n) : Tri P (.loop body) (inv k) ex out K :=
  tri_loop (ι := {k : Nat // k ≤ n}) (fun i => inv i.1) (fun i => i.1) hex (fun ⟨k, hk⟩ => by
    cases k with
    | zero => exact .inr last
    | succ k => exact .inl ⟨⟨k, by omega⟩, Nat.lt_succ_self k, round k (by omega)⟩) ⟨k, hk⟩

theorem tri_up {P : Program} {body : Code} {ex : Ex} {out : AState} {K : Nat} (inv : Nat → AState) (hex : ex ≠ .normal) (n : Nat) (round : ∀ k, k < n → Tri P body (inv k) .normal (inv (k + 1)) K) (last : Tri P body (inv n) ex out K) (k : Nat) (hk : k ≤ n) : Tri P (.loop body) (inv k) ex out K :=
  tri_loop (ι := {k : Nat // k ≤ n}) (fun i => inv i.1) (fun i => n - i.1) hex (fun ⟨k, hk⟩ => by
    by_cases e : k = n
    · subst e; exact .inr last
    · exact .inl ⟨⟨k + 1, by omega⟩, by show n - (k + 1) < n - k; omega, round k (by omega)⟩) ⟨k, hk⟩

theorem ne_normal_exit (id : Nat) : Ex.exit id ≠ .normal := by simp
theorem ne_normal_ret : Ex.ret ≠ .normal := by simp

end Go.Proofs.YtpdhfopfjoinnaaDoor.Sx
