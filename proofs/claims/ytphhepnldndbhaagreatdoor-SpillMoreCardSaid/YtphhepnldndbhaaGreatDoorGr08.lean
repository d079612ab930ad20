/- Layer 14: the spills of raw places and sizes are right. -/
import Derived.Test.YtphhepnldndbhaaGreatDoorGr07
import Derived.Test.YtphhepnldndbhaaGreatDoorGr06
import Derived.Test.YtphhepnldndbhaaGreatDoorGr05
set_option linter.unusedVariables false
set_option linter.unusedSimpArgs false
set_option linter.unusedSectionVars false
namespace Go.Proofs.YtphhepnldndbhaaGreatDoor
open Go Sx
theorem memK_iff {ks : List (List Int)} {k : List Int} : memK ks k = true ↔ k ∈ ks := by
  unfold memK
  rw [List.any_eq_true]
  exact ⟨fun ⟨x, hx, e⟩ => by rw [eq_of_beq e]; exact hx, fun h => ⟨k, h, beq_self_eq_true k⟩⟩
theorem mem_addK {ks : List (List Int)} {k x : List Int} : x ∈ addK ks k ↔ x ∈ ks ∨ x = k := by
  unfold addK
  cases h : memK ks k with
  | true =>
    show x ∈ ks ↔ _
    exact ⟨.inl, fun h' => h'.elim id fun e => by rw [e]; exact memK_iff.1 h⟩
  | false =>
    show x ∈ ks ++ [k] ↔ _
    rw [List.mem_append, List.mem_singleton]
/-- The key of a place. -/
abbrev keyR (x : List CV) : List Int := [c0 x, c1 x, c2 x]
theorem mem_tkN {C : List (List CV)} {k : List Int} : ∀ n, k ∈ tkN C n ↔ ∃ i, i < n ∧ k = keyR (Sx.rowAt C i)
  | 0 => ⟨(fun h => nomatch h), fun ⟨i, hi, _⟩ => absurd hi (Nat.not_lt_zero i)⟩
  | n + 1 => by
    rw [tkN, mem_addK, mem_tkN n]
    constructor
    · rintro (⟨i, hi, e⟩ | e)
      · exact ⟨i, by omega, e⟩
      · exact ⟨n, by omega, e⟩
    · rintro ⟨i, hi, e⟩
      by_cases h : i = n
      · exact .inr (by rw [← h]; exact e)
      · exact .inl ⟨i, by omega, e⟩
theorem mem_colL {s : Int} {X : List (List CV)} {y : List CV} : ∀ j, y ∈ colL s X j ↔ ∃ i, i < j ∧ y = mkA s (c0 (Sx.rowAt X i)) (c1 (Sx.rowAt X i))
  | 0 => ⟨(fun h => nomatch h), fun ⟨i, hi, _⟩ => absurd hi (Nat.not_lt_zero i)⟩
  | j + 1 => by
    rw [colL, List.mem_append, List.mem_singleton, mem_colL j]
    constructor
    · rintro (⟨i, hi, e⟩ | e)
      · exact ⟨i, by omega, e⟩
      · exact ⟨j, by omega, e⟩
    · rintro ⟨i, hi, e⟩
      by_cases h : i = j
      · exact .inr (by rw [← h]; exact e)
      · exact .inl ⟨i, by omega, e⟩
theorem mem_row {l : List (List CV)} {y : List CV} (h : y ∈ l) : ∃ i, i < l.length ∧ Sx.rowAt l i = y := by
  obtain ⟨i, hi, e⟩ := List.mem_iff_getElem.1 h
  exact ⟨i, hi, by rw [rowAt_get hi]; exact e⟩
/-- The places of the workbook's cells are those of the raw places. -/
def bkC (R : List (List CV)) (a : Nat) : List (List CV) := clL (bkX R a 0) (bkX R a 1)
def bkK (R : List (List CV)) (a : Nat) : List (List Int) := tkN (bkC R a) (bkC R a).length
theorem mem_bkC {R : List (List CV)} {a : Nat} {y : List CV} : y ∈ bkC R a ↔ ∃ i, i < (atsL R (m12 a)).length ∧ y = mkA (c0 (Sx.rowAt (atsL R (m12 a)) i)) (c1 (Sx.rowAt (atsL R (m12 a)) i)) (c2 (Sx.rowAt (atsL R (m12 a)) i)) := by
  unfold bkC clL
  rw [List.mem_append, mem_colL, mem_colL]
  constructor
  · rintro (⟨i, hi, rfl⟩ | ⟨i, hi, rfl⟩)
    · obtain ⟨j, hj, h1, h2⟩ := bkL_mem _ (show Sx.rowAt (bkX R a 0) i ∈ bkX R a 0 by rw [rowAt_get hi]; exact List.getElem_mem hi)
      exact ⟨j, hj, by rw [h2, h1]; rfl⟩
    · obtain ⟨j, hj, h1, h2⟩ := bkL_mem _ (show Sx.rowAt (bkX R a 1) i ∈ bkX R a 1 by rw [rowAt_get hi]; exact List.getElem_mem hi)
      exact ⟨j, hj, by rw [h2, h1]; rfl⟩
  · rintro ⟨i, hi, rfl⟩
    rcases ats01 R (m12 a) i hi with h | h
    · obtain ⟨j, hj, e⟩ := mem_row (show _ ∈ bkX R a 0 from mem_bkL h _ hi)
      exact .inl ⟨j, hj, by rw [e, h]; rfl⟩
    · obtain ⟨j, hj, e⟩ := mem_row (show _ ∈ bkX R a 1 from mem_bkL h _ hi)
      exact .inr ⟨j, hj, by rw [e, h]; rfl⟩
theorem mem_bkK {R : List (List CV)} {a : Nat} {k : List Int} : k ∈ bkK R a ↔ ∃ i, i < (atsL R (m12 a)).length ∧ k = keyR (Sx.rowAt (atsL R (m12 a)) i) := by
  unfold bkK
  rw [mem_tkN]
  constructor
  · rintro ⟨i, hi, rfl⟩
    obtain ⟨j, hj, e⟩ := mem_bkC.1 (show Sx.rowAt (bkC R a) i ∈ bkC R a by rw [rowAt_get hi]; exact List.getElem_mem hi)
    exact ⟨j, hj, by rw [e]; rfl⟩
  · rintro ⟨i, hi, rfl⟩
    obtain ⟨j, hj, e⟩ := mem_row (mem_bkC.2 ⟨i, hi, rfl⟩)
    exact ⟨j, hj, by rw [e]; rfl⟩
-- the spills
theorem spL_mem {A Z : List (List CV)} {z : Nat} {y : List CV} : ∀ j, y ∈ spL A Z z j → ∃ i, i < j ∧ 0 < pickS (c0 (Sx.rowAt Z (i % z))) 6 ∧ y = spR (Sx.rowAt A i) (Sx.rowAt Z (i % z))
  | 0, h => nomatch h
  | j + 1, h => by
    rw [spL] at h
    cases e : decide (pickS (c0 (Sx.rowAt Z (j % z))) 6 > 0) with
    | true =>
      rw [e] at h
      rcases List.mem_append.1 h with h | h
      · obtain ⟨i, hi, h1, h2⟩ := spL_mem j h
        exact ⟨i, by omega, h1, h2⟩
      · exact ⟨j, by omega, of_decide_eq_true e, List.mem_singleton.1 h⟩
    | false =>
      rw [e] at h
      obtain ⟨i, hi, h1, h2⟩ := spL_mem j h
      exact ⟨i, by omega, h1, h2⟩
theorem spL_sorted {A Z : List (List CV)} {z : Nat} (hA : A.Pairwise ltR) : ∀ j, j ≤ A.length → (spL A Z z j).Pairwise ltR
  | 0, _ => List.Pairwise.nil
  | j + 1, hj => by
    have ih := spL_sorted (Z := Z) (z := z) hA j (by omega)
    rw [spL]
    cases decide (pickS (c0 (Sx.rowAt Z (j % z))) 6 > 0) with
    | false => exact ih
    | true =>
      show (spL A Z z j ++ [_]).Pairwise _
      rw [List.pairwise_append]
      refine ⟨ih, List.pairwise_singleton _ _, fun a ha b hb => ?_⟩
      obtain ⟨i, hi, _, rfl⟩ := spL_mem j ha
      rw [List.mem_singleton.1 hb]
      have := pw_at hA (show j < A.length by omega) hi
      rw [ltR_iff] at this
      exact ltR_iff.2 this
theorem spW_sorted (R : List (List CV)) (a : Nat) (Z : List (List CV)) (z : Nat) : (spW R a Z z).Pairwise ltR := by
  unfold spW spA
  cases Nat.beq z 0 with
  | true => exact List.Pairwise.nil
  | false => exact spL_sorted (atsL_sorted R _) _ (Nat.le_refl _)
theorem spW_mem {R : List (List CV)} {a : Nat} {Z : List (List CV)} {z : Nat} {y : List CV} (h : y ∈ spW R a Z z) : ∃ i, i < (atsL R (m12 a)).length ∧ 0 < pickS (c0 (Sx.rowAt Z (i % z))) 6 ∧ y = spR (Sx.rowAt (atsL R (m12 a)) i) (Sx.rowAt Z (i % z)) := by
  unfold spW spA at h
  cases e : Nat.beq z 0 with
  | true => rw [e] at h; nomatch h
  | false => rw [e] at h; exact spL_mem _ h
theorem spW_le (R : List (List CV)) (a : Nat) (Z : List (List CV)) (z : Nat) : (spW R a Z z).length ≤ 12 := by
  have hk := atsL_le R (m12 a)
  have h12 : m12 a ≤ 12 := Nat.min_le_right ..
  have := spL_le (atsL R (m12 a)) Z z (atsL R (m12 a)).length
  unfold spW spA
  cases Nat.beq z 0 with
  | true => exact Nat.zero_le _
  | false => show (spL _ _ _ _).length ≤ 12; omega
/-- What is known of each of them. -/
theorem spW_row {R : List (List CV)} {a : Nat} {Z : List (List CV)} {z : Nat} {y : List CV} (h : y ∈ spW R a Z z) : (∃ i, i < (atsL R (m12 a)).length ∧ keyR y = keyR (Sx.rowAt (atsL R (m12 a)) i)) ∧ y = mkS (c0 y) (c1 y) (c2 y) (c3 y) (c4 y) ∧ (0 ≤ c0 y ∧ c0 y < 2) ∧ (0 ≤ c1 y ∧ c1 y < 200) ∧ (0 ≤ c2 y ∧ c2 y < 52) ∧ (1 ≤ c3 y ∧ c3 y ≤ 5) ∧ 1 ≤ c4 y ∧ c4 y ≤ 5 := by
  obtain ⟨i, hi, h0, rfl⟩ := spW_mem h
  obtain ⟨x, e⟩ := atsL_in R (m12 a) hi
  obtain ⟨p1, p2, p3, p4, p5, p6⟩ := plA_in x
  have q1 := pickS_in (c := c0 (Sx.rowAt Z (i % z))) (n := 6) (by decide)
  have q2 := pickS_in (c := c1 (Sx.rowAt Z (i % z))) (n := 5) (by decide)
  have ew : w64 (1 + pickS (c1 (Sx.rowAt Z (i % z))) 5) = 1 + pickS (c1 (Sx.rowAt Z (i % z))) 5 := w64_of (inI_iff.2 ⟨by omega, by omega⟩)
  refine ⟨⟨i, hi, rfl⟩, rfl, ?_⟩
  show (0 ≤ c0 (Sx.rowAt (atsL R (m12 a)) i) ∧ _) ∧ (0 ≤ c1 (Sx.rowAt (atsL R (m12 a)) i) ∧ _) ∧ (0 ≤ c2 (Sx.rowAt (atsL R (m12 a)) i) ∧ _) ∧ (1 ≤ pickS (c0 (Sx.rowAt Z (i % z))) 6 ∧ _) ∧ 1 ≤ w64 (1 + pickS (c1 (Sx.rowAt Z (i % z))) 5) ∧ w64 (1 + pickS (c1 (Sx.rowAt Z (i % z))) 5) ≤ 5
  rw [e, ew]
  show (0 ≤ c0 (plA x) ∧ c0 (plA x) < 2) ∧ (0 ≤ c1 (plA x) ∧ c1 (plA x) < 200) ∧ (0 ≤ c2 (plA x) ∧ c2 (plA x) < 52) ∧ (1 ≤ pickS (c0 (Sx.rowAt Z (i % z))) 6 ∧ pickS (c0 (Sx.rowAt Z (i % z))) 6 ≤ 5) ∧ _
  omega
theorem row_mem {l : List (List CV)} {j : Nat} (h : j < l.length) : Sx.rowAt l j ∈ l := by rw [rowAt_get h]; exact List.getElem_mem h
theorem own_okS (R : List (List CV)) (a : Nat) (Z : List (List CV)) (z : Nat) : okS (spW R a Z z) (bkK R a) := by
  refine ⟨by have := spW_le R a Z z; omega, fun j hj => ?_⟩
  obtain ⟨⟨i, hi, e⟩, _, _, _, _, h3, h4⟩ := spW_row (row_mem hj)
  refine ⟨⟨by omega, by omega⟩, ⟨by omega, by omega⟩, memK_iff.2 (mem_bkK.2 ⟨i, hi, e⟩), fun k hk => ?_⟩
  subst hk
  exact cmP_of (ltR_iff.1 (pw_at (spW_sorted R a Z z) hj (by omega)))
theorem own_okT (R : List (List CV)) (a : Nat) (Z : List (List CV)) (z : Nat) : okT (spW R a Z z) := by
  refine ⟨by have := spW_le R a Z z; omega, fun j hj => ?_⟩
  obtain ⟨_, _, _, h1, h2, h3, h4⟩ := spW_row (row_mem hj)
  exact ⟨⟨by omega, by omega⟩, ⟨by omega, by omega⟩, inI_iff.2 ⟨by omega, by omega⟩, inI_iff.2 ⟨by omega, by omega⟩⟩
end Go.Proofs.YtphhepnldndbhaaGreatDoor

/- Layer 14: which spill has a place (spill.Cover). -/
set_option linter.unusedVariables false
set_option linter.unusedSimpArgs false
set_option linter.unusedSectionVars false
namespace Go.Proofs.YtphhepnldndbhaaGreatDoor
open Go Sx
noncomputable abbrev loopV : Code := (loopBodies (bodyOf Tryz.f18)).headD .skip
def tCv : Tab := [(23, eHas)]
theorem tCv_ok : TabOK Tryz.prog tCv := .cons eHas_ok .nil
abbrev kV : Nat → Bool := fun n => hasN [3, 4, 8, 9, 10] n
abbrev kVX : Nat → Bool := fun n => hasN [4, 5] n
section
variable (L : List (List CV)) (x : List CV) (n : Nat) (i s r c : Int)
def sV : PState := ⟨nn 3 ++ (some (.ptr 1 0) :: some (.ptr 2 0) :: nn 3 ++ (some (.vec 0 n) :: some (.int .i64 (n : Int)) :: some (.int .i64 i) :: nn 10)), some (vS L) :: some (oA3 s r c) :: some (oS5 0 0 0 0 0) :: nn 64⟩
def sVX : PState := ⟨nn 4 ++ (some (.ptr 1 0) :: nn 16), some (vS L) :: some (oS5 0 0 0 0 0) :: nn 64⟩
def sVR : PState := ⟨nn 4 ++ (some (.ptr 1 0) :: some (.bool true) :: nn 15), some (vS L) :: some (oS5 (c0 x) (c1 x) (c2 x) (c3 x) (c4 x)) :: nn 64⟩
abbrev hasR (x : List CV) (s r c : Int) : Bool := hasB (c0 x) (c1 x) (c2 x) (c3 x) (c4 x) s r c
theorem rV : code (ent Tryz.prog tCv nolv 64 1 20) Tryz.prog {} 1 64 1 loopV (sV L n i s r c) (endK 1 64 kV kVX)
  = bcond (decide (i < (n : Int))) (chks (bcond (hasR (Sx.rowAt L i.toNat) s r c) (some (.ret, sVR L (Sx.rowAt L i.toNat))) (some (.normal, sV L n (up1 i) s r c))) (ckR L n i)) (some (.exit 0, sVX L)) := by kernel_rfl
end
/-- The first number, of so many, that has it. -/
def firstN (f : Nat → Bool) : Nat → Nat
  | 0 => 0
  | n + 1 => bcond (decide (firstN f n < n)) (firstN f n) (bcond (f n) n (n + 1))
theorem firstN_spec (f : Nat → Bool) : ∀ n, firstN f n ≤ n ∧ (∀ i, i < firstN f n → f i = false) ∧ (firstN f n < n → f (firstN f n) = true)
  | 0 => ⟨Nat.le_refl _, fun i hi => absurd hi (Nat.not_lt_zero i), fun h => absurd h (Nat.not_lt_zero _)⟩
  | n + 1 => by
    obtain ⟨h1, h2, h3⟩ := firstN_spec f n
    rw [firstN]
    by_cases h : firstN f n < n
    · rw [decide_eq_true h]
      exact ⟨by show firstN f n ≤ n + 1; omega, h2, fun _ => h3 h⟩
    · rw [decide_eq_false h]
      have e : firstN f n = n := by omega
      cases hf : f n with
      | true => exact ⟨Nat.le_succ n, fun i hi => h2 i (by have : i < n := hi; omega), fun _ => hf⟩
      | false => exact ⟨Nat.le_refl _, fun i hi => by
          have hi : i < n + 1 := hi
          by_cases e' : i = n
          · rw [e']; exact hf
          · exact h2 i (by omega), fun h => absurd h (Nat.lt_irrefl _)⟩
def covN (L : List (List CV)) (s r c : Int) : Nat := firstN (fun j => hasR (Sx.rowAt L j) s r c) L.length
section
variable {L : List (List CV)} {s r c : Int}
theorem nextV (hl : L.length ≤ 1000) {j : Nat} (hj : j < L.length) (h : hasR (Sx.rowAt L j) s r c = false) : Tri Tryz.prog loopV (sV L L.length (j : Int) s r c).toA .normal (sV L L.length ((j + 1 : Nat) : Int) s r c).toA 1 :=
  n_sound tCv_ok ((rV L L.length (j : Int) s r c).trans (by rw [bcT (decide_eq_true (by omega)), chks_true (ckR_ok hj), Int.toNat_natCast, bcF h, up1_nat (by omega)]))
theorem loopVV (hl : L.length ≤ 1000) : (decide (covN L s r c < L.length) = true → Tri Tryz.prog (.loop loopV) (sV L L.length 0 s r c).toA .ret (sVR L (Sx.rowAt L (covN L s r c))).toA 1) ∧ (decide (covN L s r c < L.length) = false → Tri Tryz.prog (.loop loopV) (sV L L.length 0 s r c).toA (.exit 0) (sVX L).toA 1) := by
  have key := firstN_spec (fun j => hasR (Sx.rowAt L j) s r c) L.length
  have h1 : covN L s r c ≤ L.length := key.1
  have h2 : ∀ i, i < covN L s r c → hasR (Sx.rowAt L i) s r c = false := key.2.1
  have h3 : covN L s r c < L.length → hasR (Sx.rowAt L (covN L s r c)) s r c = true := key.2.2
  clear key
  refine ⟨fun h => ?_, fun h => ?_⟩
  · have h := of_decide_eq_true h
    refine tri_up (body := loopV) (fun j => (sV L L.length (j : Int) s r c).toA) (fun e => by cases e) (covN L s r c) (fun k hk => nextV hl (by omega) (h2 k hk)) ?_ 0 (Nat.zero_le _)
    exact n_sound tCv_ok ((rV L L.length (covN L s r c : Int) s r c).trans (by rw [bcT (decide_eq_true (by omega)), chks_true (ckR_ok h), Int.toNat_natCast, bcT (h3 h)]))
  · have h := of_decide_eq_false h
    have e : covN L s r c = L.length := by omega
    refine tri_up (body := loopV) (fun j => (sV L L.length (j : Int) s r c).toA) (fun e => by cases e) L.length (fun k hk => nextV hl hk (h2 k (by omega))) ?_ 0 (Nat.zero_le _)
    exact n_sound tCv_ok ((rV L L.length (L.length : Int) s r c).trans (by rw [bcF (decide_eq_false (by omega))]))
end
noncomputable def lvV (L : List (List CV)) (s r c : Int) (x : List CV) (ok b : Bool) : FuncId → Lv := lvOf 18 (fun _ => some [3, 4, 8, 9, 10]) (oneL 2 (eAt 1 (sV L L.length 0 s r c) (.chk ok (.br b (.out .ret (sVR L x)) (.out (.exit 0) (sVX L))))))
abbrev cvV (x : List CV) : AV := .tuple [.agg [.int .i64 (c0 x), .int .i64 (c1 x), .int .i64 (c2 x), .int .i64 (c3 x), .int .i64 (c4 x)], .bool true]
abbrev cvN : AV := .tuple [.agg [.int .i64 0, .int .i64 0, .int .i64 0, .int .i64 0, .int .i64 0], .bool false]
theorem cv_nil (s r c : Int) : Comes tCv nolv 18 [.nilslice, .agg [.int .i64 s, .int .i64 r, .int .i64 c]] [] (.ret cvN []) := by unfold Comes; kernel_rfl
theorem cv_vec (L : List (List CV)) (s r c : Int) (x : List CV) (ok b : Bool) : Comes tCv (lvV L s r c x ok b) 18 [.vec 0 L.length, .agg [.int .i64 s, .int .i64 r, .int .i64 c]] [vS L]
  (.chk (eqSt (sV L L.length 0 s r c) (sV L L.length 0 s r c)) (.chk ok (.br b (.ret (cvV x) [vS L]) (.ret cvN [vS L])))) := by unfold Comes; kernel_rfl
def eCov : Ent := fun args pre => match args, pre with
  | [.nilslice, .agg [.int .i64 s, .int .i64 r, .int .i64 c]], [] => .ret cvN []
  | [.vec j n, .agg [.int .i64 s, .int .i64 r, .int .i64 c]], [.vecR sh L ty] => .chk (Nat.beq j 0 && shEq sh shS && Nat.beq ty 27) (.chk (Nat.beq n L.length) (.chk (decide (L.length ≤ 1000)) (.br (decide (covN L s r c < L.length)) (.ret (cvV (Sx.rowAt L (covN L s r c))) [.vecR sh L ty]) (.ret cvN [.vecR sh L ty]))))
  | _, _ => .fail
theorem eCov_ok : EntOK Tryz.prog 18 eCov := fun args pre => by
  unfold eCov
  split
  · exact meets_ent (pre := []) (post := []) tCv_ok host (cv_nil _ _ _) nolv_ok
  · rename_i j n s r c sh L ty
    refine ⟨fun g0 => ⟨fun g1 => ⟨fun g2 => ?_, fun _ => trivial⟩, fun _ => trivial⟩, fun _ => trivial⟩
    simp only [Bool.and_eq_true, beqT] at g0
    obtain ⟨⟨rfl, g⟩, rfl⟩ := g0
    obtain rfl := shEq_of g
    obtain rfl := beqT.1 g1
    have key := loopVV (L := L) (s := s) (r := r) (c := c) (of_decide_eq_true g2)
    refine ⟨fun hb => ?_, fun hb => ?_⟩
    · refine meets_ent (pre := [vS L]) (post := [vS L]) tCv_ok host ((cv_vec L s r c (Sx.rowAt L (covN L s r c)) true true).trans ?_) (lvOne_ok (x := loopV) Tryz.func18 (by kernel_rfl) fun K t => eAt_ok (a := .chk true (.br true (.out .ret (sVR L (Sx.rowAt L (covN L s r c)))) (.out (.exit 0) (sVX L)))) ⟨fun _ => ⟨fun _ => key.1 hb, fun e => by cases e⟩, fun _ => trivial⟩ K t)
      rw [chkT (eqSt_refl _), chkT rfl, brT rfl]; rfl
    · refine meets_ent (pre := [vS L]) (post := [vS L]) tCv_ok host ((cv_vec L s r c (Sx.rowAt L (covN L s r c)) true false).trans ?_) (lvOne_ok (x := loopV) Tryz.func18 (by kernel_rfl) fun K t => eAt_ok (a := .chk true (.br false (.out .ret (sVR L (Sx.rowAt L (covN L s r c)))) (.out (.exit 0) (sVX L)))) ⟨fun _ => ⟨(fun e => by cases e), fun _ => key.2 hb⟩, fun _ => trivial⟩ K t)
      rw [chkT (eqSt_refl _), chkT rfl, brF rfl]; rfl
  · trivial
end Go.Proofs.YtphhepnldndbhaaGreatDoor

/- Layer 14: areas that are placed have no place in common. -/
set_option linter.unusedVariables false
set_option linter.unusedSimpArgs false
set_option linter.unusedSectionVars false
namespace Go.Proofs.YtphhepnldndbhaaGreatDoor
open Go Sx
/-- A place of an area, by its numbers. -/
def inA (x : List CV) (k : List Int) : Prop := ∃ i j : Nat, i < (c3 x).toNat ∧ j < (c4 x).toNat ∧ k = keyI (c0 x) (c1 x) (c2 x) (i : Int) (j : Int)
theorem mem_addR {s r c : Int} {i : Nat} {ks : List (List Int)} {k : List Int} : ∀ W, k ∈ addR s r c i ks W ↔ k ∈ ks ∨ ∃ j : Nat, j < W ∧ k = keyI s r c (i : Int) (j : Int)
  | 0 => ⟨.inl, fun h => h.elim id fun ⟨j, hj, _⟩ => absurd hj (Nat.not_lt_zero j)⟩
  | W + 1 => by
    rw [addR, mem_addK, mem_addR W]
    constructor
    · rintro ((h | ⟨j, hj, e⟩) | e)
      · exact .inl h
      · exact .inr ⟨j, by omega, e⟩
      · exact .inr ⟨W, by omega, e⟩
    · rintro (h | ⟨j, hj, e⟩)
      · exact .inl (.inl h)
      · by_cases h : j = W
        · exact .inr (by rw [← h]; exact e)
        · exact .inl (.inr ⟨j, by omega, e⟩)
theorem mem_addA {s r c : Int} {W : Nat} {ks : List (List Int)} {k : List Int} : ∀ H, k ∈ addA s r c W ks H ↔ k ∈ ks ∨ ∃ i j : Nat, i < H ∧ j < W ∧ k = keyI s r c (i : Int) (j : Int)
  | 0 => ⟨.inl, fun h => h.elim id fun ⟨i, j, hi, _⟩ => absurd hi (Nat.not_lt_zero i)⟩
  | H + 1 => by
    rw [addA, mem_addR, mem_addA H]
    constructor
    · rintro ((h | ⟨i, j, hi, hj, e⟩) | ⟨j, hj, e⟩)
      · exact .inl h
      · exact .inr ⟨i, j, by omega, hj, e⟩
      · exact .inr ⟨H, j, by omega, hj, e⟩
    · rintro (h | ⟨i, j, hi, hj, e⟩)
      · exact .inl (.inl h)
      · by_cases h : i = H
        · exact .inr ⟨j, hj, by rw [← h]; exact e⟩
        · exact .inl (.inr ⟨i, j, by omega, hj, e⟩)
theorem anyN_false {f : Nat → Bool} {n : Nat} (h : anyN f n = false) {j : Nat} (hj : j < n) : f j = false := anyN_none h j hj
/-- No place of the area is taken, but its own. -/
theorem hit_none {ks : List (List Int)} {x : List CV} (h : hitA ks (c0 x) (c1 x) (c2 x) (c3 x).toNat (c4 x).toNat (c0 x) (c1 x) (c2 x) = false) {k : List Int} (hk : inA x k) (hm : k ∈ ks) : k = keyR x := by
  obtain ⟨i, j, hi, hj, rfl⟩ := hk
  have h1 := anyN_false (anyN_false h hi) hj
  unfold hitI at h1
  rw [memK_iff.2 hm, Bool.true_and, Bool.not_eq_false'] at h1
  unfold ownB at h1
  simp only [Bool.and_eq_true, beq_iff_eq, Bool.and_true] at h1
  obtain ⟨_, e2, e3⟩ := h1
  unfold keyI keyR
  rw [e2, e3]
theorem rwL_nat (L : List (List CV)) (j : Nat) : rwL L (j : Int) = Sx.rowAt L j := by unfold rwL; rw [Int.toNat_natCast]
/-- After so many spills: what was taken at first is; each placed one is one of the list, its area on the sheet and taken; no two of them have a place in common. -/
structure Good (L : List (List CV)) (ks0 : List (List Int)) (j : Nat) (S : PlS) : Prop where
  old : ∀ k ∈ ks0, k ∈ S.ks
  rows : ∀ y ∈ S.P, ∃ i, i < j ∧ y = spL1 L (i : Int) ∧ arL L (i : Int) = true
  taken : ∀ y ∈ S.P, ∀ k, inA y k → k ∈ S.ks
  free : ∀ y ∈ S.P, ∀ k, inA y k → k ∈ ks0 → k = keyR y
  apart : S.P.Pairwise fun x y => ∀ k, inA x k → ¬ inA y k
theorem good_all {L : List (List CV)} {ks0 : List (List Int)} (hs : L.Pairwise ltR) (hk : ∀ i, i < L.length → keyR (Sx.rowAt L i) ∈ ks0) : ∀ j, j ≤ L.length → Good L ks0 j (plN L ks0 j)
  | 0, _ => ⟨fun k h => h, (fun y h => nomatch h), (fun y h => nomatch h), (fun y h => nomatch h), List.Pairwise.nil⟩
  | j + 1, hj => by
    have ih := good_all hs hk j (by omega)
    rw [plN]
    have keep : ∀ B, Good L ks0 (j + 1) ⟨(plN L ks0 j).P, B, (plN L ks0 j).ks⟩ := fun B => ⟨ih.old, fun y h => by
      obtain ⟨i, hi, e⟩ := ih.rows y h
      exact ⟨i, by omega, e⟩, ih.taken, ih.free, ih.apart⟩
    cases ha : arL L (j : Int) with
    | false => exact keep _
    | true =>
      rw [bcF (b := !true) rfl]
      cases hh : hitL L (plN L ks0 j).ks (j : Int) with
      | true => exact keep _
      | false =>
        rw [bcF (b := false) rfl]
        unfold hitL at hh
        have hn : ∀ k, inA (rwL L (j : Int)) k → k ∈ (plN L ks0 j).ks → k = keyR (rwL L (j : Int)) := fun k h1 h2 => hit_none hh h1 h2
        have eA : ∀ k, inA (spL1 L (j : Int)) k ↔ inA (rwL L (j : Int)) k := fun k => Iff.rfl
        have add : ∀ k, k ∈ addL L (plN L ks0 j).ks (j : Int) ↔ k ∈ (plN L ks0 j).ks ∨ inA (rwL L (j : Int)) k := fun k => mem_addA _
        refine ⟨fun k h => (add k).2 (.inl (ih.old k h)), fun y h => ?_, fun y h k h1 => ?_, fun y h k h1 h2 => ?_, ?_⟩
        · rcases List.mem_append.1 h with h | h
          · obtain ⟨i, hi, e⟩ := ih.rows y h
            exact ⟨i, by omega, e⟩
          · exact ⟨j, by omega, List.mem_singleton.1 h, ha⟩
        · rcases List.mem_append.1 h with h | h
          · exact (add k).2 (.inl (ih.taken y h k h1))
          · rw [List.mem_singleton.1 h] at h1
            exact (add k).2 (.inr h1)
        · rcases List.mem_append.1 h with h | h
          · exact ih.free y h k h1 h2
          · rw [List.mem_singleton.1 h] at h1 ⊢
            exact hn k h1 (ih.old k h2)
        · show (_ ++ [_]).Pairwise _
          rw [List.pairwise_append]
          refine ⟨ih.apart, List.pairwise_singleton _ _, fun x hx y hy k h1 h2 => ?_⟩
          rw [List.mem_singleton.1 hy] at h2
          have e := hn k h2 (ih.taken x hx k h1)
          obtain ⟨i, hi, ex, _⟩ := ih.rows x hx
          have hk0 : k ∈ ks0 := by rw [e, rwL_nat]; exact hk j (by omega)
          have e2 := ih.free x hx k h1 hk0
          rw [e2, ex] at e
          have e : keyR (rwL L (i : Int)) = keyR (rwL L (j : Int)) := e
          rw [rwL_nat, rwL_nat] at e
          have lt := ltR_iff.1 (pw_at hs (show j < L.length by omega) hi)
          simp only [keyR, List.cons.injEq, and_true] at e
          omega
end Go.Proofs.YtphhepnldndbhaaGreatDoor

/- Layer 14: the examples: closed calls. -/
set_option linter.unusedVariables false
set_option linter.unusedSimpArgs false
set_option linter.unusedSectionVars false
namespace Go.Proofs.YtphhepnldndbhaaGreatDoor
open Go Sx
def tAk : Tab := [(88, eRsh), (90, eAlk), (40, eInp)]
theorem tAk_ok : TabOK Tryz.prog tAk := .cons eRsh_ok (.cons eAlk_ok (.cons eInp_ok .nil))
abbrev o6 : PObj := .raw (.cells [.int .i64 0, .int .i64 0, .int .i64 0, .int .i64 0, .int .i64 2, .int .i64 1] 25)
abbrev akX : List (List CV) := [mkC 0 0, mkC 2 1]
theorem ak_b : Comes tAk nolv 11 [.slice 0 0 2 2] [o6] (.ret bkV [o6, oSh (.vec 2 2) .nilslice, vC akX]) := by unfold Comes; kernel_rfl
abbrev o10 (a b c d e f g h i j : Int) : PObj := .raw (.cells [.int .i64 a, .int .i64 b, .int .i64 c, .int .i64 d, .int .i64 e, .int .i64 f, .int .i64 g, .int .i64 h, .int .i64 i, .int .i64 j] 27)
theorem ak_4 : Comes tAk nolv 14 [.agg [.nilslice, .nilslice, .nilslice, .nilslice], .nilslice] [] (.ret (.tuple [.nilslice, .nilslice, .int .i64 96]) []) := by unfold Comes; kernel_rfl
theorem ak_3 : Comes tAk nolv 14 [bkW, .slice 1 0 2 2] [oSh (.vec 2 2) .nilslice, o10 0 2 1 9 9 0 0 0 2 2, vC akX] (.ret (.tuple [.nilslice, .nilslice, .int .i64 140]) [oSh (.vec 2 2) .nilslice, o10 0 2 1 9 9 0 0 0 2 2, vC akX]) := by unfold Comes; kernel_rfl
end Go.Proofs.YtphhepnldndbhaaGreatDoor

/- Layer 14: the examples: closed calls of Place. -/
set_option linter.unusedVariables false
set_option linter.unusedSimpArgs false
set_option linter.unusedSectionVars false
namespace Go.Proofs.YtphhepnldndbhaaGreatDoor
open Go Sx
/-- places.In, chosen by how many rows the area has. -/
noncomputable def eInC (e9 e0 : Ent) : Ent := fun args pre => match pre with
  | _ :: .raw (.cells (_ :: _ :: _ :: .int _ h :: _) _) :: _ => cond (h == 9) (e9 args pre) (e0 args pre)
  | _ => .fail
theorem eInC_ok {e9 e0 : Ent} (h9 : EntOK Tryz.prog 47 e9) (h0 : EntOK Tryz.prog 47 e0) : EntOK Tryz.prog 47 (eInC e9 e0) := fun args pre => by
  unfold eInC
  split
  · rename_i hh _ _ _
    cases hh == 9 with
    | true => exact h9 args _
    | false => exact h0 args _
  · trivial
def akK : List (List Int) := [[0, 0, 0], [0, 2, 1]]
def akL : List (List CV) := [mkS 0 0 0 2 2, mkS 0 2 1 9 9]
def akW : List (List CV) := [mkS 0 0 0 3 2, mkS 0 2 1 9 9]
noncomputable def tAk1 : Tab := (47, eInC (eIn (addL akL akK 0) [] 0 2 1 9 9 0 2 1 9 9) (eIn akK [] 0 0 0 2 2 0 0 0 2 2)) :: tAk
theorem tAk1_ok : TabOK Tryz.prog tAk1 := .cons (eInC_ok (eIn_ok _ _ _ _ _ _ _ _ _ _ _ _) (eIn_ok _ _ _ _ _ _ _ _ _ _ _ _)) tAk_ok
noncomputable def tAk2 : Tab := (47, eInC (eIn akK [mkA 0 0 0] 0 2 1 9 9 0 2 1 9 9) (eIn akK [] 0 0 0 3 2 0 0 0 3 2)) :: tAk
theorem tAk2_ok : TabOK Tryz.prog tAk2 := .cons (eInC_ok (eIn_ok _ _ _ _ _ _ _ _ _ _ _ _) (eIn_ok _ _ _ _ _ _ _ _ _ _ _ _)) tAk_ok
theorem ak_1 : Comes tAk1 nolv 14 [bkW, .slice 1 0 2 2] [oSh (.vec 2 2) .nilslice, o10 0 0 0 2 2 0 2 1 9 9, vC akX] (.chk (ckIn akL akK 0) (.chk (ckIm akL akK 0) (.chk (ckIn akL (addL akL akK 0) 1) (.chk (ckIm akL (addL akL akK 0) 1) (.ret (plV (.vec 3 2) .nilslice) [oSh (.vec 2 2) .nilslice, o10 0 0 0 2 2 0 2 1 9 9, vC akX, vS [mkS 0 0 0 2 2, mkS 0 2 1 9 9]]))))) := by unfold Comes; kernel_rfl
end Go.Proofs.YtphhepnldndbhaaGreatDoor

/- Layer 14: the examples: closed calls of Place. -/
set_option linter.unusedVariables false
set_option linter.unusedSimpArgs false
set_option linter.unusedSectionVars false
namespace Go.Proofs.YtphhepnldndbhaaGreatDoor
open Go Sx
theorem ak_2 : Comes tAk2 nolv 14 [bkW, .slice 1 0 2 2] [oSh (.vec 2 2) .nilslice, o10 0 0 0 3 2 0 2 1 9 9, vC akX] (.chk (ckIn akW akK 0) (.chk (ckIv akW [mkA 0 0 0] akK 1) (.chk (ckIm akW akK 1) (.ret (plV (.vec 3 1) (.vec 4 1)) [oSh (.vec 2 2) .nilslice, o10 0 0 0 3 2 0 2 1 9 9, vC akX, vS [mkS 0 2 1 9 9], vA [mkA 0 0 0]])))) := by unfold Comes; kernel_rfl
end Go.Proofs.YtphhepnldndbhaaGreatDoor

/- Layer 14: the examples (awake). -/
set_option linter.unusedVariables false
set_option linter.unusedSimpArgs false
set_option linter.unusedSectionVars false
namespace Go.Proofs.YtphhepnldndbhaaGreatDoor
open Go Sx
open Classical in
/-- One closed call. -/
noncomputable def eOne (f : FuncId) (a : List AV) (p : List PObj) (r : AV) (q : List PObj) : Ent := fun args pre => .chk (decide ((args = a ∧ pre = p) ∧ Meets Tryz.prog f a (p.map PObj.toA) r (q.map PObj.toA))) (.ret r q)
open Classical in
theorem eOne_ok {f : FuncId} (a : List AV) (p : List PObj) (r : AV) (q : List PObj) : EntOK Tryz.prog f (eOne f a p r q) := fun args pre => by
  unfold eOne
  refine ⟨fun g => ?_, fun _ => trivial⟩
  obtain ⟨⟨rfl, rfl⟩, h⟩ := of_decide_eq_true g
  exact h
open Classical in
noncomputable def ckOne (f : FuncId) (a : List AV) (p : List PObj) (r : AV) (q : List PObj) : Bool := decide ((a = a ∧ p = p) ∧ Meets Tryz.prog f a (p.map PObj.toA) r (q.map PObj.toA))
abbrev fB : FuncId := 11
abbrev fP : FuncId := 14
abbrev oK : PObj := oSh (.vec 2 2) .nilslice
abbrev n4 : AV := .agg [.nilslice, .nilslice, .nilslice, .nilslice]
noncomputable def eAkP : Ent := fun args pre => match pre with
  | _ :: .raw (.cells (_ :: _ :: _ :: .int _ h :: _) _) :: _ => cond (h == 9) (eOne fP [bkW, .slice 1 0 2 2] [oK, o10 0 2 1 9 9 0 0 0 2 2, vC akX] (.tuple [.nilslice, .nilslice, .int .i64 140]) [oK, o10 0 2 1 9 9 0 0 0 2 2, vC akX] args pre)
    (cond (h == 3) (eOne fP [bkW, .slice 1 0 2 2] [oK, o10 0 0 0 3 2 0 2 1 9 9, vC akX] (plV (.vec 3 1) (.vec 4 1)) [oK, o10 0 0 0 3 2 0 2 1 9 9, vC akX, vS [mkS 0 2 1 9 9], vA [mkA 0 0 0]] args pre)
      (eOne fP [bkW, .slice 1 0 2 2] [oK, o10 0 0 0 2 2 0 2 1 9 9, vC akX] (plV (.vec 3 2) .nilslice) [oK, o10 0 0 0 2 2 0 2 1 9 9, vC akX, vS [mkS 0 0 0 2 2, mkS 0 2 1 9 9]] args pre))
  | [] => eOne fP [n4, .nilslice] [] (.tuple [.nilslice, .nilslice, .int .i64 96]) [] args pre
  | _ => .fail
theorem eAkP_ok : EntOK Tryz.prog fP eAkP := fun args pre => by
  unfold eAkP
  split
  · rename_i hh _ _ _
    cases hh == 9 with
    | true => exact eOne_ok _ _ _ _ args _
    | false => cases hh == 3 with
      | true => exact eOne_ok _ _ _ _ args _
      | false => exact eOne_ok _ _ _ _ args _
  · exact eOne_ok _ _ _ _ args _
  · trivial
noncomputable def tAkA : Tab := [(fB, eOne fB [.slice 0 0 2 2] [o6] bkV [o6, oK, vC akX]), (fP, eAkP), (18, eCov)]
theorem tAkA_ok : TabOK Tryz.prog tAkA := .cons (eOne_ok _ _ _ _) (.cons eAkP_ok (.cons eCov_ok .nil))
theorem ak_run : Comes tAkA nolv 10 [] [] (.chk (ckOne fB [.slice 0 0 2 2] [o6] bkV [o6, oK, vC akX])
  (.chk (ckOne fP [bkW, .slice 1 0 2 2] [oK, o10 0 0 0 2 2 0 2 1 9 9, vC akX] (plV (.vec 3 2) .nilslice) [oK, o10 0 0 0 2 2 0 2 1 9 9, vC akX, vS [mkS 0 0 0 2 2, mkS 0 2 1 9 9]])
  (.chk (ckOne fP [bkW, .slice 1 0 2 2] [oK, o10 0 0 0 3 2 0 2 1 9 9, vC akX] (plV (.vec 3 1) (.vec 4 1)) [oK, o10 0 0 0 3 2 0 2 1 9 9, vC akX, vS [mkS 0 2 1 9 9], vA [mkA 0 0 0]])
  (.chk (ckOne fP [bkW, .slice 1 0 2 2] [oK, o10 0 2 1 9 9 0 0 0 2 2, vC akX] (.tuple [.nilslice, .nilslice, .int .i64 140]) [oK, o10 0 2 1 9 9 0 0 0 2 2, vC akX])
  (.chk (ckOne fP [n4, .nilslice] [] (.tuple [.nilslice, .nilslice, .int .i64 96]) []) (.ret (.bool true) [])))))) := by unfold Comes; kernel_rfl
end Go.Proofs.YtphhepnldndbhaaGreatDoor

/- Layer 14: the examples are so (awake). -/
set_option linter.unusedVariables false
set_option linter.unusedSimpArgs false
set_option linter.unusedSectionVars false
namespace Go.Proofs.YtphhepnldndbhaaGreatDoor
open Go Sx
open Classical in
theorem ckIn_lit {L : List (List CV)} {ks : List (List Int)} {i : Int} (h : (0 ≤ c3 (rwL L i) ∧ c3 (rwL L i) ≤ 1000) ∧ 0 ≤ c4 (rwL L i) ∧ c4 (rwL L i) ≤ 1000) : ckIn L ks i = true ∧ ckIm L ks i = true := by
  unfold ckIn ckIm
  exact ⟨decide_eq_true ⟨⟨rfl, rfl⟩, h⟩, decide_eq_true ⟨⟨rfl, rfl⟩, h⟩⟩
open Classical in
theorem ckIv_lit {L B : List (List CV)} {ks : List (List Int)} {i : Int} (h : (0 ≤ c3 (rwL L i) ∧ c3 (rwL L i) ≤ 1000) ∧ 0 ≤ c4 (rwL L i) ∧ c4 (rwL L i) ≤ 1000) (hB : B.length ≤ 1000) : ckIv L B ks i = true := by
  unfold ckIv
  exact decide_eq_true ⟨⟨rfl, rfl⟩, h.1, h.2, hB⟩
theorem akL0 : (0 ≤ c3 (rwL akL 0) ∧ c3 (rwL akL 0) ≤ 1000) ∧ 0 ≤ c4 (rwL akL 0) ∧ c4 (rwL akL 0) ≤ 1000 := by
  show (0 ≤ (2 : Int) ∧ (2 : Int) ≤ 1000) ∧ 0 ≤ (2 : Int) ∧ (2 : Int) ≤ 1000; omega
theorem akL1 : (0 ≤ c3 (rwL akL 1) ∧ c3 (rwL akL 1) ≤ 1000) ∧ 0 ≤ c4 (rwL akL 1) ∧ c4 (rwL akL 1) ≤ 1000 := by
  show (0 ≤ (9 : Int) ∧ (9 : Int) ≤ 1000) ∧ 0 ≤ (9 : Int) ∧ (9 : Int) ≤ 1000; omega
theorem akW0 : (0 ≤ c3 (rwL akW 0) ∧ c3 (rwL akW 0) ≤ 1000) ∧ 0 ≤ c4 (rwL akW 0) ∧ c4 (rwL akW 0) ≤ 1000 := by
  show (0 ≤ (3 : Int) ∧ (3 : Int) ≤ 1000) ∧ 0 ≤ (2 : Int) ∧ (2 : Int) ≤ 1000; omega
theorem akW1 : (0 ≤ c3 (rwL akW 1) ∧ c3 (rwL akW 1) ≤ 1000) ∧ 0 ≤ c4 (rwL akW 1) ∧ c4 (rwL akW 1) ≤ 1000 := by
  show (0 ≤ (9 : Int) ∧ (9 : Int) ≤ 1000) ∧ 0 ≤ (9 : Int) ∧ (9 : Int) ≤ 1000; omega
open Classical in
theorem ckOne_ok {f : FuncId} {a : List AV} {p : List PObj} {r : AV} {q : List PObj} (h : Meets Tryz.prog f a (p.map PObj.toA) r (q.map PObj.toA)) : ckOne f a p r q = true := by
  unfold ckOne
  exact decide_eq_true ⟨⟨rfl, rfl⟩, h⟩
theorem awake_meets : Meets Tryz.prog 10 [] [] (.bool true) [] := by
  have h1 : ckOne fB [.slice 0 0 2 2] [o6] bkV [o6, oK, vC akX] = true := ckOne_ok (meets_ent (pre := [o6]) (post := [o6, oK, vC akX]) tAk_ok host ak_b nolv_ok)
  have h2 := ckOne_ok (meets_ent (f := fP) (pre := [oK, o10 0 0 0 2 2 0 2 1 9 9, vC akX]) (post := [oK, o10 0 0 0 2 2 0 2 1 9 9, vC akX, vS [mkS 0 0 0 2 2, mkS 0 2 1 9 9]]) tAk1_ok host (ak_1.trans (by rw [chkT (ckIn_lit akL0).1, chkT (ckIn_lit akL0).2, chkT (ckIn_lit akL1).1, chkT (ckIn_lit akL1).2]; rfl)) nolv_ok)
  have h3 := ckOne_ok (meets_ent (f := fP) (pre := [oK, o10 0 0 0 3 2 0 2 1 9 9, vC akX]) (post := [oK, o10 0 0 0 3 2 0 2 1 9 9, vC akX, vS [mkS 0 2 1 9 9], vA [mkA 0 0 0]]) tAk2_ok host (ak_2.trans (by rw [chkT (ckIn_lit akW0).1, chkT (ckIv_lit akW1 (by decide)), chkT (ckIn_lit akW1).2]; rfl)) nolv_ok)
  have h4 := ckOne_ok (meets_ent (f := fP) (pre := [oK, o10 0 2 1 9 9 0 0 0 2 2, vC akX]) (post := [oK, o10 0 2 1 9 9 0 0 0 2 2, vC akX]) tAk_ok host ak_3 nolv_ok)
  have h5 := ckOne_ok (meets_ent (f := fP) (pre := []) (post := []) tAk_ok host ak_4 nolv_ok)
  refine meets_ent (pre := []) (post := []) tAkA_ok host (ak_run.trans ?_) nolv_ok
  rw [chkT h1, chkT h2, chkT h3, chkT h4, chkT h5]; rfl
def eAwk : Ent := fun args pre => match args, pre with
  | [], [] => .ret (.bool true) []
  | _, _ => .fail
theorem eAwk_ok : EntOK Tryz.prog 10 eAwk := fun args pre => by
  unfold eAwk
  split
  · exact awake_meets
  · trivial
end Go.Proofs.YtphhepnldndbhaaGreatDoor

/- Layer 14: the head that the laws share. -/
set_option linter.unusedVariables false
set_option linter.unusedSimpArgs false
set_option linter.unusedSectionVars false
namespace Go.Proofs.YtphhepnldndbhaaGreatDoor
open Go Sx
open Classical in
/-- spill.Place of a law's workbook and spills: what is placed, what is blocked. -/
noncomputable def ePla (P B : List (List CV)) : Ent := fun args pre => .chk (decide (Meets Tryz.prog fP args (pre.map PObj.toA) (plV (plR pre.length P) (clR (pre.length + (plO P).length) B)) ((pre ++ plO P ++ clO B).map PObj.toA)))
  (.br (isNil P) (.br (isNil B) (.ret (plV .nilslice .nilslice) pre) (.ret (plV .nilslice (.vec pre.length B.length)) (pre ++ [vA B]))) (.br (isNil B) (.ret (plV (.vec pre.length P.length) .nilslice) (pre ++ [vS P])) (.ret (plV (.vec pre.length P.length) (.vec (pre.length + 1) B.length)) (pre ++ [vS P, vA B]))))
open Classical in
theorem ePla_ok (P B : List (List CV)) : EntOK Tryz.prog fP (ePla P B) := fun args pre => by
  unfold ePla
  refine ⟨fun g => ?_, fun _ => trivial⟩
  have g := of_decide_eq_true g
  cases P with
  | nil => cases B with
    | nil =>
      have e : pre ++ plO [] ++ clO [] = pre := by simp [plO, clO]
      rw [e] at g
      exact ⟨fun _ => ⟨fun _ => g, (fun e => by cases e)⟩, (fun e => by cases e)⟩
    | cons y B =>
      have e : pre ++ plO [] ++ clO (y :: B) = pre ++ [vA (y :: B)] := by simp [plO, clO]
      rw [e] at g
      exact ⟨fun _ => ⟨(fun e => by cases e), fun _ => g⟩, (fun e => by cases e)⟩
  | cons x P => cases B with
    | nil =>
      have e : pre ++ plO (x :: P) ++ clO [] = pre ++ [vS (x :: P)] := by simp [plO, clO]
      rw [e] at g
      exact ⟨(fun e => by cases e), fun _ => ⟨fun _ => g, (fun e => by cases e)⟩⟩
    | cons y B =>
      have e : pre ++ plO (x :: P) ++ clO (y :: B) = pre ++ [vS (x :: P), vA (y :: B)] := by simp [plO, clO]
      rw [e] at g
      exact ⟨(fun e => by cases e), fun _ => ⟨(fun e => by cases e), fun _ => g⟩⟩
end Go.Proofs.YtphhepnldndbhaaGreatDoor

/- Layer 14: SpillCover: its head. -/
set_option linter.unusedVariables false
set_option linter.unusedSimpArgs false
set_option linter.unusedSectionVars false
namespace Go.Proofs.YtphhepnldndbhaaGreatDoor
open Go Sx
noncomputable def tHd (P B : List (List CV)) : Tab := [(10, eAwk), (fB, eBk), (12, eSpl), (fP, ePla P B)]
theorem tHd_ok (P B : List (List CV)) : TabOK Tryz.prog (tHd P B) := .cons eAwk_ok (.cons eBk_ok (.cons eSpl_ok (.cons (ePla_ok P B) .nil)))
open Classical in
noncomputable def ckPl (P B : List (List CV)) (args : List AV) (pre : List PObj) : Bool := decide (Meets Tryz.prog fP args (pre.map PObj.toA) (plV (plR pre.length P) (clR (pre.length + (plO P).length) B)) ((pre ++ plO P ++ clO B).map PObj.toA))
section
variable (R Z P B : List (List CV)) (a z : Nat) (s r c : Int)
def sHd (pl : AV) (t : List (Option PObj)) : PState := ⟨nn 5 ++ (some (.ptr 2 0) :: none :: some (.bool true) :: some pl :: none :: some (.int .i64 0) :: nn 96), some (fA R) :: some (fZ Z) :: some (oA3 s r c) :: (t ++ nn 64)⟩
noncomputable def lfHd (ck : Bool) : Option (Ex × PState) := chks (bcond (isNil P) (bcond (isNil B) (some (.normal, sHd R Z s r c .nilslice [])) (some (.normal, sHd R Z s r c .nilslice []))) (bcond (isNil B) (some (.normal, sHd R Z s r c (.vec 3 P.length) [some (vS P)])) (some (.normal, sHd R Z s r c (.vec 3 P.length) [some (vS P)])))) [ck]
open Classical in
noncomputable def owHd (p0 p1 : List PObj) : Option (Ex × PState) := chks (bcond (isNil (spW R a Z z)) (lfHd R Z P B s r c (ckPl P B [bkW, .nilslice] p0)) (lfHd R Z P B s r c (ckPl P B [bkW, .vec 1 (spW R a Z z).length] p1))) [decide (okA a R ∧ okZ z Z)]
open Classical in
theorem hd_cover : runsC (ent Tryz.prog (tHd P B) nolv 64 1 20) Tryz.prog {} 2 64 1 (endK 2 64 (fun n => hasN [5, 7, 8, 10] n) (fun n => hasN [] n)) 3 (bodyOf Tryz.f8) (startP 107 [.dsl 0 a, .dsl 1 z, .agg [.int .i64 s, .int .i64 r, .int .i64 c]] [fA R, fZ Z] 64)
  = chks (bcond (isNil (bkX R a 0)) (bcond (isNil (bkX R a 1)) (owHd R Z P B a z s r c [oSh .nilslice .nilslice] [oSh .nilslice .nilslice, vS (spW R a Z z)]) (owHd R Z P B a z s r c [oSh .nilslice (.vec 1 (bkX R a 1).length), vC (bkX R a 1)] [oSh .nilslice (.vec 2 (bkX R a 1).length), vS (spW R a Z z), vC (bkX R a 1)]))
    (bcond (isNil (bkX R a 1)) (owHd R Z P B a z s r c [oSh (.vec 1 (bkX R a 0).length) .nilslice, vC (bkX R a 0)] [oSh (.vec 2 (bkX R a 0).length) .nilslice, vS (spW R a Z z), vC (bkX R a 0)]) (owHd R Z P B a z s r c [oSh (.vec 1 (bkX R a 0).length) (.vec 2 (bkX R a 1).length), vC (bkX R a 0), vC (bkX R a 1)] [oSh (.vec 2 (bkX R a 0).length) (.vec 3 (bkX R a 1).length), vS (spW R a Z z), vC (bkX R a 0), vC (bkX R a 1)]))) [decide (okA a R)] := by kernel_rfl
end
end Go.Proofs.YtphhepnldndbhaaGreatDoor

/- Layer 14: the head that the laws share: what it comes to. -/
set_option linter.unusedVariables false
set_option linter.unusedSimpArgs false
set_option linter.unusedSectionVars false
namespace Go.Proofs.YtphhepnldndbhaaGreatDoor
open Go Sx
/-- What is placed, what is blocked, of a law's raw places and sizes. -/
def lwP (R : List (List CV)) (a : Nat) (Z : List (List CV)) (z : Nat) : List (List CV) := plP (bkC R a) (spW R a Z z)
def lwB (R : List (List CV)) (a : Nat) (Z : List (List CV)) (z : Nat) : List (List CV) := plB (bkC R a) (spW R a Z z)
def plM : List (List CV) → List (Option PObj)
  | [] => []
  | P => [some (vS P)]
open Classical in
theorem ckPl_ok {P B : List (List CV)} {args : List AV} {pre : List PObj} (h : Meets Tryz.prog fP args (pre.map PObj.toA) (plV (plR pre.length P) (clR (pre.length + (plO P).length) B)) ((pre ++ plO P ++ clO B).map PObj.toA)) : ckPl P B args pre = true := by
  unfold ckPl
  exact decide_eq_true h
theorem lfHd_ok (R Z P B : List (List CV)) (s r c : Int) : lfHd R Z P B s r c true = some (.normal, sHd R Z s r c (plR 3 P) (plM P)) := by
  unfold lfHd
  rw [chks_true (all1 rfl)]
  cases P <;> cases B <;> rfl
open Classical in
/-- Each of the eight calls of Place meets what is told. -/
theorem owHd_ok {R Z : List (List CV)} {a z : Nat} {s r c : Int} {p0 p1 : List PObj} (hA : okA a R) (hZ : okZ z Z)
    (h0 : spW R a Z z = [] → Meets Tryz.prog fP [bkW, .nilslice] (p0.map PObj.toA) (plV .nilslice .nilslice) (p0.map PObj.toA))
    (h1 : spW R a Z z ≠ [] → Meets Tryz.prog fP [bkW, .vec 1 (spW R a Z z).length] (p1.map PObj.toA) (plV (plR p1.length (lwP R a Z z)) (clR (p1.length + (plO (lwP R a Z z)).length) (lwB R a Z z))) ((p1 ++ plO (lwP R a Z z) ++ clO (lwB R a Z z)).map PObj.toA)) :
    owHd R Z (lwP R a Z z) (lwB R a Z z) a z s r c p0 p1 = some (.normal, sHd R Z s r c (plR 3 (lwP R a Z z)) (plM (lwP R a Z z))) := by
  unfold owHd
  rw [chks_true (all1 (decide_eq_true ⟨hA, hZ⟩))]
  by_cases hw : spW R a Z z = []
  · have eP : lwP R a Z z = [] := by unfold lwP plP; rw [hw]; rfl
    have eB : lwB R a Z z = [] := by unfold lwB plB; rw [hw]; rfl
    have ck : ckPl (lwP R a Z z) (lwB R a Z z) [bkW, .nilslice] p0 = true := ckPl_ok (by
      rw [eP, eB]
      have e : p0 ++ plO [] ++ clO [] = p0 := by simp [plO, clO]
      rw [e]; exact h0 hw)
    rw [ck, bcT (b := isNil (spW R a Z z)) (by rw [hw]; rfl)]
    exact lfHd_ok ..
  · have hn : isNil (spW R a Z z) = false := by
      cases h : spW R a Z z with
      | nil => exact absurd h hw
      | cons x l => rfl
    rw [bcF hn, ckPl_ok (h1 hw)]
    exact lfHd_ok ..
open Classical in
theorem hd_done {R Z : List (List CV)} {a z : Nat} {s r c : Int} (hA : okA a R) (hZ : okZ z Z) : runsC (ent Tryz.prog (tHd (lwP R a Z z) (lwB R a Z z)) nolv 64 1 20) Tryz.prog {} 2 64 1 (endK 2 64 (fun n => hasN [5, 7, 8, 10] n) (fun n => hasN [] n)) 3 (bodyOf Tryz.f8) (startP 107 [.dsl 0 a, .dsl 1 z, .agg [.int .i64 s, .int .i64 r, .int .i64 c]] [fA R, fZ Z] 64)
    = some (.normal, sHd R Z s r c (plR 3 (lwP R a Z z)) (plM (lwP R a Z z))) := by
  have hb := book_ok R a
  have hs := own_okS R a Z z
  have ht := own_okT R a Z z
  have eP : lwP R a Z z = plP (clL (bkX R a 0) (bkX R a 1)) (spW R a Z z) := rfl
  have eB : lwB R a Z z = plB (clL (bkX R a 0) (bkX R a 1)) (spW R a Z z) := rfl
  have hs : okS (spW R a Z z) (tkN (clL (bkX R a 0) (bkX R a 1)) (clL (bkX R a 0) (bkX R a 1)).length) := hs
  rw [hd_cover, chks_true (all1 (decide_eq_true hA))]
  cases h0 : bkX R a 0 with
  | nil => cases h1 : bkX R a 1 with
    | nil =>
      rw [h0, h1] at hs
      refine owHd_ok hA hZ (fun _ => pn_0) fun hw => ?_
      exfalso
      cases hl : spW R a Z z with
      | nil => exact hw hl
      | cons x l =>
        have := (hs.2 0 (by rw [hl]; exact Nat.succ_pos _)).2.2.1
        rw [memK_iff] at this
        exact nomatch (mem_tkN _).1 this
    | cons y Y =>
      rw [h0, h1] at hs hb eP eB
      refine owHd_ok hA hZ (fun _ => pn_y hb) fun hw => ?_
      rw [eP, eB]; exact pm_y hb hs ht
  | cons x X => cases h1 : bkX R a 1 with
    | nil =>
      rw [h0, h1] at hs hb eP eB
      refine owHd_ok hA hZ (fun _ => pn_x hb) fun hw => ?_
      rw [eP, eB]; exact pm_x hb hs ht
    | cons y Y =>
      rw [h0, h1] at hs hb eP eB
      refine owHd_ok hA hZ (fun _ => pn_b hb) fun hw => ?_
      rw [eP, eB]; exact pm_b hb hs ht
end Go.Proofs.YtphhepnldndbhaaGreatDoor

/- Layer 14: SpillCover: behind its head. -/
set_option linter.unusedVariables false
set_option linter.unusedSimpArgs false
set_option linter.unusedSectionVars false
namespace Go.Proofs.YtphhepnldndbhaaGreatDoor
open Go Sx
def tCo : Tab := [(18, eCov), (23, eHas), (13, ePick)]
theorem tCo_ok : TabOK Tryz.prog tCo := .cons eCov_ok (.cons eHas_ok (.cons ePick_ok .nil))
noncomputable abbrev loopZ : Code := (loopBodies (bodyOf Tryz.f8)).headD .skip
section
variable (R Z P : List (List CV)) (n : Nat) (i m s r c u0 u1 u2 u3 u4 : Int) (b : Bool)
/-- The loop's head; its end; left early. -/
def sZ (i m : Int) : PState := ⟨nn 7 ++ (some (.bool true) :: some (.vec 2 n) :: none :: none :: some (.ptr 3 0) :: some (.ptr 4 0) :: some (.bool b) :: some (.int .i64 m) :: some (.int .i64 i) :: nn 91), some (fA R) :: some (fZ Z) :: some (vS P) :: some (oA3 s r c) :: some (oS5 u0 u1 u2 u3 u4) :: nn 64⟩
def sZX (m : Int) : PState := ⟨nn 7 ++ (some (.bool true) :: nn 4 ++ (some (.ptr 2 0) :: some (.bool b) :: some (.int .i64 m) :: nn 92)), some (fA R) :: some (fZ Z) :: some (oS5 u0 u1 u2 u3 u4) :: nn 64⟩
end
abbrev kZ : Nat → Bool := fun n => hasN [7, 8, 11, 12, 13, 14, 15] n
abbrev kZX : Nat → Bool := fun n => hasN [7, 12, 13, 14] n
def eqS (u0 u1 u2 u3 u4 : Int) (x : List CV) : Bool := (u0 == c0 x && (u1 == c1 x && (u2 == c2 x && true))) && (u3 == c3 x && (u4 == c4 x && true))
section
variable (R Z P : List (List CV)) (n : Nat) (i m s r c u0 u1 u2 u3 u4 : Int) (b : Bool)
def ownC : Nat := covN P (c0 (Sx.rowAt P i.toNat)) (c1 (Sx.rowAt P i.toNat)) (c2 (Sx.rowAt P i.toNat))
def tailZ (m : Int) : Option (Ex × PState) := chks (bcond (decide (ownC P i < P.length)) (chks (bcond (!eqS (c0 (Sx.rowAt P (ownC P i))) (c1 (Sx.rowAt P (ownC P i))) (c2 (Sx.rowAt P (ownC P i))) (c3 (Sx.rowAt P (ownC P i))) (c4 (Sx.rowAt P (ownC P i))) (Sx.rowAt P i.toNat)) (some (.ret, sZX R Z u0 u1 u2 u3 u4 b m)) (some (.normal, sZ R Z P n s r c u0 u1 u2 u3 u4 b (up1 i) m))) [ixN i n, inR i P]) (some (.ret, sZX R Z u0 u1 u2 u3 u4 b m))) [ixN i n, inR i P, Nat.beq n P.length, decide (P.length ≤ 1000)]
theorem rZ : code (ent Tryz.prog tCo nolv 64 1 20) Tryz.prog {} 2 64 1 loopZ (sZ R Z P n s r c u0 u1 u2 u3 u4 b i m) (endK 2 64 kZ kZX)
  = bcond (decide (i < (n : Int))) (chks (bcond (hasR (Sx.rowAt P i.toNat) s r c) (chks (bcond (!eqS u0 u1 u2 u3 u4 (Sx.rowAt P i.toNat)) (some (.ret, sZX R Z u0 u1 u2 u3 u4 b (up1 m))) (tailZ R Z P n i s r c u0 u1 u2 u3 u4 b (up1 m))) [ixN i n, inR i P]) (tailZ R Z P n i s r c u0 u1 u2 u3 u4 b m)) [ixN i n, inR i P]) (some (.exit 0, sZX R Z u0 u1 u2 u3 u4 b m)) := by kernel_rfl
end
end Go.Proofs.YtphhepnldndbhaaGreatDoor

/- Layer 14: SpillCover: its loop. -/
set_option linter.unusedVariables false
set_option linter.unusedSimpArgs false
set_option linter.unusedSectionVars false
namespace Go.Proofs.YtphhepnldndbhaaGreatDoor
open Go Sx
/-- How many of the first ones have the place. -/
def cntN (P : List (List CV)) (s r c : Int) : Nat → Nat
  | 0 => 0
  | j + 1 => bcond (hasR (Sx.rowAt P j) s r c) (cntN P s r c j + 1) (cntN P s r c j)
theorem cntN_le (P : List (List CV)) (s r c : Int) : ∀ j, cntN P s r c j ≤ j
  | 0 => Nat.le_refl _
  | j + 1 => by
    have := cntN_le P s r c j
    rw [cntN]
    cases hasR (Sx.rowAt P j) s r c <;> simp only [bcond] <;> omega
theorem eqS_self (x : List CV) : eqS (c0 x) (c1 x) (c2 x) (c3 x) (c4 x) x = true := by unfold eqS; simp
section
variable {R Z P : List (List CV)} {s r c u0 u1 u2 u3 u4 : Int} {b : Bool}
theorem tailZ_ok (hl : P.length ≤ 1000) {j : Nat} (hj : j < P.length) (ho : covN P (c0 (Sx.rowAt P j)) (c1 (Sx.rowAt P j)) (c2 (Sx.rowAt P j)) = j) (m : Int) : tailZ R Z P P.length (j : Int) s r c u0 u1 u2 u3 u4 b m = some (.normal, sZ R Z P P.length s r c u0 u1 u2 u3 u4 b (up1 (j : Int)) m) := by
  have e : ownC P (j : Int) = j := by unfold ownC; rw [Int.toNat_natCast]; exact ho
  have ck : ∀ x ∈ [ixN (j : Int) P.length, inR (j : Int) P], x = true := all2 (ixN_nat hj) (inR_nat hj)
  unfold tailZ
  rw [e, chks_true (by
    intro x hx
    simp only [List.mem_cons, List.not_mem_nil, or_false] at hx
    rcases hx with rfl | rfl | rfl | rfl
    · exact ixN_nat hj
    · exact inR_nat hj
    · exact Nat.beq_refl _
    · exact decide_eq_true hl), bcT (decide_eq_true hj), chks_true ck, Int.toNat_natCast, eqS_self, bcF (b := !true) rfl]
theorem loopZZ (hl : P.length ≤ 1000) (ho : ∀ j, j < P.length → covN P (c0 (Sx.rowAt P j)) (c1 (Sx.rowAt P j)) (c2 (Sx.rowAt P j)) = j) (hu : ∀ j, j < P.length → hasR (Sx.rowAt P j) s r c = true → eqS u0 u1 u2 u3 u4 (Sx.rowAt P j) = true) :
    Tri Tryz.prog (.loop loopZ) (sZ R Z P P.length s r c u0 u1 u2 u3 u4 b 0 0).toA (.exit 0) (sZX R Z u0 u1 u2 u3 u4 b (cntN P s r c P.length : Nat)).toA 2 := by
  refine tri_up (body := loopZ) (fun j => (sZ R Z P P.length s r c u0 u1 u2 u3 u4 b (j : Int) ((cntN P s r c j : Nat) : Int)).toA) (fun e => by cases e) P.length (fun j hj => ?_) ?_ 0 (Nat.zero_le _)
  · have hc := cntN_le P s r c j
    have ck : ∀ x ∈ [ixN (j : Int) P.length, inR (j : Int) P], x = true := all2 (ixN_nat hj) (inR_nat hj)
    refine n_sound tCo_ok ((rZ R Z P P.length (j : Int) ((cntN P s r c j : Nat) : Int) s r c u0 u1 u2 u3 u4 b).trans ?_)
    rw [bcT (decide_eq_true (by omega)), chks_true ck, Int.toNat_natCast, tailZ_ok hl hj (ho j hj), tailZ_ok hl hj (ho j hj), up1_nat (show j < 1099511627776 by omega), up1_nat (show cntN P s r c j < 1099511627776 by omega)]
    rw [cntN]
    cases h : hasR (Sx.rowAt P j) s r c with
    | true => rw [bcT rfl, chks_true ck, hu j hj h]; rfl
    | false => rfl
  · refine n_sound tCo_ok ((rZ R Z P P.length (P.length : Int) ((cntN P s r c P.length : Nat) : Int) s r c u0 u1 u2 u3 u4 b).trans ?_)
    rw [bcF (decide_eq_false (by omega))]
end
end Go.Proofs.YtphhepnldndbhaaGreatDoor

/- Layer 14: what is known of each spill that is placed: its area, and that it is the only one of its places. -/
set_option linter.unusedVariables false
set_option linter.unusedSimpArgs false
set_option linter.unusedSectionVars false
namespace Go.Proofs.YtphhepnldndbhaaGreatDoor
open Go Sx
/-- An area on its sheet. -/
def Fits (y : List CV) : Prop := (0 ≤ c0 y ∧ c0 y < 2) ∧ (0 ≤ c1 y ∧ c1 y + c3 y ≤ 200) ∧ (0 ≤ c2 y ∧ c2 y + c4 y ≤ 52) ∧ (1 ≤ c3 y ∧ c3 y ≤ 5) ∧ 1 ≤ c4 y ∧ c4 y ≤ 5
/-- A place within it. -/
def Within (y : List CV) (s r c : Int) : Prop := c0 y = s ∧ (c1 y ≤ r ∧ r < c1 y + c3 y) ∧ c2 y ≤ c ∧ c < c2 y + c4 y
theorem w64_small {a : Int} (h1 : -1000000 ≤ a) (h2 : a ≤ 1000000) : w64 a = a := w64_of (inI_iff.2 ⟨by omega, by omega⟩)
theorem hasR_iff {y : List CV} (h : Fits y) {s r c : Int} : hasR y s r c = true ↔ Within y s r c := by
  obtain ⟨h0, h1, h2, h3, h4⟩ := h
  have ha : areaB (c0 y) (c1 y) (c2 y) (c3 y) (c4 y) = true := (areaB_iff (inI_iff.2 ⟨by omega, by omega⟩) (inI_iff.2 ⟨by omega, by omega⟩)).2 (by omega)
  unfold hasR hasB hasC Within
  rw [allB_iff, ha, w64_small (a := c1 y + c3 y) (by omega) (by omega), w64_small (a := c2 y + c4 y) (by omega) (by omega)]
  simp only [List.mem_cons, List.not_mem_nil, or_false, forall_eq_or_imp, forall_eq, decide_eq_true_eq, Bool.not_eq_true', bne_eq_false_iff_eq, true_and, ge_iff_le, and_assoc]
theorem inA_iff {y : List CV} (h : Fits y) {s r c : Int} : inA y [s, r, c] ↔ Within y s r c := by
  obtain ⟨h0, h1, h2, h3, h4⟩ := h
  unfold inA Within keyI
  constructor
  · rintro ⟨i, j, hi, hj, e⟩
    rw [w64_small (by omega) (by omega), w64_small (by omega) (by omega)] at e
    simp only [List.cons.injEq, and_true] at e
    omega
  · rintro ⟨e, h5, h6⟩
    refine ⟨(r - c1 y).toNat, (c - c2 y).toNat, by omega, by omega, ?_⟩
    rw [w64_small (by omega) (by omega), w64_small (by omega) (by omega)]
    simp only [List.cons.injEq, and_true]
    omega
theorem within_own {y : List CV} (h : Fits y) : Within y (c0 y) (c1 y) (c2 y) := by
  obtain ⟨h0, h1, h2, h3, h4⟩ := h
  exact ⟨rfl, by omega, by omega⟩
section
variable {R Z : List (List CV)} {a z : Nat}
theorem good_lw (R : List (List CV)) (a : Nat) (Z : List (List CV)) (z : Nat) : Good (spW R a Z z) (bkK R a) (spW R a Z z).length (plN (spW R a Z z) (bkK R a) (spW R a Z z).length) :=
  good_all (spW_sorted R a Z z) (fun i hi => memK_iff.1 ((own_okS R a Z z).2 i hi).2.2.1) _ (Nat.le_refl _)
theorem spW_self {y : List CV} (h : y ∈ spW R a Z z) : y = mkS (c0 y) (c1 y) (c2 y) (c3 y) (c4 y) := (spW_row h).2.1
/-- The area of a spill of the law's that may be. -/
theorem fits_of {y : List CV} (h : y ∈ spW R a Z z) (ha : areaB (c0 y) (c1 y) (c2 y) (c3 y) (c4 y) = true) : Fits y := by
  obtain ⟨_, _, h0, h1, h2, h3, h4⟩ := spW_row h
  have := (areaB_iff (inI_iff.2 ⟨by omega, by omega⟩) (inI_iff.2 ⟨by omega, by omega⟩)).1 ha
  exact ⟨by omega, by omega, by omega, by omega, by omega⟩
theorem lwP_row {y : List CV} (h : y ∈ lwP R a Z z) : ∃ i, i < (spW R a Z z).length ∧ y = Sx.rowAt (spW R a Z z) i ∧ Fits y := by
  obtain ⟨i, hi, e, ha⟩ := (good_lw R a Z z).rows y h
  have ha : areaB (c0 (rwL (spW R a Z z) (i : Int))) (c1 (rwL (spW R a Z z) (i : Int))) (c2 (rwL (spW R a Z z) (i : Int))) (c3 (rwL (spW R a Z z) (i : Int))) (c4 (rwL (spW R a Z z) (i : Int))) = true := ha
  have e : y = mkS (c0 (rwL (spW R a Z z) (i : Int))) (c1 (rwL (spW R a Z z) (i : Int))) (c2 (rwL (spW R a Z z) (i : Int))) (c3 (rwL (spW R a Z z) (i : Int))) (c4 (rwL (spW R a Z z) (i : Int))) := e
  rw [rwL_nat] at e ha
  rw [← spW_self (row_mem hi)] at e
  refine ⟨i, hi, e, ?_⟩
  rw [e]
  exact fits_of (row_mem hi) ha
theorem lwP_fits {j : Nat} (h : j < (lwP R a Z z).length) : Fits (Sx.rowAt (lwP R a Z z) j) := by
  obtain ⟨_, _, _, h⟩ := lwP_row (row_mem h)
  exact h
/-- No place is in two of them. -/
theorem lwP_uniq {i j : Nat} (hi : i < (lwP R a Z z).length) (hj : j < (lwP R a Z z).length) {s r c : Int} (h1 : hasR (Sx.rowAt (lwP R a Z z) i) s r c = true) (h2 : hasR (Sx.rowAt (lwP R a Z z) j) s r c = true) : i = j := by
  have h1 := (inA_iff (lwP_fits hi)).2 ((hasR_iff (lwP_fits hi)).1 h1)
  have h2 := (inA_iff (lwP_fits hj)).2 ((hasR_iff (lwP_fits hj)).1 h2)
  have key := (good_lw R a Z z).apart
  rcases Nat.lt_trichotomy i j with h | h | h
  · exact absurd h2 (pw_at (l := lwP R a Z z) key hj h _ h1)
  · exact h
  · exact absurd h1 (pw_at (l := lwP R a Z z) key hi h _ h2)
theorem lwP_le (R : List (List CV)) (a : Nat) (Z : List (List CV)) (z : Nat) : (lwP R a Z z).length ≤ 12 := by
  have := plN_len (spW R a Z z) (bkK R a) (spW R a Z z).length
  have h2 := spW_le R a Z z
  have : (lwP R a Z z).length + (lwB R a Z z).length = (spW R a Z z).length := this
  omega
theorem cov_hit {P : List (List CV)} {s r c : Int} (h : covN P s r c < P.length) : hasR (Sx.rowAt P (covN P s r c)) s r c = true := (firstN_spec (fun j => hasR (Sx.rowAt P j) s r c) P.length).2.2 h
theorem cov_le {P : List (List CV)} {s r c : Int} {j : Nat} (h : hasR (Sx.rowAt P j) s r c = true) : covN P s r c ≤ j := by
  rcases Nat.lt_or_ge j (covN P s r c) with h' | h'
  · have := (firstN_spec (fun j => hasR (Sx.rowAt P j) s r c) P.length).2.1 j h'
    rw [h] at this; cases this
  · exact h'
theorem cov_is {j : Nat} (hj : j < (lwP R a Z z).length) {s r c : Int} (h : hasR (Sx.rowAt (lwP R a Z z) j) s r c = true) : covN (lwP R a Z z) s r c = j := by
  have h1 := cov_le h
  exact lwP_uniq (by omega) hj (cov_hit (by omega)) h
theorem cov_own {j : Nat} (hj : j < (lwP R a Z z).length) : covN (lwP R a Z z) (c0 (Sx.rowAt (lwP R a Z z) j)) (c1 (Sx.rowAt (lwP R a Z z) j)) (c2 (Sx.rowAt (lwP R a Z z) j)) = j :=
  cov_is hj ((hasR_iff (lwP_fits hj)).2 (within_own (lwP_fits hj)))
theorem cnt_at {s r c : Int} : ∀ j, j ≤ (lwP R a Z z).length → cntN (lwP R a Z z) s r c j = bcond (decide (covN (lwP R a Z z) s r c < j)) 1 0
  | 0, _ => by rw [decide_eq_false (by omega)]; rfl
  | j + 1, hj => by
    have ih := cnt_at (s := s) (r := r) (c := c) j (by omega)
    rw [cntN, ih]
    cases h : hasR (Sx.rowAt (lwP R a Z z) j) s r c with
    | true =>
      have e := cov_is (show j < _ by omega) h
      rw [e, decide_eq_false (show ¬ j < j by omega), decide_eq_true (show j < j + 1 by omega)]; rfl
    | false =>
      have hn : covN (lwP R a Z z) s r c ≠ j := fun e => by
        have := cov_hit (P := lwP R a Z z) (s := s) (r := r) (c := c) (by omega)
        rw [e, h] at this; cases this
      by_cases h1 : covN (lwP R a Z z) s r c < j
      · rw [decide_eq_true h1, decide_eq_true (show covN (lwP R a Z z) s r c < j + 1 by omega)]; rfl
      · rw [decide_eq_false h1, decide_eq_false (show ¬ covN (lwP R a Z z) s r c < j + 1 by omega)]; rfl
end
end Go.Proofs.YtphhepnldndbhaaGreatDoor

/- Layer 14: what is placed, what is blocked, spill by spill. -/
set_option linter.unusedVariables false
set_option linter.unusedSimpArgs false
set_option linter.unusedSectionVars false
namespace Go.Proofs.YtphhepnldndbhaaGreatDoor
open Go Sx
/-- What is placed, what is blocked, after so many spills: the beginning of all. -/
theorem plN_mono (L : List (List CV)) (ks : List (List Int)) (j : Nat) : ∀ d, (∃ X, (plN L ks (j + d)).P = (plN L ks j).P ++ X) ∧ ∃ Y, (plN L ks (j + d)).B = (plN L ks j).B ++ Y
  | 0 => ⟨⟨[], by rw [Nat.add_zero, List.append_nil]⟩, ⟨[], by rw [Nat.add_zero, List.append_nil]⟩⟩
  | d + 1 => by
    obtain ⟨⟨X, hX⟩, ⟨Y, hY⟩⟩ := plN_mono L ks j d
    rw [← Nat.add_assoc, plN]
    cases arL L ((j + d : Nat) : Int) with
    | false =>
      rw [bcT (b := !false) rfl]
      exact ⟨⟨X, hX⟩, ⟨Y ++ [_], by rw [← List.append_assoc, ← hY]⟩⟩
    | true =>
      rw [bcF (b := !true) rfl]
      cases hitL L (plN L ks (j + d)).ks ((j + d : Nat) : Int) with
      | true => exact ⟨⟨X, hX⟩, ⟨Y ++ [_], by rw [← List.append_assoc, ← hY]; rfl⟩⟩
      | false => exact ⟨⟨X ++ [_], by rw [← List.append_assoc, ← hX]; rfl⟩, ⟨Y, hY⟩⟩
/-- Is a spill placed, when its turn comes? -/
def isPl (L : List (List CV)) (ks : List (List Int)) (j : Nat) : Bool := arL L (j : Int) && !hitL L (plN L ks j).ks (j : Int)
theorem plN_step (L : List (List CV)) (ks : List (List Int)) (j : Nat) : (isPl L ks j = true ∧ (plN L ks (j + 1)).P = (plN L ks j).P ++ [spL1 L (j : Int)] ∧ (plN L ks (j + 1)).B = (plN L ks j).B ∧ (plN L ks (j + 1)).ks = addL L (plN L ks j).ks (j : Int)) ∨
    (isPl L ks j = false ∧ (plN L ks (j + 1)).P = (plN L ks j).P ∧ (plN L ks (j + 1)).B = (plN L ks j).B ++ [atL1 L (j : Int)] ∧ (plN L ks (j + 1)).ks = (plN L ks j).ks) := by
  rw [plN]
  unfold isPl
  cases arL L (j : Int) with
  | false => exact .inr ⟨rfl, rfl, rfl, rfl⟩
  | true => cases hitL L (plN L ks j).ks (j : Int) with
    | true => exact .inr ⟨rfl, rfl, rfl, rfl⟩
    | false => exact .inl ⟨rfl, rfl, rfl, rfl⟩
theorem rowAt_pre {X Y : List (List CV)} {i : Nat} (h : i < X.length) : Sx.rowAt (X ++ Y) i = Sx.rowAt X i := by
  rw [rowAt_get h, rowAt_get (by rw [List.length_append]; omega), List.getElem_append_left h]
theorem rowAt_mid {X Y : List (List CV)} {x : List CV} : Sx.rowAt (X ++ [x] ++ Y) X.length = x := by
  rw [rowAt_get (by simp)]; simp
/-- The one that is placed in a turn, among all. -/
theorem plP_at {L : List (List CV)} {ks : List (List Int)} {n j : Nat} (hj : j < n) (h : isPl L ks j = true) : (plN L ks j).P.length < (plN L ks n).P.length ∧ Sx.rowAt (plN L ks n).P (plN L ks j).P.length = spL1 L (j : Int) := by
  obtain ⟨⟨X, hX⟩, _⟩ := plN_mono L ks (j + 1) (n - (j + 1))
  rw [show j + 1 + (n - (j + 1)) = n by omega] at hX
  rcases plN_step L ks j with ⟨_, e, _⟩ | ⟨e, _⟩
  · rw [e] at hX
    rw [hX]
    exact ⟨by simp, rowAt_mid⟩
  · rw [h] at e; cases e
theorem plB_at {L : List (List CV)} {ks : List (List Int)} {n j : Nat} (hj : j < n) (h : isPl L ks j = false) : (plN L ks j).B.length < (plN L ks n).B.length ∧ Sx.rowAt (plN L ks n).B (plN L ks j).B.length = atL1 L (j : Int) := by
  obtain ⟨_, ⟨Y, hY⟩⟩ := plN_mono L ks (j + 1) (n - (j + 1))
  rw [show j + 1 + (n - (j + 1)) = n by omega] at hY
  rcases plN_step L ks j with ⟨e, _⟩ | ⟨_, _, e, _⟩
  · rw [h] at e; cases e
  · rw [e] at hY
    rw [hY]
    exact ⟨by simp, rowAt_mid⟩
/-- What is placed later is a later one. -/
theorem plP_later {L : List (List CV)} {ks : List (List Int)} {j : Nat} : ∀ d i, (plN L ks j).P.length ≤ i → i < (plN L ks (j + d)).P.length → ∃ m, j ≤ m ∧ m < j + d ∧ Sx.rowAt (plN L ks (j + d)).P i = spL1 L (m : Int)
  | 0, i, h1, h2 => absurd h2 (by rw [Nat.add_zero]; omega)
  | d + 1, i, h1, h2 => by
    rcases plN_step L ks (j + d) with ⟨_, e, _⟩ | ⟨_, e, _⟩
    · rw [← Nat.add_assoc, e] at h2 ⊢
      by_cases h : i < (plN L ks (j + d)).P.length
      · obtain ⟨m, a, b, c⟩ := plP_later d i h1 h
        exact ⟨m, a, by omega, by rw [rowAt_pre h]; exact c⟩
      · have hi : i = (plN L ks (j + d)).P.length := by simp at h2; omega
        refine ⟨j + d, by omega, by omega, ?_⟩
        rw [hi]
        have := rowAt_mid (X := (plN L ks (j + d)).P) (Y := []) (x := spL1 L ((j + d : Nat) : Int))
        rw [List.append_nil] at this; exact this
    · rw [← Nat.add_assoc, e] at h2 ⊢
      obtain ⟨m, a, b, c⟩ := plP_later d i h1 h2
      exact ⟨m, a, by omega, c⟩
/-- What is taken: what was at first, or a place of one that is placed. -/
theorem ks_from {L : List (List CV)} {ks : List (List Int)} {k : List Int} : ∀ j, k ∈ (plN L ks j).ks → k ∈ ks ∨ ∃ m, m < j ∧ isPl L ks m = true ∧ inA (rwL L (m : Int)) k
  | 0, h => .inl h
  | j + 1, h => by
    rcases plN_step L ks j with ⟨e, _, _, ek⟩ | ⟨_, _, _, ek⟩
    · rw [ek] at h
      rcases (mem_addA _).1 h with h | h
      · rcases ks_from j h with h | ⟨m, a, b, c⟩
        · exact .inl h
        · exact .inr ⟨m, by omega, b, c⟩
      · exact .inr ⟨j, by omega, e, h⟩
    · rw [ek] at h
      rcases ks_from j h with h | ⟨m, a, b, c⟩
      · exact .inl h
      · exact .inr ⟨m, by omega, b, c⟩
theorem anyN_true {f : Nat → Bool} {n : Nat} (h : anyN f n = true) : ∃ j, j < n ∧ f j = true := by
  obtain ⟨j, hj, h1, _⟩ := anyN_first h
  exact ⟨j, hj, h1⟩
/-- Why one is blocked: a place that is taken, and not its own. -/
theorem hit_some {ks : List (List Int)} {x : List CV} (h : hitA ks (c0 x) (c1 x) (c2 x) (c3 x).toNat (c4 x).toNat (c0 x) (c1 x) (c2 x) = true) : ∃ k, inA x k ∧ k ∈ ks ∧ k ≠ keyR x := by
  obtain ⟨i, hi, h1⟩ := anyN_true h
  obtain ⟨j, hj, h2⟩ := anyN_true h1
  unfold hitI at h2
  rw [Bool.and_eq_true, Bool.not_eq_true'] at h2
  refine ⟨_, ⟨i, j, hi, hj, rfl⟩, memK_iff.1 h2.1, fun e => ?_⟩
  unfold keyI keyR at e
  simp only [List.cons.injEq, and_true] at e
  have h3 := h2.2
  unfold ownB at h3
  rw [e.2.1, e.2.2] at h3
  simp at h3
/-- Of the first ones the same are placed, and blocked. -/
theorem rwL_take {L : List (List CV)} {k j : Nat} (h : j < k) : rwL (L.take k) (j : Int) = rwL L (j : Int) := by
  rw [rwL_nat, rwL_nat]
  unfold Sx.rowAt
  simp only [List.getD_eq_getElem?_getD, List.getElem?_take, if_pos h]
theorem plN_take (L : List (List CV)) (ks : List (List Int)) (k : Nat) : ∀ j, j ≤ k → plN (L.take k) ks j = plN L ks j
  | 0, _ => rfl
  | j + 1, hj => by
    have ih := plN_take L ks k j (by omega)
    have e := rwL_take (L := L) (show j < k by omega)
    rw [plN, plN, ih]
    unfold hitL addL
    simp only [arL, atL1, spL1, e]
end Go.Proofs.YtphhepnldndbhaaGreatDoor

/- The evaluator, part R: a slice, nil or not, told as one that is never written. -/
set_option linter.unusedVariables false
set_option linter.unusedSimpArgs false
namespace Go.Proofs.YtphhepnldndbhaaGreatDoor.Sx
open Go
variable {P : Program} {R : Type}
/-- One state told as another one, whatever the world. -/
def Views (s t : PState) : Prop := ∀ (w0 : World) (M : Nat → Prop) (E : Env) (a : Act) (w : World), Rel w0 M E s.toA a w → ∃ E', Env.le E E' ∧ Rel w0 M E' t.toA a w
theorem Views.refl (s : PState) : Views s s := fun _ _ E _ _ h => ⟨E, Env.le.refl E, h⟩
theorem Views.trans {s t u : PState} (h : Views s t) (k : Views t u) : Views s u := fun w0 M E a w hR => by
  obtain ⟨E1, h1, g1⟩ := h w0 M E a w hR
  obtain ⟨E2, h2, g2⟩ := k w0 M E1 a w g1
  exact ⟨E2, h1.trans h2, g2⟩
theorem views_tri {x : Code} {s t : PState} {ex : Ex} {s' : AState} {K : Nat} (hv : Views s t) (ht : Tri P x t.toA ex s' K) : Tri P x s.toA ex s' K := fun ro w0 M E a w hro hR => by
  obtain ⟨E1, hle, h1⟩ := hv w0 M E a w hR
  refine wpIn_mono (ht ro w0 M E1 a w hro h1) ?_
  rintro e' a' w' ⟨rfl, E', hle', h'⟩
  exact ⟨rfl, E', fun n p hn hE => hle' n p hn (hle n p hE), h'⟩
theorem goes_view {fn : Func} {pre : List PObj} {k : AV → List PObj → Option R} {c : Code} {s t : PState} {r : R} (hv : Views s t) (h : GoesTo P fn pre k c t r) : GoesTo P fn pre k c s r := by
  obtain ⟨ex, s', t', hk⟩ := h
  exact ⟨ex, s', views_tri hv t', hk⟩
section
variable {w0 : World} {M : Nat → Prop} {E : Env} {s : AState} {a : Act} {w : World}
theorem Rel.seal {t nm len : Nat} {cs : List AV} {ty : TypeId} {sz : Nat} {o' : AObj} (h : Rel w0 M E s a w) (hs : s.slots[t]? = some (some (.vec nm len))) (hm : s.mem[nm]? = some (some (.vec cs ty sz)))
    (hfit : Fits (.vec cs ty sz) o') (how : o'.owned = false) (hmi : o'.mine = false) : Rel w0 M E ⟨s.slots.set t (some (.dsl nm len)), s.mem.set nm (some o')⟩ a w := {
  size := by rw [List.length_set]; exact h.size
  slots := fun n v e => by
    rcases set_get e with ⟨rfl, hv⟩ | ⟨_, e⟩
    · cases hv
      obtain ⟨x, hx, hd⟩ := h.slots _ _ hs
      exact ⟨x, hx, den_seal hd⟩
    · exact h.slots n v e
  defers := h.defers
  fresh := fun n e => by
    rcases set_get e with ⟨rfl, hv⟩ | ⟨_, e⟩
    · cases hv
    · exact h.fresh n e
  mem := fun n o e => by
    rcases set_get e with ⟨rfl, hv⟩ | ⟨_, e⟩
    · cases hv
      obtain ⟨b, c, hb, ho, _⟩ := h.mem _ _ hm
      exact ⟨b, c, hb, hfit _ _ _ _ ho, fun h1 => by rw [hmi] at h1; cases h1⟩
    · exact h.mem n o e
  apart := fun n m o o2 b c b' c' h1 h2 h3 h4 h5 h6 hne ht => by
    rcases set_get h1 with ⟨rfl, hv⟩ | ⟨_, e1⟩
    · cases hv; rw [how] at h3; cases h3
    · rcases set_get h2 with ⟨rfl, hv⟩ | ⟨_, e2⟩
      · cases hv
        exact h.apart n _ o _ b c b' c' e1 hm h3 rfl h5 h6 hne (touches_eq ht)
      · exact h.apart n m o o2 b c b' c' e1 e2 h3 h4 h5 h6 hne ht
  frame := h.frame
  grow := h.grow
  os := h.os
  tape := h.tape
  output := h.output
  glob := h.glob
  nest := h.nest }
theorem Rel.nilled {t n : Nat} {sh : List CK} (h : Rel w0 M E s a w) (hs : s.slots[t]? = some (some .nilslice)) (hm : s.mem[n]? = some none) :
    ∃ E', Env.le E E' ∧ Rel w0 M E' ⟨s.slots.set t (some (.dsl n 0)), s.mem.set n (some (.flatR false sh []))⟩ a w := by
  have hn := h.fresh n hm
  let c0 : Cap := { n := 0, z := true }
  let E2 : Env := fun k => if k = n then some (0, c0) else E k
  have e2 : E2 n = some (0, c0) := by simp [E2]
  have hle : Env.le E E2 := fun k p hk => by
    have : k ≠ n := fun e => by rw [e, hn] at hk; cases hk
    simp [E2, this, hk]
  have back : ∀ {k : Nat}, k ≠ n → E2 k = E k := fun hk => by simp [E2, hk]
  refine ⟨E2, hle, {
    size := by rw [List.length_set]; exact h.size
    slots := fun k v e => ?_
    defers := h.defers
    fresh := fun k e => ?_
    mem := fun k o e => ?_
    apart := fun k m o o2 b c b' c' h1 h2 h3 h4 h5 h6 hne ht => ?_
    frame := h.frame
    grow := h.grow
    os := h.os
    tape := h.tape
    output := h.output
    glob := h.glob
    nest := fun m b c k e hu => ?_ }⟩
  · rcases set_get e with ⟨rfl, hv⟩ | ⟨_, e⟩
    · cases hv
      obtain ⟨x, hx, hd⟩ := h.slots _ _ hs
      refine ⟨x, hx, ?_⟩
      rw [← hd]
      simp [den, e2, c0]
    · obtain ⟨x, hx, hd⟩ := h.slots k v e
      exact ⟨x, hx, den_mono hle _ _ hd⟩
  · rcases set_get e with ⟨rfl, hv⟩ | ⟨hk, e⟩
    · cases hv
    · rw [back hk]; exact h.fresh k e
  · rcases set_get e with ⟨rfl, hv⟩ | ⟨hk, e⟩
    · cases hv
      exact ⟨0, c0, e2, ⟨fun _ => rfl, fun e => by cases e⟩, fun e => by cases e⟩
    · obtain ⟨b, c, hb, ho, hmi⟩ := h.mem k o e
      exact ⟨b, c, hle _ _ hb, ho.mono hle, hmi⟩
  · rcases set_get h1 with ⟨rfl, hv⟩ | ⟨hk, g1⟩
    · cases hv; cases h3
    · rcases set_get h2 with ⟨rfl, hv⟩ | ⟨hk', g2⟩
      · cases hv
        rw [e2] at h6
        cases h6
        exact absurd ht.1 (by decide)
      · rw [back hk] at h5
        rw [back hk'] at h6
        exact h.apart k m o o2 b c b' c' g1 g2 h3 h4 h5 h6 hne ht
  · by_cases hk : m = n
    · subst hk
      rw [e2] at e
      cases e
      exact absurd hu (Cap.bare_of (fun _ _ => rfl) k)
    · rw [back hk] at e
      exact h.nest m b c k e hu
end
/-- The first empty place. -/
def freeP : List (Option PObj) → Nat → Option Nat
  | [], _ => none
  | none :: _, i => some i
  | some _ :: l, i => freeP l (i + 1)
theorem freeP_get : ∀ {l : List (Option PObj)} {i n : Nat}, freeP l i = some n → ∃ k, n = i + k ∧ l[k]? = some none
  | [], i, n, h => by cases h
  | none :: l, i, n, h => by cases h; exact ⟨0, rfl, rfl⟩
  | some x :: l, i, n, h => by
    obtain ⟨k, e, hk⟩ := freeP_get (l := l) h
    exact ⟨k + 1, by omega, by rw [List.getElem?_cons_succ]; exact hk⟩
/-- A slot's slice, nil or not, as one that is never written. -/
def viewV (sh : List CK) (t : Nat) (s : PState) : Option PState :=
  match s.slots[t]? with
  | some (some .nilslice) => match freeP s.mem 0 with
    | some n => some ⟨s.slots.set t (some (.dsl n 0)), s.mem.set n (some (.raw (.flatR false sh [])))⟩
    | none => none
  | some (some (.vec nm len)) => match s.mem[nm]? with
    | some (some (.vecR sh' rows ty)) => match shEq sh' sh with
      | true => some ⟨s.slots.set t (some (.dsl nm len)), s.mem.set nm (some (.raw (.flatR false sh rows)))⟩
      | false => none
    | _ => none
  | _ => none
theorem memA_at {m : List (Option PObj)} {n : Nat} {o : Option PObj} (h : m[n]? = some o) : (memA m)[n]? = some (o.map PObj.toA) := by
  simp only [memA, List.getElem?_map, h, Option.map_some]
theorem memA_setV {m : List (Option PObj)} {n : Nat} {o : Option PObj} : memA (m.set n o) = (memA m).set n (o.map PObj.toA) := by
  simp only [memA, List.map_set]
theorem viewV_ok {sh : List CK} {t : Nat} {s u : PState} (h : viewV sh t s = some u) : Views s u := fun w0 M E a w hR => by
  unfold viewV at h
  split at h
  · rename_i hs
    split at h
    · rename_i n hn
      cases h
      obtain ⟨k, e, hk⟩ := freeP_get hn
      obtain rfl : n = k := by omega
      obtain ⟨E', hle, g⟩ := hR.nilled (sh := sh) hs (memA_at hk)
      refine ⟨E', hle, ?_⟩
      show Rel w0 M E' ⟨_, memA (s.mem.set n _)⟩ a w
      rw [memA_setV]; exact g
    · cases h
  · rename_i nm len hs
    split at h
    · rename_i sh' rows ty hm
      split at h
      · rename_i he
        cases h
        obtain rfl := shEq_of he
        refine ⟨E, Env.le.refl E, ?_⟩
        show Rel w0 M E ⟨_, memA (s.mem.set nm _)⟩ a w
        rw [memA_setV]
        exact hR.seal hs (memA_at hm) (Fits.vec_flatR (m := false)) rfl rfl
      · cases h
    · cases h
  · cases h
def viewAll : List (Nat × List CK) → PState → Option PState
  | [], s => some s
  | (t, sh) :: l, s => match viewV sh t s with
    | some u => viewAll l u
    | none => none
theorem viewAll_ok : ∀ {l : List (Nat × List CK)} {s u : PState}, viewAll l s = some u → Views s u
  | [], s, u, h => by cases h; exact Views.refl s
  | (t, sh) :: l, s, u, h => by
    unfold viewAll at h
    split at h
    · rename_i v hv
      exact (viewV_ok hv).trans (viewAll_ok h)
    · cases h
/-- The end of a part, its slices told as such that are never written. -/
def endV (K NF : Nat) (kn : Nat → Bool) (vs : List (Nat × List CK)) (ex : Ex) (s : PState) : Option (Ex × PState) :=
  match ex with
  | .normal => match gcL K NF kn s with
    | some t => match viewAll vs t with
      | some u => (gcL K NF kn u).map fun v => (.normal, v)
      | none => none
    | none => none
  | _ => none
theorem gcL_views {K NF : Nat} {keep : Nat → Bool} {s t : PState} (hgc : gcL K NF keep s = some t) {x : Code} {ex : Ex} {s' : AState} (ht : Tri P x t.toA ex s' K) : Tri P x s.toA ex s' K := Tri.preRen hgc ht
theorem goes_cutV {H : Hd (Ex × PState)} (hH : HOK P H) {lv : Lv} {NF m n : Nat} {fn : Func} {pre : List PObj} {k : AV → List PObj → Option R} {c c' : Code} {kn : Nat → Bool} {vs : List (Nat × List CK)} (hl : LoopsOK P lv pre.length c) {s st : PState} {r : R}
    (h1 : runsC H P lv pre.length NF m (endV pre.length NF kn vs) n c s = some (.normal, st)) (hc : restC n c = c') (h2 : GoesTo P fn pre k c' st r) : GoesTo P fn pre k c s r := by
  obtain ⟨ex2, s2, t2, hk2⟩ := h2
  rcases runsC_sound hH n c hl s h1 with ⟨ex1, s1, hne, t1, hk⟩ | ⟨s1, t1, hk⟩
  · exfalso
    cases ex1 with
    | normal => exact hne rfl
    | exit id => simp [endV] at hk
    | ret => simp [endV] at hk
  · unfold endV at hk
    simp only at hk
    split at hk
    · rename_i t ht
      split at hk
      · rename_i u hu
        simp only [Option.map_eq_some_iff, Prod.mk.injEq] at hk
        obtain ⟨v, hv, _, rfl⟩ := hk
        subst hc
        exact ⟨ex2, s2, t1 _ _ (Tri.preRen ht (views_tri (viewAll_ok hu) (Tri.preRen hv t2))), hk2⟩
      · cases hk
    · cases hk
end Go.Proofs.YtphhepnldndbhaaGreatDoor.Sx

/- Layer 14: SpillApart, SpillReasons: their head (written by gen_src.py). -/
set_option linter.unusedVariables false
set_option linter.unusedSimpArgs false
set_option linter.unusedSectionVars false
namespace Go.Proofs.YtphhepnldndbhaaGreatDoor
open Go Sx
abbrev fSp (R : List (List CV)) : PObj := .raw (.flatR false shS R)
open Classical in
/-- The places of the cells, nil or not. -/
noncomputable def eCe (C : List (List CV)) : Ent := fun args pre => .chk (decide (Meets Tryz.prog 20 args (pre.map PObj.toA) (clV (clR pre.length C)) ((pre ++ clO C).map PObj.toA)))
  (.br (isNil C) (.ret (clV .nilslice) pre) (.ret (clV (.vec pre.length C.length)) (pre ++ [vA C])))
open Classical in
theorem eCe_ok (C : List (List CV)) : EntOK Tryz.prog 20 (eCe C) := fun args pre => by
  unfold eCe
  refine ⟨fun g => ?_, fun _ => trivial⟩
  have g := of_decide_eq_true g
  cases C with
  | nil =>
    have e : pre ++ clO [] = pre := by simp [clO]
    rw [e] at g
    exact ⟨fun _ => g, fun e => by cases e⟩
  | cons x C => exact ⟨(fun e => by cases e), fun _ => g⟩
open Classical in
noncomputable def ckCe (C : List (List CV)) (pre : List PObj) : Bool := decide (Meets Tryz.prog 20 [bkW] (pre.map PObj.toA) (clV (clR pre.length C)) ((pre ++ clO C).map PObj.toA))
noncomputable def tAp (P B C : List (List CV)) : Tab := [(10, eAwk), (fB, eBk), (12, eSpl), (fP, ePla P B), (20, eCe C)]
theorem tAp_ok (P B C : List (List CV)) : TabOK Tryz.prog (tAp P B C) := .cons eAwk_ok (.cons eBk_ok (.cons eSpl_ok (.cons (ePla_ok P B) (.cons (eCe_ok C) .nil))))
abbrev kAp : Nat → Bool := fun n => hasN [5, 7, 8, 9, 10, 11, 12] n
/-- The state behind the head. -/
def sAp (k : Nat) (R Z O : List (List CV)) (nO : Nat) (P : List (List CV)) (nP : Nat) (B : List (List CV)) (nB : Nat) (C : List (List CV)) (nC : Nat) : PState := ⟨nn 5 ++ (some (.bool true) :: none :: some (.dsl 2 nO) :: some (.dsl 3 nP) :: some (.dsl 4 nB) :: some (.int .i64 0) :: some (.dsl 5 nC) :: some (.int .i64 0) :: nn k), some (fA R) :: some (fZ Z) :: some (fSp O) :: some (fSp P) :: some (fA B) :: some (fA C) :: nn 64⟩
section
variable (k : Nat) (R Z P B C : List (List CV)) (a z : Nat)
noncomputable def lcAp (O : List (List CV)) (nO : Nat) (P' : List (List CV)) (np : Nat) (B' : List (List CV)) (nb : Nat) (c : Bool) : Option (Ex × PState) := chks (bcond (isNil C) (some (.normal, sAp k R Z O nO P' np B' nb [] 0)) (some (.normal, sAp k R Z O nO P' np B' nb C C.length))) [c]
noncomputable def lfAp (O : List (List CV)) (nO : Nat) (ck c : Bool) : Option (Ex × PState) := chks (bcond (isNil P) (bcond (isNil B) (lcAp k R Z C O nO [] 0 [] 0 c) (lcAp k R Z C O nO [] 0 B B.length c)) (bcond (isNil B) (lcAp k R Z C O nO P P.length [] 0 c) (lcAp k R Z C O nO P P.length B B.length c))) [ck]
open Classical in
noncomputable def owAp (p0 p1 pc : List PObj) : Option (Ex × PState) := chks (bcond (isNil (spW R a Z z)) (lfAp k R Z P B C [] 0 (ckPl P B [bkW, .nilslice] p0) (ckCe C pc)) (lfAp k R Z P B C (spW R a Z z) (spW R a Z z).length (ckPl P B [bkW, .vec 1 (spW R a Z z).length] p1) (ckCe C pc))) [decide (okA a R ∧ okZ z Z)]
open Classical in
noncomputable def hdAp : Option (Ex × PState) := chks (bcond (isNil (bkX R a 0)) (bcond (isNil (bkX R a 1)) (owAp k R Z P B C a z [oSh .nilslice .nilslice] [oSh .nilslice .nilslice, vS (spW R a Z z)] [oSh .nilslice .nilslice]) (owAp k R Z P B C a z [oSh .nilslice (.vec 1 (bkX R a 1).length), vC (bkX R a 1)] [oSh .nilslice (.vec 2 (bkX R a 1).length), vS (spW R a Z z), vC (bkX R a 1)] [oSh .nilslice (.vec 1 (bkX R a 1).length), vC (bkX R a 1)]))
    (bcond (isNil (bkX R a 1)) (owAp k R Z P B C a z [oSh (.vec 1 (bkX R a 0).length) .nilslice, vC (bkX R a 0)] [oSh (.vec 2 (bkX R a 0).length) .nilslice, vS (spW R a Z z), vC (bkX R a 0)] [oSh (.vec 1 (bkX R a 0).length) .nilslice, vC (bkX R a 0)]) (owAp k R Z P B C a z [oSh (.vec 1 (bkX R a 0).length) (.vec 2 (bkX R a 1).length), vC (bkX R a 0), vC (bkX R a 1)] [oSh (.vec 2 (bkX R a 0).length) (.vec 3 (bkX R a 1).length), vS (spW R a Z z), vC (bkX R a 0), vC (bkX R a 1)] [oSh (.vec 1 (bkX R a 0).length) (.vec 2 (bkX R a 1).length), vC (bkX R a 0), vC (bkX R a 1)]))) [decide (okA a R)]
abbrev vwAp : List (Nat × List CK) := [(7, shS), (8, shS), (9, shA), (11, shA)]
theorem hd_apart : runsC (ent Tryz.prog (tAp P B C) nolv 64 1 20) Tryz.prog {} 2 64 1 (endV 2 64 kAp vwAp) 6 (bodyOf Tryz.f4) (startP 160 [.dsl 0 a, .dsl 1 z] [fA R, fZ Z] 64) = hdAp 147 R Z P B C a z := by kernel_rfl
theorem hd_reasons : runsC (ent Tryz.prog (tAp P B C) nolv 64 1 20) Tryz.prog {} 2 64 1 (endV 2 64 kAp vwAp) 6 (bodyOf Tryz.f5) (startP 159 [.dsl 0 a, .dsl 1 z] [fA R, fZ Z] 64) = hdAp 146 R Z P B C a z := by kernel_rfl
end
theorem lcAp_ok {k : Nat} {R Z C O P' B' : List (List CV)} {nO np nb : Nat} : lcAp k R Z C O nO P' np B' nb true = some (.normal, sAp k R Z O nO P' np B' nb C C.length) := by
  unfold lcAp
  rw [chks_true (all1 rfl)]
  cases C <;> rfl
theorem lfAp_ok {k : Nat} {R Z P B C O : List (List CV)} {nO : Nat} : lfAp k R Z P B C O nO true true = some (.normal, sAp k R Z O nO P P.length B B.length C C.length) := by
  unfold lfAp
  rw [chks_true (all1 rfl), lcAp_ok, lcAp_ok, lcAp_ok, lcAp_ok]
  cases P <;> cases B <;> rfl
open Classical in
theorem ckCe_ok {C : List (List CV)} {pre : List PObj} (h : Meets Tryz.prog 20 [bkW] (pre.map PObj.toA) (clV (clR pre.length C)) ((pre ++ clO C).map PObj.toA)) : ckCe C pre = true := by
  unfold ckCe
  exact decide_eq_true h
open Classical in
theorem owAp_ok {k : Nat} {R Z : List (List CV)} {a z : Nat} {p0 p1 pc : List PObj} (hA : okA a R) (hZ : okZ z Z)
    (h0 : spW R a Z z = [] → Meets Tryz.prog fP [bkW, .nilslice] (p0.map PObj.toA) (plV .nilslice .nilslice) (p0.map PObj.toA))
    (h1 : spW R a Z z ≠ [] → Meets Tryz.prog fP [bkW, .vec 1 (spW R a Z z).length] (p1.map PObj.toA) (plV (plR p1.length (lwP R a Z z)) (clR (p1.length + (plO (lwP R a Z z)).length) (lwB R a Z z))) ((p1 ++ plO (lwP R a Z z) ++ clO (lwB R a Z z)).map PObj.toA))
    (hc : ckCe (bkC R a) pc = true) :
    owAp k R Z (lwP R a Z z) (lwB R a Z z) (bkC R a) a z p0 p1 pc = some (.normal, sAp k R Z (spW R a Z z) (spW R a Z z).length (lwP R a Z z) (lwP R a Z z).length (lwB R a Z z) (lwB R a Z z).length (bkC R a) (bkC R a).length) := by
  unfold owAp
  rw [chks_true (all1 (decide_eq_true ⟨hA, hZ⟩)), hc]
  by_cases hw : spW R a Z z = []
  · have eP : lwP R a Z z = [] := by unfold lwP plP; rw [hw]; rfl
    have eB : lwB R a Z z = [] := by unfold lwB plB; rw [hw]; rfl
    have ck : ckPl (lwP R a Z z) (lwB R a Z z) [bkW, .nilslice] p0 = true := ckPl_ok (by
      rw [eP, eB]
      have e : p0 ++ plO [] ++ clO [] = p0 := by simp [plO, clO]
      rw [e]; exact h0 hw)
    rw [ck, bcT (b := isNil (spW R a Z z)) (by rw [hw]; rfl), hw]
    exact lfAp_ok ..
  · have hn : isNil (spW R a Z z) = false := by
      cases h : spW R a Z z with
      | nil => exact absurd h hw
      | cons x l => rfl
    rw [bcF hn, ckPl_ok (h1 hw)]
    exact lfAp_ok ..
open Classical in
theorem hdAp_ok {k : Nat} {R Z : List (List CV)} {a z : Nat} (hA : okA a R) (hZ : okZ z Z) : hdAp k R Z (lwP R a Z z) (lwB R a Z z) (bkC R a) a z
    = some (.normal, sAp k R Z (spW R a Z z) (spW R a Z z).length (lwP R a Z z) (lwP R a Z z).length (lwB R a Z z) (lwB R a Z z).length (bkC R a) (bkC R a).length) := by
  have hb := book_ok R a
  have hs := own_okS R a Z z
  have ht := own_okT R a Z z
  have eP : lwP R a Z z = plP (clL (bkX R a 0) (bkX R a 1)) (spW R a Z z) := rfl
  have eB : lwB R a Z z = plB (clL (bkX R a 0) (bkX R a 1)) (spW R a Z z) := rfl
  have eC : bkC R a = clL (bkX R a 0) (bkX R a 1) := rfl
  have hs : okS (spW R a Z z) (tkN (clL (bkX R a 0) (bkX R a 1)) (clL (bkX R a 0) (bkX R a 1)).length) := hs
  unfold hdAp
  rw [chks_true (all1 (decide_eq_true hA))]
  have hc : ckCe (bkC R a) (bkP (bkX R a 0) (bkX R a 1)) = true := ckCe_ok (cells_meets hb)
  cases h0 : bkX R a 0 with
  | nil => cases h1 : bkX R a 1 with
    | nil =>
      rw [h0, h1] at hs hc
      refine owAp_ok hA hZ (fun _ => pn_0) (fun hw => ?_) hc
      exfalso
      cases hl : spW R a Z z with
      | nil => exact hw hl
      | cons x l =>
        have := (hs.2 0 (by rw [hl]; exact Nat.succ_pos _)).2.2.1
        rw [memK_iff] at this
        exact nomatch (mem_tkN _).1 this
    | cons y Y =>
      rw [h0, h1] at hs hb eP eB hc
      refine owAp_ok hA hZ (fun _ => pn_y hb) (fun hw => ?_) hc
      rw [eP, eB]; exact pm_y hb hs ht
  | cons x X => cases h1 : bkX R a 1 with
    | nil =>
      rw [h0, h1] at hs hb eP eB hc
      refine owAp_ok hA hZ (fun _ => pn_x hb) (fun hw => ?_) hc
      rw [eP, eB]; exact pm_x hb hs ht
    | cons y Y =>
      rw [h0, h1] at hs hb eP eB hc
      refine owAp_ok hA hZ (fun _ => pn_b hb) (fun hw => ?_) hc
      rw [eP, eB]; exact pm_b hb hs ht
end Go.Proofs.YtphhepnldndbhaaGreatDoor

/- Layer 14: SpillApart: rounds of its loops. -/
set_option linter.unusedVariables false
set_option linter.unusedSimpArgs false
set_option linter.unusedSectionVars false
namespace Go.Proofs.YtphhepnldndbhaaGreatDoor
open Go Sx
abbrev fAp : FuncId := 4
noncomputable abbrev bAp : Code := bodyOf Tryz.f4
def tAq : Tab := [(23, eHas), (22, eMeet)]
theorem tAq_ok : TabOK Tryz.prog tAq := .cons eHas_ok (.cons eMeet_ok .nil)
noncomputable abbrev loopA (k : Nat) : Code := ((loopBodies bAp).drop k).headD .skip
abbrev a5 (s r c h w : Int) : PObj := .raw (.cells [.int .i64 s, .int .i64 r, .int .i64 c, .int .i64 h, .int .i64 w] 51)
abbrev a5R (x : List CV) : PObj := a5 (c0 x) (c1 x) (c2 x) (c3 x) (c4 x)
/-- An index into rows that are never written. -/
def ckF (i : Int) (L : List (List CV)) : Bool := decide (i.toNat < L.length) && true && true
theorem ckF_nat {i : Nat} {L : List (List CV)} (h : i < L.length) : ckF (i : Int) L = true := by unfold ckF; rw [Int.toNat_natCast, decide_eq_true h]; rfl
def eq3 (x y : List CV) : Bool := c0 x == c0 y && (c1 x == c1 y && (c2 x == c2 y && true))
def eq5 (x y : List CV) : Bool := (c0 x == c0 y && (c1 x == c1 y && (c2 x == c2 y && true))) && (c3 x == c3 y && (c4 x == c4 y && true))
abbrev mtR2 (x y : List CV) : Bool := meetB (c0 x) (c1 x) (c2 x) (c3 x) (c4 x) (c0 y) (c1 y) (c2 y) (c3 y) (c4 y)
section
variable (R Z O P B C : List (List CV)) (nO nP nB nC : Nat) (i k n : Int) (x : List CV)
def gA (x13 x14 x15 x18 : Option AV) (t : List (Option PObj)) : PState := ⟨nn 5 ++ (some (.bool true) :: none :: some (.dsl 2 nO) :: some (.dsl 3 nP) :: some (.dsl 4 nB) :: none :: some (.dsl 5 nC) :: none :: x13 :: x14 :: x15 :: none :: none :: x18 :: nn 141), some (fA R) :: some (fZ Z) :: some (fSp O) :: some (fSp P) :: some (fA B) :: some (fA C) :: (t ++ nn 64)⟩
def gB (x19 x20 x21 : Option AV) : PState := ⟨nn 5 ++ (some (.bool true) :: none :: some (.dsl 2 nO) :: some (.dsl 3 nP) :: some (.dsl 4 nB) :: nn 9 ++ (x19 :: x20 :: x21 :: nn 138)), some (fA R) :: some (fZ Z) :: some (fSp O) :: some (fSp P) :: some (fA B) :: nn 64⟩
def s9 (i : Int) : PState := gA R Z O P B C nO nP nB nC (some (.int .i64 i)) none none none []
def s13 (i k : Int) (x : List CV) : PState := gA R Z O P B C nO nP nB nC (some (.int .i64 i)) (some (.ptr 6 0)) (some (.int .i64 k)) none [some (a5R x)]
def s13X (i : Int) (x : List CV) : PState := gA R Z O P B C nO nP nB nC (some (.int .i64 i)) (some (.ptr 6 0)) none none [some (a5R x)]
def s19 (i k : Int) (x : List CV) : PState := gA R Z O P B C nO nP nB nC (some (.int .i64 i)) (some (.ptr 6 0)) none (some (.int .i64 k)) [some (a5R x)]
def s26 (i k n : Int) : PState := gB R Z O P B nO nP nB (some (.int .i64 i)) (some (.int .i64 k)) (some (.int .i64 n))
def s26X (i k : Int) : PState := gB R Z O P B nO nP nB (some (.int .i64 i)) (some (.int .i64 k)) none
abbrev k9 : Nat → Bool := fun n => hasN [5, 7, 8, 9, 11, 13] n
abbrev k13 : Nat → Bool := fun n => hasN [5, 7, 8, 9, 11, 13, 14, 15] n
abbrev k13X : Nat → Bool := fun n => hasN [5, 7, 8, 9, 11, 13, 14] n
abbrev k19 : Nat → Bool := fun n => hasN [5, 7, 8, 9, 11, 13, 14, 18] n
abbrev k26 : Nat → Bool := fun n => hasN [5, 7, 8, 9, 19, 20, 21] n
abbrev k26X : Nat → Bool := fun n => hasN [5, 7, 8, 9, 19, 20] n
theorem r13 : code (ent Tryz.prog tAq nolv 64 1 20) Tryz.prog {} 2 64 1 (loopA 1) (s13 R Z O P B C nO nP nB nC i k x) (endK 2 64 k13 k13X)
  = bcond (decide (k < i)) (chks (bcond (mtR2 x (Sx.rowAt P k.toNat)) (some (.ret, s13X R Z O P B C nO nP nB nC i x)) (some (.normal, s13 R Z O P B C nO nP nB nC i (up1 k) x))) [ixN k nP, ckF k P]) (some (.exit 2, s13X R Z O P B C nO nP nB nC i x)) := by kernel_rfl
theorem r19 : code (ent Tryz.prog tAq nolv 64 1 20) Tryz.prog {} 2 64 1 (loopA 2) (s19 R Z O P B C nO nP nB nC i k x) (endK 2 64 k19 k9)
  = bcond (decide (k < (nC : Int))) (chks (bcond (hasR x (c0 (Sx.rowAt C k.toNat)) (c1 (Sx.rowAt C k.toNat)) (c2 (Sx.rowAt C k.toNat)) != eq3 (Sx.rowAt C k.toNat) (Sx.rowAt P i.toNat)) (some (.ret, s9 R Z O P B C nO nP nB nC i)) (some (.normal, s19 R Z O P B C nO nP nB nC i (up1 k) x))) [ixN k nC, ckF k C, ixN k nC, ckF k C, ixN i nP, ckF i P]) (some (.exit 4, s9 R Z O P B C nO nP nB nC i)) := by kernel_rfl
noncomputable def qB : Option (Ex × PState) := bcond (decide (k ≥ (nB : Int))) (some (.ret, s26X R Z O P B nO nP nB i k)) (chks (bcond (!eq3 (Sx.rowAt B k.toNat) (Sx.rowAt O n.toNat)) (some (.ret, s26X R Z O P B nO nP nB i k)) (some (.normal, s26 R Z O P B nO nP nB i (up1 k) (up1 n)))) [ixN k nB, ckF k B, ixN n nO, ckF n O])
theorem r26 : code (ent Tryz.prog tAq nolv 64 1 20) Tryz.prog {} 2 64 1 (loopA 3) (s26 R Z O P B nO nP nB i k n) (endK 2 64 k26 k26X)
  = bcond (decide (n < (nO : Int))) (bcond (decide (i < (nP : Int))) (chks (bcond (eq5 (Sx.rowAt P i.toNat) (Sx.rowAt O n.toNat)) (some (.normal, s26 R Z O P B nO nP nB (up1 i) k (up1 n))) (qB R Z O P B nO nP nB i k n)) [ixN i nP, ckF i P, ixN n nO, ckF n O]) (qB R Z O P B nO nP nB i k n)) (some (.exit 6, s26X R Z O P B nO nP nB i k)) := by kernel_rfl
end
end Go.Proofs.YtphhepnldndbhaaGreatDoor

/- The evaluator, part S: loops of a piece of code, one by one. -/
set_option linter.unusedVariables false
set_option linter.unusedSimpArgs false
namespace Go.Proofs.YtphhepnldndbhaaGreatDoor.Sx
open Go
variable {P : Program}
theorem loops_at {lv : Lv} {K : Nat} {z : Code} (l : List (Code × Nat)) (hb : loopBodies z = l.map (·.1)) (hh : ∀ p ∈ l, headReg p.1 = some p.2) (h : ∀ p ∈ l, ∀ e, lv.ent p.2 = some e → ∀ t, LAnsOK P p.1 K t (e K t)) : LoopsOK P lv K z := fun x hx id e hid he t => by
  rw [hb] at hx
  obtain ⟨p, hp, rfl⟩ := List.mem_map.1 hx
  rw [hh p hp] at hid; cases hid
  exact h p hp e he t
/-- A loop's answer, if a condition holds. -/
def outC (b : Bool) (ex : Ex) (s : PState) : LAns := .chk b (.out ex s)
theorem outC_ok {x : Code} {K : Nat} {s : PState} {b : Bool} {ex : Ex} {t : PState} (h : b = true → Tri P (.loop x) s.toA ex t.toA K) : LAnsOK P x K s (outC b ex t) := ⟨fun hb => h hb, fun _ => trivial⟩
end Go.Proofs.YtphhepnldndbhaaGreatDoor.Sx

/- Layer 14: SpillApart: its loops. -/
set_option linter.unusedVariables false
set_option linter.unusedSimpArgs false
set_option linter.unusedSectionVars false
namespace Go.Proofs.YtphhepnldndbhaaGreatDoor
open Go Sx
section
variable {R Z O P B C : List (List CV)}
theorem loop13 (hl : P.length ≤ 1000) {i : Nat} (hi : i < P.length) {x : List CV} (h : ∀ k, k < i → mtR2 x (Sx.rowAt P k) = false) : Tri Tryz.prog (.loop (loopA 1)) (s13 R Z O P B C O.length P.length B.length C.length (i : Int) 0 x).toA (.exit 2) (s13X R Z O P B C O.length P.length B.length C.length (i : Int) x).toA 2 := by
  refine tri_up (body := loopA 1) (fun j => (s13 R Z O P B C O.length P.length B.length C.length (i : Int) (j : Int) x).toA) (fun e => by cases e) i (fun j hj => ?_) ?_ 0 (Nat.zero_le _)
  · refine n_sound tAq_ok ((r13 R Z O P B C O.length P.length B.length C.length (i : Int) (j : Int) x).trans ?_)
    rw [bcT (decide_eq_true (by omega)), chks_true (all2 (ixN_nat (by omega)) (ckF_nat (by omega))), Int.toNat_natCast, bcF (h j hj), up1_nat (by omega)]
  · refine n_sound tAq_ok ((r13 R Z O P B C O.length P.length B.length C.length (i : Int) (i : Int) x).trans ?_)
    rw [bcF (decide_eq_false (by omega))]
theorem loop19 (hl : P.length ≤ 1000) (hc : C.length ≤ 1000) {i : Nat} (hi : i < P.length) {x : List CV} (h : ∀ k, k < C.length → hasR x (c0 (Sx.rowAt C k)) (c1 (Sx.rowAt C k)) (c2 (Sx.rowAt C k)) = eq3 (Sx.rowAt C k) (Sx.rowAt P i)) : Tri Tryz.prog (.loop (loopA 2)) (s19 R Z O P B C O.length P.length B.length C.length (i : Int) 0 x).toA (.exit 4) (s9 R Z O P B C O.length P.length B.length C.length (i : Int)).toA 2 := by
  refine tri_up (body := loopA 2) (fun j => (s19 R Z O P B C O.length P.length B.length C.length (i : Int) (j : Int) x).toA) (fun e => by cases e) C.length (fun j hj => ?_) ?_ 0 (Nat.zero_le _)
  · refine n_sound tAq_ok ((r19 R Z O P B C O.length P.length B.length C.length (i : Int) (j : Int) x).trans ?_)
    have ck : ∀ b ∈ [ixN (j : Int) C.length, ckF (j : Int) C, ixN (j : Int) C.length, ckF (j : Int) C, ixN (i : Int) P.length, ckF (i : Int) P], b = true := by
      intro b hb
      simp only [List.mem_cons, List.not_mem_nil, or_false] at hb
      rcases hb with rfl | rfl | rfl | rfl | rfl | rfl
      · exact ixN_nat hj
      · exact ckF_nat hj
      · exact ixN_nat hj
      · exact ckF_nat hj
      · exact ixN_nat hi
      · exact ckF_nat hi
    rw [bcT (decide_eq_true (by omega)), chks_true ck, Int.toNat_natCast, Int.toNat_natCast, h j hj, bcF (by simp), up1_nat (by omega)]
  · refine n_sound tAq_ok ((r19 R Z O P B C O.length P.length B.length C.length (i : Int) (C.length : Int) x).trans ?_)
    rw [bcF (decide_eq_false (by omega))]
end
section
variable (R Z O P B C : List (List CV)) (nO nP nB nC : Nat) (i : Int) (x : List CV) (o1 o2 : Bool)
noncomputable def lv9 : Lv := { keep := fun i => if i = 13 then some [5, 7, 8, 9, 11, 13, 14, 15] else if i = 19 then some [5, 7, 8, 9, 11, 13, 14, 18] else none, ent := twoL 13 (eAt 2 (s13 R Z O P B C nO nP nB nC i 0 x) (outC o1 (.exit 2) (s13X R Z O P B C nO nP nB nC i x))) 19 (eAt 2 (s19 R Z O P B C nO nP nB nC i 0 x) (outC o2 (.exit 4) (s9 R Z O P B C nO nP nB nC i))) }
def gBn : PState := gB R Z O P B nO nP nB none none none
theorem r9 : code (ent Tryz.prog tAq nolv 64 1 20) Tryz.prog (lv9 R Z O P B C nO nP nB nC i (Sx.rowAt P i.toNat) o1 o2) 2 64 1 (loopA 0) (s9 R Z O P B C nO nP nB nC i) (endK 2 64 k9 (fun n => hasN [5, 7, 8, 9] n))
  = bcond (decide (i < (nP : Int))) (chks (some (.normal, s9 R Z O P B C nO nP nB nC (up1 i))) [ixN i nP, ckF i P, eqSt (s13 R Z O P B C nO nP nB nC i 0 (Sx.rowAt P i.toNat)) (s13 R Z O P B C nO nP nB nC i 0 (Sx.rowAt P i.toNat)), o1, eqSt (s19 R Z O P B C nO nP nB nC i 0 (Sx.rowAt P i.toNat)) (s19 R Z O P B C nO nP nB nC i 0 (Sx.rowAt P i.toNat)), o2]) (some (.exit 0, gBn R Z O P B nO nP nB)) := by kernel_rfl
end
theorem lv9_ok {R Z O P B C : List (List CV)} {nO nP nB nC : Nat} {i : Int} {x : List CV} {o1 o2 : Bool} (h1 : o1 = true → Tri Tryz.prog (.loop (loopA 1)) (s13 R Z O P B C nO nP nB nC i 0 x).toA (.exit 2) (s13X R Z O P B C nO nP nB nC i x).toA 2)
    (h2 : o2 = true → Tri Tryz.prog (.loop (loopA 2)) (s19 R Z O P B C nO nP nB nC i 0 x).toA (.exit 4) (s9 R Z O P B C nO nP nB nC i).toA 2) : LoopsOK Tryz.prog (lv9 R Z O P B C nO nP nB nC i x o1 o2) 2 (loopA 0) := by
  refine loops_at [(loopA 1, 13), (loopA 2, 19)] (by kernel_rfl) (fun p hp => ?_) fun p hp e he t => ?_
  · simp only [List.mem_cons, List.not_mem_nil, or_false] at hp
    rcases hp with rfl | rfl
    · kernel_rfl
    · kernel_rfl
  · simp only [List.mem_cons, List.not_mem_nil, or_false] at hp
    rcases hp with rfl | rfl
    · cases he; exact eAt_ok (outC_ok h1) 2 t
    · cases he; exact eAt_ok (outC_ok h2) 2 t
theorem loop9 {R Z O P B C : List (List CV)} (hl : P.length ≤ 1000) (hc : C.length ≤ 1000) (hm : ∀ i k, k < i → i < P.length → mtR2 (Sx.rowAt P i) (Sx.rowAt P k) = false) (hh : ∀ i k, i < P.length → k < C.length → hasR (Sx.rowAt P i) (c0 (Sx.rowAt C k)) (c1 (Sx.rowAt C k)) (c2 (Sx.rowAt C k)) = eq3 (Sx.rowAt C k) (Sx.rowAt P i)) :
    Tri Tryz.prog (.loop (loopA 0)) (s9 R Z O P B C O.length P.length B.length C.length 0).toA (.exit 0) (gBn R Z O P B O.length P.length B.length).toA 2 := by
  refine tri_up (body := loopA 0) (fun j => (s9 R Z O P B C O.length P.length B.length C.length (j : Int)).toA) (fun e => by cases e) P.length (fun j hj => ?_) ?_ 0 (Nat.zero_le _)
  · have key := r9 R Z O P B C O.length P.length B.length C.length (j : Int) true true
    have ck : ∀ b ∈ [ixN (j : Int) P.length, ckF (j : Int) P, eqSt (s13 R Z O P B C O.length P.length B.length C.length (j : Int) 0 (Sx.rowAt P (j : Int).toNat)) (s13 R Z O P B C O.length P.length B.length C.length (j : Int) 0 (Sx.rowAt P (j : Int).toNat)), true, eqSt (s19 R Z O P B C O.length P.length B.length C.length (j : Int) 0 (Sx.rowAt P (j : Int).toNat)) (s19 R Z O P B C O.length P.length B.length C.length (j : Int) 0 (Sx.rowAt P (j : Int).toNat)), true], b = true := by
      intro b hb
      simp only [List.mem_cons, List.not_mem_nil, or_false] at hb
      rcases hb with rfl | rfl | rfl | rfl | rfl | rfl
      · exact ixN_nat hj
      · exact ckF_nat hj
      · exact eqSt_refl _
      · rfl
      · exact eqSt_refl _
      · rfl
    rw [bcT (decide_eq_true (by omega)), chks_true ck, up1_nat (by omega)] at key
    refine round_sound (ent_sound tAq_ok host nolv_ok (NF := 64) (m := 1) 20) (lv9_ok (fun _ => ?_) (fun _ => ?_)) key
    · rw [Int.toNat_natCast]; exact loop13 hl hj fun k hk => hm j k hk hj
    · rw [Int.toNat_natCast]; exact loop19 hl hc hj fun k hk => hh j k hj hk
  · have key := r9 R Z O P B C O.length P.length B.length C.length (P.length : Int) false false
    rw [bcF (decide_eq_false (by omega))] at key
    exact round_sound (ent_sound tAq_ok host nolv_ok (NF := 64) (m := 1) 20) (lv9_ok (fun e => by cases e) (fun e => by cases e)) key
end Go.Proofs.YtphhepnldndbhaaGreatDoor

/- Layer 14: SpillCover: the law. -/
set_option linter.unusedVariables false
set_option linter.unusedSimpArgs false
set_option linter.unusedSectionVars false
namespace Go.Proofs.YtphhepnldndbhaaGreatDoor
open Go Sx
abbrev fSC : FuncId := 8
noncomputable abbrev bSC : Code := bodyOf Tryz.f8
section
variable (R Z P : List (List CV)) (s r c m : Int) (x : List CV) (k1 k0 : Bool)
noncomputable def eZZ : Nat → PState → LAns := fun K st => match st.slots with
  | _ :: _ :: _ :: _ :: _ :: _ :: _ :: _ :: _ :: _ :: _ :: _ :: _ :: some (.bool true) :: _ => eAt 2 (sZ R Z P P.length s r c (c0 x) (c1 x) (c2 x) (c3 x) (c4 x) true 0 0) (.chk k1 (.out (.exit 0) (sZX R Z (c0 x) (c1 x) (c2 x) (c3 x) (c4 x) true m))) K st
  | _ => eAt 2 (sZ R Z P P.length s r c 0 0 0 0 0 false 0 0) (.chk k0 (.out (.exit 0) (sZX R Z 0 0 0 0 0 false m))) K st
noncomputable def lvCo : Lv := lvOf fSC (fun _ => some [7, 8, 11, 12, 13, 14, 15]) (oneL 9 (eZZ R Z P s r c m x k1 k0)) fSC
abbrev oF : Option (AV × List PObj) := pure2 (.bool false) [fA R, fZ Z]
abbrev oT : Option (AV × List PObj) := pure2 (.bool true) [fA R, fZ Z]
theorem co_vec : code (ent (R := AV × List PObj) Tryz.prog tCo nolv 64 1 20) Tryz.prog (lvCo R Z P (pickS s 2) (pickS r 12) (pickS c 10) m (Sx.rowAt P (covN P (pickS s 2) (pickS r 12) (pickS c 10))) k1 k0) 2 64 1 (restC 3 bSC) (sHd R Z s r c (.vec 3 P.length) [some (vS P)]) (finP Tryz.prog Tryz.f8 2 [fA R, fZ Z] pure2)
  = chks (bcond (decide (covN P (pickS s 2) (pickS r 12) (pickS c 10) < P.length))
      (bcond (eqSt (sZ R Z P P.length (pickS s 2) (pickS r 12) (pickS c 10) (c0 (Sx.rowAt P (covN P (pickS s 2) (pickS r 12) (pickS c 10)))) (c1 (Sx.rowAt P (covN P (pickS s 2) (pickS r 12) (pickS c 10)))) (c2 (Sx.rowAt P (covN P (pickS s 2) (pickS r 12) (pickS c 10)))) (c3 (Sx.rowAt P (covN P (pickS s 2) (pickS r 12) (pickS c 10)))) (c4 (Sx.rowAt P (covN P (pickS s 2) (pickS r 12) (pickS c 10)))) true 0 0) (sZ R Z P P.length (pickS s 2) (pickS r 12) (pickS c 10) (c0 (Sx.rowAt P (covN P (pickS s 2) (pickS r 12) (pickS c 10)))) (c1 (Sx.rowAt P (covN P (pickS s 2) (pickS r 12) (pickS c 10)))) (c2 (Sx.rowAt P (covN P (pickS s 2) (pickS r 12) (pickS c 10)))) (c3 (Sx.rowAt P (covN P (pickS s 2) (pickS r 12) (pickS c 10)))) (c4 (Sx.rowAt P (covN P (pickS s 2) (pickS r 12) (pickS c 10)))) true 0 0))
        (bcond k1 (bcond (true == decide (m > 0)) (bcond (decide (m ≤ 1)) (oT R Z) (oF R Z)) (oF R Z)) none) none)
      (bcond (eqSt (sZ R Z P P.length (pickS s 2) (pickS r 12) (pickS c 10) 0 0 0 0 0 false 0 0) (sZ R Z P P.length (pickS s 2) (pickS r 12) (pickS c 10) 0 0 0 0 0 false 0 0))
        (bcond k0 (bcond (false == decide (m > 0)) (bcond (decide (m ≤ 1)) (oT R Z) (oF R Z)) (oF R Z)) none) none)) [inI s, inI r, inI c, Nat.beq P.length P.length, decide (P.length ≤ 1000)] := by kernel_rfl
theorem co_nil : code (ent (R := AV × List PObj) Tryz.prog tCo nolv 64 1 20) Tryz.prog {} 2 64 1 (restC 3 bSC) (sHd R Z s r c .nilslice []) (finP Tryz.prog Tryz.f8 2 [fA R, fZ Z] pure2) = chks (oT R Z) [inI s, inI r, inI c] := by kernel_rfl
end
theorem lvCo_ok {R Z P : List (List CV)} {s r c m : Int} {x : List CV} {k1 k0 : Bool} (h1 : k1 = true → Tri Tryz.prog (.loop loopZ) (sZ R Z P P.length s r c (c0 x) (c1 x) (c2 x) (c3 x) (c4 x) true 0 0).toA (.exit 0) (sZX R Z (c0 x) (c1 x) (c2 x) (c3 x) (c4 x) true m).toA 2)
    (h0 : k0 = true → Tri Tryz.prog (.loop loopZ) (sZ R Z P P.length s r c 0 0 0 0 0 false 0 0).toA (.exit 0) (sZX R Z 0 0 0 0 0 false m).toA 2) : LoopsOK Tryz.prog (lvCo R Z P s r c m x k1 k0) 2 (restC 3 bSC) := fun y hy id e hid he t => by
  have e1 : loopBodies (restC 3 bSC) = [loopZ] := by kernel_rfl
  rw [e1] at hy
  obtain rfl := List.mem_singleton.1 hy
  have he : oneL 9 (eZZ R Z P s r c m x k1 k0) id = some e := he
  obtain ⟨rfl, _⟩ := oneL_some he
  unfold eZZ
  split
  · exact eAt_ok (x := loopZ) (a := .chk k1 (.out (.exit 0) (sZX R Z (c0 x) (c1 x) (c2 x) (c3 x) (c4 x) true m))) ⟨fun hk => h1 hk, fun _ => trivial⟩ 2 t
  · exact eAt_ok (x := loopZ) (a := .chk k0 (.out (.exit 0) (sZX R Z 0 0 0 0 0 false m))) ⟨fun hk => h0 hk, fun _ => trivial⟩ 2 t
theorem sc_meets {R Z : List (List CV)} {a z : Nat} {s r c : Int} (hA : okA a R) (hZ : okZ z Z) (is : inI s = true) (ir : inI r = true) (ic : inI c = true) : Meets Tryz.prog fSC [.dsl 0 a, .dsl 1 z, .agg [.int .i64 s, .int .i64 r, .int .i64 c]] ([fA R, fZ Z].map PObj.toA) (.bool true) ([fA R, fZ Z].map PObj.toA) := by
  have hbody : Tryz.f8.body = some bSC := by kernel_rfl
  have hrest : GoesTo Tryz.prog Tryz.f8 [fA R, fZ Z] pure2 (restC 3 bSC) (sHd R Z s r c (plR 3 (lwP R a Z z)) (plM (lwP R a Z z))) (AV.bool true, [fA R, fZ Z]) := by
    have hf := @lwP_fits R Z a z
    have hu := @lwP_uniq R Z a z
    have ho := @cov_own R Z a z
    have hi := @cov_is R Z a z
    have hc := @cnt_at R Z a z (pickS s 2) (pickS r 12) (pickS c 10)
    have hl := lwP_le R a Z z
    generalize lwP R a Z z = P at *
    cases P with
    | nil =>
      have ck : ∀ b ∈ [inI s, inI r, inI c], b = true := by
        intro b hb
        simp only [List.mem_cons, List.not_mem_nil, or_false] at hb
        rcases hb with rfl | rfl | rfl <;> assumption
      have key := co_nil R Z s r c
      rw [chks_true ck] at key
      exact goes_code (pre := [fA R, fZ Z]) (ent_sound tCo_ok host nolv_ok 20) loops_none key
    | cons p0 P0 =>
      generalize hP : p0 :: P0 = P at *
      have e1 : plR 3 P = .vec 3 P.length := by rw [← hP]; rfl
      have e2 : plM P = [some (vS P)] := by rw [← hP]; rfl
      rw [e1, e2]
      have ck : ∀ b ∈ [inI s, inI r, inI c, Nat.beq P.length P.length, decide (P.length ≤ 1000)], b = true := by
        intro b hb
        simp only [List.mem_cons, List.not_mem_nil, or_false] at hb
        rcases hb with rfl | rfl | rfl | rfl | rfl
        · exact is
        · exact ir
        · exact ic
        · exact Nat.beq_refl _
        · exact decide_eq_true (by omega)
      have hcn := hc P.length (Nat.le_refl _)
      by_cases hh : covN P (pickS s 2) (pickS r 12) (pickS c 10) < P.length
      · rw [decide_eq_true hh] at hcn
        have lo := loopZZ (R := R) (Z := Z) (P := P) (s := pickS s 2) (r := pickS r 12) (c := pickS c 10) (u0 := c0 (Sx.rowAt P (covN P (pickS s 2) (pickS r 12) (pickS c 10)))) (u1 := c1 (Sx.rowAt P (covN P (pickS s 2) (pickS r 12) (pickS c 10)))) (u2 := c2 (Sx.rowAt P (covN P (pickS s 2) (pickS r 12) (pickS c 10)))) (u3 := c3 (Sx.rowAt P (covN P (pickS s 2) (pickS r 12) (pickS c 10)))) (u4 := c4 (Sx.rowAt P (covN P (pickS s 2) (pickS r 12) (pickS c 10)))) (b := true) (by omega) (fun j hj => ho hj) (fun j hj h => by rw [hi hj h]; exact eqS_self _)
        rw [hcn] at lo
        refine goes_code (pre := [fA R, fZ Z]) (ent_sound tCo_ok host nolv_ok 20) (lvCo_ok (m := 1) (k1 := true) (k0 := false) (fun _ => lo) (fun e => by cases e)) ((co_vec R Z P s r c 1 true false).trans ?_)
        rw [chks_true ck, bcT (decide_eq_true hh), bcT (eqSt_refl _)]
        rfl
      · rw [decide_eq_false hh] at hcn
        have lo := loopZZ (R := R) (Z := Z) (P := P) (s := pickS s 2) (r := pickS r 12) (c := pickS c 10) (u0 := 0) (u1 := 0) (u2 := 0) (u3 := 0) (u4 := 0) (b := false) (by omega) (fun j hj => ho hj) (fun j hj h => absurd (by rw [hi hj h]; exact hj) hh)
        rw [hcn] at lo
        refine goes_code (pre := [fA R, fZ Z]) (ent_sound tCo_ok host nolv_ok 20) (lvCo_ok (m := 0) (k1 := false) (k0 := true) (fun e => by cases e) (fun _ => lo)) ((co_vec R Z P s r c 0 false true).trans ?_)
        rw [chks_true ck, bcF (decide_eq_false hh), bcT (eqSt_refl _)]
        rfl
  obtain ⟨res, post, k1, k2⟩ := goes_meets (R := AV × List PObj) (NF := 64) (args := [.dsl 0 a, .dsl 1 z, .agg [.int .i64 s, .int .i64 r, .int .i64 c]]) (pre := [fA R, fZ Z]) (k := pure2) (r := (.bool true, [fA R, fZ Z])) host Tryz.func8 hbody
    (goes_cut (pre := [fA R, fZ Z]) (ent_sound (tHd_ok (lwP R a Z z) (lwB R a Z z)) host nolv_ok 20) loops_none (hd_done hA hZ) hrest)
  cases k2
  exact k1
end Go.Proofs.YtphhepnldndbhaaGreatDoor

/- Layer 14: areas that meet; cells in areas; what is placed, what is blocked, one by one. -/
set_option linter.unusedVariables false
set_option linter.unusedSimpArgs false
set_option linter.unusedSectionVars false
namespace Go.Proofs.YtphhepnldndbhaaGreatDoor
open Go Sx
theorem eq3_iff {x y : List CV} : eq3 x y = true ↔ c0 x = c0 y ∧ c1 x = c1 y ∧ c2 x = c2 y := by
  unfold eq3
  simp only [Bool.and_eq_true, beq_iff_eq, and_true]
theorem eq5_iff {x y : List CV} : eq5 x y = true ↔ (c0 x = c0 y ∧ c1 x = c1 y ∧ c2 x = c2 y) ∧ c3 x = c3 y ∧ c4 x = c4 y := by
  unfold eq5
  simp only [Bool.and_eq_true, beq_iff_eq, and_true]
/-- Two areas meet. -/
theorem mt_iff {x y : List CV} (hx : Fits x) (hy : Fits y) : mtR2 x y = true ↔ c0 x = c0 y ∧ (c1 x < c1 y + c3 y ∧ c1 y < c1 x + c3 x) ∧ c2 x < c2 y + c4 y ∧ c2 y < c2 x + c4 x := by
  obtain ⟨h0, h1, h2, h3, h4⟩ := hx
  obtain ⟨g0, g1, g2, g3, g4⟩ := hy
  have ha : areaB (c0 x) (c1 x) (c2 x) (c3 x) (c4 x) = true := (areaB_iff (inI_iff.2 ⟨by omega, by omega⟩) (inI_iff.2 ⟨by omega, by omega⟩)).2 (by omega)
  have hb : areaB (c0 y) (c1 y) (c2 y) (c3 y) (c4 y) = true := (areaB_iff (inI_iff.2 ⟨by omega, by omega⟩) (inI_iff.2 ⟨by omega, by omega⟩)).2 (by omega)
  have er : ∀ {a b : Int}, 0 ≤ a ∧ a ≤ 1000 → 0 ≤ b ∧ b ≤ 1000 → 0 ≤ mxI a b ∧ mxI a b ≤ 1000 := fun ha hb => by unfold mxI; split <;> omega
  have e1 := er (a := c1 x) (b := c1 y) ⟨by omega, by omega⟩ ⟨by omega, by omega⟩
  have e2 := er (a := c2 x) (b := c2 y) ⟨by omega, by omega⟩ ⟨by omega, by omega⟩
  have eH : mtH (c1 x) (c3 x) (c1 y) (c3 y) = (if c1 y + c3 y < c1 x + c3 x then c1 y + c3 y else c1 x + c3 x) - (if c1 y > c1 x then c1 y else c1 x) := by
    unfold mtH
    rw [w64_small (a := c1 x + c3 x) (by omega) (by omega), w64_small (a := c1 y + c3 y) (by omega) (by omega)]
    show w64 ((if c1 y + c3 y < c1 x + c3 x then c1 y + c3 y else c1 x + c3 x) - (if c1 y > c1 x then c1 y else c1 x)) = _
    exact w64_small (by split <;> split <;> omega) (by split <;> split <;> omega)
  have eW : mtW (c2 x) (c4 x) (c2 y) (c4 y) = (if c2 y + c4 y < c2 x + c4 x then c2 y + c4 y else c2 x + c4 x) - (if c2 y > c2 x then c2 y else c2 x) := by
    unfold mtW
    rw [w64_small (a := c2 x + c4 x) (by omega) (by omega), w64_small (a := c2 y + c4 y) (by omega) (by omega)]
    show w64 ((if c2 y + c4 y < c2 x + c4 x then c2 y + c4 y else c2 x + c4 x) - (if c2 y > c2 x then c2 y else c2 x)) = _
    exact w64_small (by split <;> split <;> omega) (by split <;> split <;> omega)
  unfold mtR2 meetB meetC
  rw [allB_iff, ha, hb, eH, eW]
  simp only [List.mem_cons, List.not_mem_nil, or_false, forall_eq_or_imp, forall_eq, Bool.not_eq_true', bne_eq_false_iff_eq, true_and]
  unfold mtR mtC
  rw [areaB_iff (inI_iff.2 ⟨by omega, by omega⟩) (inI_iff.2 ⟨by omega, by omega⟩)]
  show _ ∧ _ ∧ (_ ∧ _ ∧ _ ≤ 200 - (if c1 y > c1 x then c1 y else c1 x)) ∧ _ ∧ _ ∧ _ ≤ 52 - (if c2 y > c2 x then c2 y else c2 x) ↔ _
  unfold mxI at *
  constructor
  · rintro ⟨k0, _, ⟨_, k1, _⟩, _, k2, _⟩
    refine ⟨k0, ?_, ?_⟩
    · split at k1 <;> split at k1 <;> omega
    · split at k2 <;> split at k2 <;> omega
  · rintro ⟨k0, ⟨k1, k2⟩, k3, k4⟩
    refine ⟨k0, ⟨by omega, by omega⟩, ⟨by omega, ?_, ?_⟩, by omega, ?_, ?_⟩
    · split <;> split <;> omega
    · split <;> split <;> omega
    · split <;> split <;> omega
    · split <;> split <;> omega
theorem mt_within {x y : List CV} (hx : Fits x) (hy : Fits y) (h : mtR2 x y = true) : ∃ s r c, Within x s r c ∧ Within y s r c := by
  obtain ⟨k0, k1, k2⟩ := (mt_iff hx hy).1 h
  obtain ⟨h0, h1, h2, h3, h4⟩ := hx
  obtain ⟨g0, g1, g2, g3, g4⟩ := hy
  refine ⟨c0 x, max (c1 x) (c1 y), max (c2 x) (c2 y), ⟨rfl, by omega, by omega⟩, k0.symm, by omega, by omega⟩
theorem within_mt {x y : List CV} (hx : Fits x) (hy : Fits y) {s r c : Int} (h1 : Within x s r c) (h2 : Within y s r c) : mtR2 x y = true := by
  rw [mt_iff hx hy]
  obtain ⟨a0, a1, a2⟩ := h1
  obtain ⟨b0, b1, b2⟩ := h2
  omega
section
variable {R Z : List (List CV)} {a z : Nat}
theorem lwP_meet {i k : Nat} (hi : i < (lwP R a Z z).length) (hk : k < i) : mtR2 (Sx.rowAt (lwP R a Z z) i) (Sx.rowAt (lwP R a Z z) k) = false := by
  cases h : mtR2 (Sx.rowAt (lwP R a Z z) i) (Sx.rowAt (lwP R a Z z) k) with
  | false => rfl
  | true =>
    obtain ⟨s, r, c, h1, h2⟩ := mt_within (lwP_fits hi) (lwP_fits (show k < _ by omega)) h
    have := lwP_uniq hi (show k < _ by omega) ((hasR_iff (lwP_fits hi)).2 h1) ((hasR_iff (lwP_fits (show k < _ by omega))).2 h2)
    omega
theorem cell_key {k : Nat} (hk : k < (bkC R a).length) : keyR (Sx.rowAt (bkC R a) k) ∈ bkK R a := mem_tkN _ |>.2 ⟨k, hk, rfl⟩
theorem lwP_cell {i k : Nat} (hi : i < (lwP R a Z z).length) (hk : k < (bkC R a).length) : hasR (Sx.rowAt (lwP R a Z z) i) (c0 (Sx.rowAt (bkC R a) k)) (c1 (Sx.rowAt (bkC R a) k)) (c2 (Sx.rowAt (bkC R a) k)) = eq3 (Sx.rowAt (bkC R a) k) (Sx.rowAt (lwP R a Z z) i) := by
  have hf := lwP_fits hi
  rw [Bool.eq_iff_iff, hasR_iff hf, eq3_iff]
  constructor
  · intro h
    have e := (good_lw R a Z z).free _ (row_mem hi) _ ((inA_iff hf).2 h) (cell_key hk)
    simp only [keyR, List.cons.injEq, and_true] at e
    exact e
  · rintro ⟨e0, e1, e2⟩
    rw [e0, e1, e2]
    exact within_own hf
end
theorem eq5_row (O : List (List CV)) (j : Nat) : eq5 (spL1 O (j : Int)) (Sx.rowAt O j) = true := by
  rw [← rwL_nat, eq5_iff]
  exact ⟨⟨rfl, rfl, rfl⟩, rfl, rfl⟩
theorem eq3_row (O : List (List CV)) (j : Nat) : eq3 (atL1 O (j : Int)) (Sx.rowAt O j) = true := by
  rw [← rwL_nat, eq3_iff]
  exact ⟨rfl, rfl, rfl⟩
/-- What is placed behind a turn is another one. -/
theorem eq5_later {O : List (List CV)} (hs : O.Pairwise ltR) {ks : List (List Int)} {j : Nat} (hj : j < O.length) (h : isPl O ks j = false) (hi : (plN O ks j).P.length < (plN O ks O.length).P.length) : eq5 (Sx.rowAt (plN O ks O.length).P (plN O ks j).P.length) (Sx.rowAt O j) = false := by
  rcases plN_step O ks j with ⟨e, _⟩ | ⟨_, e, _⟩
  · rw [h] at e; cases e
  · have key := plP_later (L := O) (ks := ks) (j := j + 1) (O.length - (j + 1)) (plN O ks j).P.length (by rw [e]; omega) (by rw [show j + 1 + (O.length - (j + 1)) = O.length by omega]; exact hi)
    rw [show j + 1 + (O.length - (j + 1)) = O.length by omega] at key
    obtain ⟨m, h1, h2, e2⟩ := key
    cases he : eq5 (Sx.rowAt (plN O ks O.length).P (plN O ks j).P.length) (Sx.rowAt O j) with
    | false => rfl
    | true =>
      rw [e2, eq5_iff] at he
      have e0 : c0 (rwL O (m : Int)) = c0 (Sx.rowAt O j) := he.1.1
      have e1 : c1 (rwL O (m : Int)) = c1 (Sx.rowAt O j) := he.1.2.1
      have e3 : c2 (rwL O (m : Int)) = c2 (Sx.rowAt O j) := he.1.2.2
      rw [rwL_nat] at e0 e1 e3
      have := ltR_iff.1 (pw_at hs h2 (show j < m by omega))
      omega
theorem loop26 {R Z O : List (List CV)} {ks : List (List Int)} (hs : O.Pairwise ltR) (hl : O.length ≤ 1000) :
    Tri Tryz.prog (.loop (loopA 3)) (s26 R Z O (plN O ks O.length).P (plN O ks O.length).B O.length (plN O ks O.length).P.length (plN O ks O.length).B.length 0 0 0).toA (.exit 6) (s26X R Z O (plN O ks O.length).P (plN O ks O.length).B O.length (plN O ks O.length).P.length (plN O ks O.length).B.length ((plN O ks O.length).P.length : Nat) ((plN O ks O.length).B.length : Nat)).toA 2 := by
  have hP : ∀ j, (plN O ks j).P.length + (plN O ks j).B.length = j := plN_len O ks
  have hn := hP O.length
  refine tri_up (body := loopA 3) (fun j => (s26 R Z O (plN O ks O.length).P (plN O ks O.length).B O.length (plN O ks O.length).P.length (plN O ks O.length).B.length ((plN O ks j).P.length : Nat) ((plN O ks j).B.length : Nat) (j : Int)).toA) (fun e => by cases e) O.length (fun j hj => ?_) ?_ 0 (Nat.zero_le _)
  · have hjn := hP j
    refine n_sound tAq_ok ((r26 R Z O (plN O ks O.length).P (plN O ks O.length).B O.length (plN O ks O.length).P.length (plN O ks O.length).B.length ((plN O ks j).P.length : Nat) ((plN O ks j).B.length : Nat) (j : Int)).trans ?_)
    rw [bcT (b := decide ((j : Int) < _)) (decide_eq_true (by omega))]
    cases hp : isPl O ks j with
    | true =>
      obtain ⟨h1, h2⟩ := plP_at hj hp
      have ck : ∀ b ∈ [ixN ((plN O ks j).P.length : Nat) (plN O ks O.length).P.length, ckF ((plN O ks j).P.length : Nat) (plN O ks O.length).P, ixN (j : Int) O.length, ckF (j : Int) O], b = true := by
        intro b hb
        simp only [List.mem_cons, List.not_mem_nil, or_false] at hb
        rcases hb with rfl | rfl | rfl | rfl
        · exact ixN_nat h1
        · exact ckF_nat h1
        · exact ixN_nat hj
        · exact ckF_nat hj
      rw [bcT (decide_eq_true (by omega)), chks_true ck, Int.toNat_natCast, Int.toNat_natCast, h2, bcT (eq5_row O j), up1_nat (by omega), up1_nat (by omega)]
      rcases plN_step O ks j with ⟨_, e1, e2, _⟩ | ⟨e, _⟩
      · rw [e1, e2, List.length_append, List.length_singleton]
      · rw [hp] at e; cases e
    | false =>
      obtain ⟨h1, h2⟩ := plB_at hj hp
      have hq : qB R Z O (plN O ks O.length).P (plN O ks O.length).B O.length (plN O ks O.length).P.length (plN O ks O.length).B.length ((plN O ks j).P.length : Nat) ((plN O ks j).B.length : Nat) (j : Int) = some (.normal, s26 R Z O (plN O ks O.length).P (plN O ks O.length).B O.length (plN O ks O.length).P.length (plN O ks O.length).B.length ((plN O ks (j + 1)).P.length : Nat) ((plN O ks (j + 1)).B.length : Nat) ((j + 1 : Nat) : Int)) := by
        unfold qB
        have ck : ∀ b ∈ [ixN ((plN O ks j).B.length : Nat) (plN O ks O.length).B.length, ckF ((plN O ks j).B.length : Nat) (plN O ks O.length).B, ixN (j : Int) O.length, ckF (j : Int) O], b = true := by
          intro b hb
          simp only [List.mem_cons, List.not_mem_nil, or_false] at hb
          rcases hb with rfl | rfl | rfl | rfl
          · exact ixN_nat h1
          · exact ckF_nat h1
          · exact ixN_nat hj
          · exact ckF_nat hj
        rw [bcF (decide_eq_false (by omega)), chks_true ck, Int.toNat_natCast, Int.toNat_natCast, h2, eq3_row, bcF (b := !true) rfl, up1_nat (by omega), up1_nat (by omega)]
        rcases plN_step O ks j with ⟨e, _⟩ | ⟨_, e1, e2, _⟩
        · rw [hp] at e; cases e
        · rw [e1, e2, List.length_append, List.length_singleton]
      by_cases hi : (plN O ks j).P.length < (plN O ks O.length).P.length
      · have ck : ∀ b ∈ [ixN ((plN O ks j).P.length : Nat) (plN O ks O.length).P.length, ckF ((plN O ks j).P.length : Nat) (plN O ks O.length).P, ixN (j : Int) O.length, ckF (j : Int) O], b = true := by
          intro b hb
          simp only [List.mem_cons, List.not_mem_nil, or_false] at hb
          rcases hb with rfl | rfl | rfl | rfl
          · exact ixN_nat hi
          · exact ckF_nat hi
          · exact ixN_nat hj
          · exact ckF_nat hj
        rw [bcT (decide_eq_true (by omega)), chks_true ck, Int.toNat_natCast, Int.toNat_natCast, bcF (eq5_later hs hj hp hi)]
        exact hq
      · rw [bcF (decide_eq_false (by omega))]
        exact hq
  · refine n_sound tAq_ok ((r26 R Z O (plN O ks O.length).P (plN O ks O.length).B O.length (plN O ks O.length).P.length (plN O ks O.length).B.length ((plN O ks O.length).P.length : Nat) ((plN O ks O.length).B.length : Nat) (O.length : Int)).trans ?_)
    rw [bcF (decide_eq_false (by omega))]
end Go.Proofs.YtphhepnldndbhaaGreatDoor

/- Layer 14: SpillMore: its head (written by gen_srm.py). -/
set_option linter.unusedVariables false
set_option linter.unusedSimpArgs false
set_option linter.unusedSectionVars false
namespace Go.Proofs.YtphhepnldndbhaaGreatDoor
open Go Sx
abbrev fMo : FuncId := 6
noncomputable abbrev bMo : Code := bodyOf Tryz.f6
noncomputable def tMo (P B : List (List CV)) : Tab := [(13, ePick), (10, eAwk), (fB, eBk), (12, eSpl), (fP, ePla P B)]
theorem tMo_ok (P B : List (List CV)) : TabOK Tryz.prog (tMo P B) := .cons ePick_ok (.cons eAwk_ok (.cons eBk_ok (.cons eSpl_ok (.cons (ePla_ok P B) .nil))))
/-- The first spills, of those that there are. -/
def shr2 (n : Nat) : List PObj → List PObj
  | h :: .vecR sh L ty :: t => h :: .vecR sh (L.take n) ty :: t
  | l => l
open Classical in
/-- spill.Place of the first spills alone. -/
noncomputable def ePs (P B : List (List CV)) : Ent := fun args pre => match args with
  | [_, .vec _ n] => .chk (decide (Meets Tryz.prog fP args (pre.map PObj.toA) (plV (plR pre.length P) (clR (pre.length + (plO P).length) B)) ((shr2 n pre ++ plO P ++ clO B).map PObj.toA)))
    (.br (isNil P) (.br (isNil B) (.ret (plV .nilslice .nilslice) (shr2 n pre)) (.ret (plV .nilslice (.vec pre.length B.length)) (shr2 n pre ++ [vA B]))) (.br (isNil B) (.ret (plV (.vec pre.length P.length) .nilslice) (shr2 n pre ++ [vS P])) (.ret (plV (.vec pre.length P.length) (.vec (pre.length + 1) B.length)) (shr2 n pre ++ [vS P, vA B]))))
  | _ => ePla P B args pre
open Classical in
theorem ePs_ok (P B : List (List CV)) : EntOK Tryz.prog fP (ePs P B) := fun args pre => by
  unfold ePs
  split
  · rename_i n
    refine ⟨fun g => ?_, fun _ => trivial⟩
    have g := of_decide_eq_true g
    cases P with
    | nil => cases B with
      | nil =>
        have e : shr2 n pre ++ plO [] ++ clO [] = shr2 n pre := by simp [plO, clO]
        rw [e] at g
        exact ⟨fun _ => ⟨fun _ => g, (fun e => by cases e)⟩, (fun e => by cases e)⟩
      | cons y B =>
        have e : shr2 n pre ++ plO [] ++ clO (y :: B) = shr2 n pre ++ [vA (y :: B)] := by simp [plO, clO]
        rw [e] at g
        exact ⟨fun _ => ⟨(fun e => by cases e), fun _ => g⟩, (fun e => by cases e)⟩
    | cons x P => cases B with
      | nil =>
        have e : shr2 n pre ++ plO (x :: P) ++ clO [] = shr2 n pre ++ [vS (x :: P)] := by simp [plO, clO]
        rw [e] at g
        exact ⟨(fun e => by cases e), fun _ => ⟨fun _ => g, (fun e => by cases e)⟩⟩
      | cons y B =>
        have e : shr2 n pre ++ plO (x :: P) ++ clO (y :: B) = shr2 n pre ++ [vS (x :: P), vA (y :: B)] := by simp [plO, clO]
        rw [e] at g
        exact ⟨(fun e => by cases e), fun _ => ⟨(fun e => by cases e), fun _ => g⟩⟩
  · exact ePla_ok P B args pre
noncomputable def tMs (P B : List (List CV)) : Tab := [(fP, ePs P B)]
theorem tMs_ok (P B : List (List CV)) : TabOK Tryz.prog (tMs P B) := .cons (ePs_ok P B) .nil
abbrev oBk (j : Nat) : PObj := .raw (.cells [.slice j 0 2 2, .nilslice, .nilslice, .nilslice] 35)
open Classical in
noncomputable def ckPs (P B : List (List CV)) (n : Nat) (pre : List PObj) : Bool := decide (Meets Tryz.prog fP [bkW, .vec 1 n] (pre.map PObj.toA) (plV (plR pre.length P) (clR (pre.length + (plO P).length) B)) ((shr2 n pre ++ plO P ++ clO B).map PObj.toA))
abbrev kMa : Nat → Bool := fun n => hasN [7, 8, 9, 10, 11, 12, 13] n
abbrev kMb : Nat → Bool := fun n => hasN [7, 10, 11, 12, 13, 14, 15, 16] n
section
variable (R Z : List (List CV))
/-- Behind the first Place. -/
def sMa (own : AV) (oO : List (Option PObj)) (jP jS : Nat) (k : Int) (sh : PObj) (cs : List (Option PObj)) (P : List (List CV)) (nP : Nat) (B : List (List CV)) (nB : Nat) : PState := ⟨nn 7 ++ (some (.bool true) :: some (.ptr 2 0) :: some own :: some (.int .i64 k) :: some (.dsl jP nP) :: some (.dsl (jP + 1) nB) :: some (.int .i64 0) :: nn 84), some (fA R) :: some (fZ Z) :: some (oBk jS) :: (oO ++ (some (fSp P) :: some (fA B) :: some sh :: (cs ++ nn 64)))⟩
/-- Behind the second one. -/
def sMb (k : Int) (P : List (List CV)) (nP : Nat) (B : List (List CV)) (nB : Nat) (P' : List (List CV)) (nP' : Nat) (B' : List (List CV)) (nB' : Nat) : PState := ⟨nn 7 ++ (some (.bool true) :: none :: none :: some (.int .i64 k) :: some (.dsl 2 nP) :: some (.dsl 3 nB) :: some (.int .i64 0) :: some (.dsl 4 nP') :: some (.dsl 5 nB') :: some (.int .i64 0) :: nn 81), some (fA R) :: some (fZ Z) :: some (fSp P) :: some (fA B) :: some (fSp P') :: some (fA B') :: nn 64⟩
end
section
variable (R Z P B P' B' X Y L : List (List CV)) (a z : Nat) (m k : Int)
noncomputable def lfMa (own : AV) (oO : List (Option PObj)) (jP jS : Nat) (k : Int) (sh : PObj) (cs : List (Option PObj)) (ck : Bool) : Option (Ex × PState) := chks (bcond (isNil P) (bcond (isNil B) (some (.normal, sMa R Z own oO jP jS k sh cs [] 0 [] 0)) (some (.normal, sMa R Z own oO jP jS k sh cs [] 0 B B.length))) (bcond (isNil B) (some (.normal, sMa R Z own oO jP jS k sh cs P P.length [] 0)) (some (.normal, sMa R Z own oO jP jS k sh cs P P.length B B.length)))) [ck]
open Classical in
noncomputable def owMa (p0 p1 : List PObj) (s0 : PObj) (c0 : List (Option PObj)) (s1 : PObj) (c1 : List (Option PObj)) : Option (Ex × PState) := chks (bcond (isNil (spW R a Z z)) (chks (lfMa R Z P B .nilslice [] 3 5 (pickS m (w64 (0 + 1))) s0 c0 (ckPl P B [bkW, .nilslice] p0)) [inI m])
  (chks (lfMa R Z P B (.vec 3 (spW R a Z z).length) [some (vS (spW R a Z z))] 4 6 (pickS m (w64 (((spW R a Z z).length : Int) + 1))) s1 c1 (ckPl P B [bkW, .vec 1 (spW R a Z z).length] p1)) [inI m, decide (0 < w64 (((spW R a Z z).length : Int) + 1) ∧ w64 (((spW R a Z z).length : Int) + 1) < 1000000000)])) [decide (okA a R ∧ okZ z Z)]
open Classical in
theorem hd_more : runsC (ent Tryz.prog (tMo P B) nolv 64 1 20) Tryz.prog {} 2 64 1 (endV 2 64 kMa [(11, shS), (12, shA)]) 6 bMo (startP 98 [.dsl 0 a, .dsl 1 z, .int .i64 m] [fA R, fZ Z] 64)
  = chks (bcond (isNil (bkX R a 0)) (bcond (isNil (bkX R a 1)) (owMa R Z P B a z m [oSh .nilslice .nilslice] [oSh .nilslice .nilslice, vS (spW R a Z z)] (oSh .nilslice .nilslice) [] (oSh .nilslice .nilslice) [])
      (owMa R Z P B a z m [oSh .nilslice (.vec 1 (bkX R a 1).length), vC (bkX R a 1)] [oSh .nilslice (.vec 2 (bkX R a 1).length), vS (spW R a Z z), vC (bkX R a 1)] (oSh .nilslice (.vec 6 (bkX R a 1).length)) [some (vC (bkX R a 1))] (oSh .nilslice (.vec 7 (bkX R a 1).length)) [some (vC (bkX R a 1))]))
    (bcond (isNil (bkX R a 1)) (owMa R Z P B a z m [oSh (.vec 1 (bkX R a 0).length) .nilslice, vC (bkX R a 0)] [oSh (.vec 2 (bkX R a 0).length) .nilslice, vS (spW R a Z z), vC (bkX R a 0)] (oSh (.vec 6 (bkX R a 0).length) .nilslice) [some (vC (bkX R a 0))] (oSh (.vec 7 (bkX R a 0).length) .nilslice) [some (vC (bkX R a 0))])
      (owMa R Z P B a z m [oSh (.vec 1 (bkX R a 0).length) (.vec 2 (bkX R a 1).length), vC (bkX R a 0), vC (bkX R a 1)] [oSh (.vec 2 (bkX R a 0).length) (.vec 3 (bkX R a 1).length), vS (spW R a Z z), vC (bkX R a 0), vC (bkX R a 1)] (oSh (.vec 6 (bkX R a 0).length) (.vec 7 (bkX R a 1).length)) [some (vC (bkX R a 0)), some (vC (bkX R a 1))] (oSh (.vec 7 (bkX R a 0).length) (.vec 8 (bkX R a 1).length)) [some (vC (bkX R a 0)), some (vC (bkX R a 1))]))) [decide (okA a R)] := by kernel_rfl
/-- What the second Place leaves. -/
noncomputable def lfMb (k : Int) (ck : Bool) : Option (Ex × PState) := chks (bcond (isNil P') (bcond (isNil B') (some (.normal, sMb R Z k P P.length B B.length [] 0 [] 0)) (some (.normal, sMb R Z k P P.length B B.length [] 0 B' B'.length))) (bcond (isNil B') (some (.normal, sMb R Z k P P.length B B.length P' P'.length [] 0)) (some (.normal, sMb R Z k P P.length B B.length P' P'.length B' B'.length)))) [ck]
abbrev vwMb : List (Nat × List CK) := [(14, shS), (15, shA)]
def ckMn (k : Int) : Bool := true && decide (0 ≤ k) && true && decide (0 ≤ k.toNat ∧ k.toNat ≤ 0 ∧ 0 ≤ 0)
def ckMv (k : Int) (L : List (List CV)) : Bool := decide (0 ≤ k) && decide (0 < 5 ∧ k.toNat * 5 ≤ L.length * 5)
theorem mb_n0 : runsC (ent Tryz.prog (tMs P' B') nolv 64 1 20) Tryz.prog {} 2 64 1 (endV 2 64 kMb vwMb) 1 (restC 6 bMo) (sMa R Z .nilslice [] 3 5 k (oSh .nilslice .nilslice) [] P P.length B B.length)
  = chks (lfMb R Z P B P' B' k (ckPl P' B' [bkW, .nilslice] [oSh .nilslice .nilslice])) [ckMn k] := by kernel_rfl
theorem mb_v0 : runsC (ent Tryz.prog (tMs P' B') nolv 64 1 20) Tryz.prog {} 2 64 1 (endV 2 64 kMb vwMb) 1 (restC 6 bMo) (sMa R Z (.vec 3 L.length) [some (vS L)] 4 6 k (oSh .nilslice .nilslice) [] P P.length B B.length)
  = chks (lfMb R Z P B P' B' k (ckPs P' B' k.toNat [oSh .nilslice .nilslice, vS L])) [ckMv k L] := by kernel_rfl
theorem mb_ny : runsC (ent Tryz.prog (tMs P' B') nolv 64 1 20) Tryz.prog {} 2 64 1 (endV 2 64 kMb vwMb) 1 (restC 6 bMo) (sMa R Z .nilslice [] 3 5 k (oSh .nilslice (.vec 6 Y.length)) [some (vC Y)] P P.length B B.length)
  = chks (lfMb R Z P B P' B' k (ckPl P' B' [bkW, .nilslice] [oSh .nilslice (.vec 1 Y.length), vC Y])) [ckMn k] := by kernel_rfl
theorem mb_vy : runsC (ent Tryz.prog (tMs P' B') nolv 64 1 20) Tryz.prog {} 2 64 1 (endV 2 64 kMb vwMb) 1 (restC 6 bMo) (sMa R Z (.vec 3 L.length) [some (vS L)] 4 6 k (oSh .nilslice (.vec 7 Y.length)) [some (vC Y)] P P.length B B.length)
  = chks (lfMb R Z P B P' B' k (ckPs P' B' k.toNat [oSh .nilslice (.vec 2 Y.length), vS L, vC Y])) [ckMv k L] := by kernel_rfl
theorem mb_nx : runsC (ent Tryz.prog (tMs P' B') nolv 64 1 20) Tryz.prog {} 2 64 1 (endV 2 64 kMb vwMb) 1 (restC 6 bMo) (sMa R Z .nilslice [] 3 5 k (oSh (.vec 6 X.length) .nilslice) [some (vC X)] P P.length B B.length)
  = chks (lfMb R Z P B P' B' k (ckPl P' B' [bkW, .nilslice] [oSh (.vec 1 X.length) .nilslice, vC X])) [ckMn k] := by kernel_rfl
theorem mb_vx : runsC (ent Tryz.prog (tMs P' B') nolv 64 1 20) Tryz.prog {} 2 64 1 (endV 2 64 kMb vwMb) 1 (restC 6 bMo) (sMa R Z (.vec 3 L.length) [some (vS L)] 4 6 k (oSh (.vec 7 X.length) .nilslice) [some (vC X)] P P.length B B.length)
  = chks (lfMb R Z P B P' B' k (ckPs P' B' k.toNat [oSh (.vec 2 X.length) .nilslice, vS L, vC X])) [ckMv k L] := by kernel_rfl
theorem mb_nb : runsC (ent Tryz.prog (tMs P' B') nolv 64 1 20) Tryz.prog {} 2 64 1 (endV 2 64 kMb vwMb) 1 (restC 6 bMo) (sMa R Z .nilslice [] 3 5 k (oSh (.vec 6 X.length) (.vec 7 Y.length)) [some (vC X), some (vC Y)] P P.length B B.length)
  = chks (lfMb R Z P B P' B' k (ckPl P' B' [bkW, .nilslice] [oSh (.vec 1 X.length) (.vec 2 Y.length), vC X, vC Y])) [ckMn k] := by kernel_rfl
theorem mb_vb : runsC (ent Tryz.prog (tMs P' B') nolv 64 1 20) Tryz.prog {} 2 64 1 (endV 2 64 kMb vwMb) 1 (restC 6 bMo) (sMa R Z (.vec 3 L.length) [some (vS L)] 4 6 k (oSh (.vec 7 X.length) (.vec 8 Y.length)) [some (vC X), some (vC Y)] P P.length B B.length)
  = chks (lfMb R Z P B P' B' k (ckPs P' B' k.toNat [oSh (.vec 2 X.length) (.vec 3 Y.length), vS L, vC X, vC Y])) [ckMv k L] := by kernel_rfl
end
end Go.Proofs.YtphhepnldndbhaaGreatDoor

/- The evaluator, part T: a call that is handed rows that grow, told of the first of them alone. -/
set_option linter.unusedVariables false
set_option linter.unusedSimpArgs false
namespace Go.Proofs.YtphhepnldndbhaaGreatDoor.Sx
open Go
variable {P : Program}
theorem meets_shrink {f : FuncId} {args : List AV} {pre pre' post : List AObj} {res : AV} (h : Meets P f args pre' res post) (hlen : pre'.length = pre.length) (ho : ∀ (n : Nat) (o' : AObj), pre'[n]? = some o' → ∃ o, pre[n]? = some o ∧ sameV o o') : Meets P f args pre res post := fun w E xs hxs hp => by
  have ho2 : ∀ (n : Nat) (o : AObj), pre[n]? = some o → ∃ o', pre'[n]? = some o' ∧ sameV o o' := fun n o hn => by
    have hl : n < pre'.length := by rw [hlen]; exact (List.getElem?_eq_some_iff.1 hn).1
    obtain ⟨o1, h1, h2⟩ := ho n pre'[n] (List.getElem?_eq_getElem hl)
    rw [hn] at h1; cases h1
    exact ⟨_, List.getElem?_eq_getElem hl, h2⟩
  have hg : (fun k => ∃ (n : Nat) (o : AObj) (c : Cap), pre'[n]? = some o ∧ o.owned = true ∧ E n = some (k, c)) = fun k => ∃ (n : Nat) (o : AObj) (c : Cap), pre[n]? = some o ∧ o.owned = true ∧ E n = some (k, c) := by
    funext k
    refine propext ⟨fun ⟨n, o, c, h1, h2, h3⟩ => ?_, fun ⟨n, o, c, h1, h2, h3⟩ => ?_⟩
    · obtain ⟨o1, g1, g2⟩ := ho n o h1
      exact ⟨n, o1, c, g1, by rw [← sameV_owned g2]; exact h2, h3⟩
    · obtain ⟨o1, g1, g2⟩ := ho2 n o h1
      exact ⟨n, o1, c, g1, by rw [sameV_owned g2]; exact h2, h3⟩
  have hp' : PreR E w pre' := {
    objs := fun n o h1 => by
      obtain ⟨o1, g1, g2⟩ := ho n o h1
      obtain ⟨b, c, hb, hob⟩ := hp.objs n o1 g1
      exact ⟨b, c, hb, sameV_obj g2 hob⟩
    fresh := fun n hn => hp.fresh n (by omega)
    apart := fun n m o o' b c b' c' h1 h2 h3 h4 h5 h6 hne ht => by
      obtain ⟨o1, g1, g2⟩ := ho n o h1
      obtain ⟨o2, g3, g4⟩ := ho m o' h2
      exact hp.apart n m o1 o2 b c b' c' g1 g3 (by rw [← sameV_owned g2]; exact h3) (by rw [← sameV_live g4]; exact h4) h5 h6 hne (sameV_touches g4 ht)
    glob := by rw [hg]; exact hp.glob
    nest := fun m b c k e hu => by
      obtain ⟨a1, a2⟩ := hp.nest m b c k e hu
      refine ⟨a1, fun n o c' h1 h2 => ?_⟩
      obtain ⟨o1, g1, g2⟩ := ho n o h1
      exact a2 n o1 c' g1 (by rw [← sameV_owned g2]; exact h2) }
  refine (h w E xs hxs hp').mono ?_
  rintro e w' ⟨E', x, he, hd, hq⟩
  exact ⟨E', x, he, hd, {
    le := hq.le
    cut := hq.cut
    objs := hq.objs
    made := fun n b c o hn h1 h2 h3 => by
      rcases hq.made n b c o (by omega) h1 h2 h3 with k | ⟨j, c', o2, k1, k2, k3, k4⟩
      · exact .inl k
      · obtain ⟨o1, g1, g2⟩ := ho j o2 k1
        exact .inr ⟨j, c', o1, g1, by rw [← sameV_owned g2]; exact k2, k3, k4⟩
    bare := fun n b c hn h1 => hq.bare n b c (by omega) h1
    keep := fun k hk hh => hq.keep k hk fun n o c h1 h2 => by
      obtain ⟨o1, g1, g2⟩ := ho n o h1
      exact hh n o1 c g1 (by rw [← sameV_owned g2]; exact h2)
    newApart := fun n m o o' b c b' c' h1 h2 => hq.newApart n m o o' b c b' c' (by omega) (by omega)
    grow := hq.grow
    os := hq.os
    tape := hq.tape
    output := hq.output }⟩
end Go.Proofs.YtphhepnldndbhaaGreatDoor.Sx

/- Layer 14: two lists that are the same, by the document's own comparison (written by gen_srn.py). -/
set_option linter.unusedVariables false
set_option linter.unusedSimpArgs false
set_option linter.unusedSectionVars false
namespace Go.Proofs.YtphhepnldndbhaaGreatDoor
open Go Sx
noncomputable abbrev loopLS : Code := (loopBodies (bodyOf Tryz.f16)).headD .skip
section
variable (A B : List (List CV)) (n : Nat) (i : Int) (ok : Bool)
def sLS (i : Int) : PState := ⟨some (.dsl 0 n) :: some (.dsl 1 n) :: nn 3 ++ (some (.int .i64 i) :: nn 20), some (fSp A) :: some (fSp B) :: nn 64⟩
def sLSX : PState := ⟨nn 26, some (fSp A) :: some (fSp B) :: nn 64⟩
theorem rLS : code (ent Tryz.prog [] nolv 64 1 20) Tryz.prog {} 2 64 1 loopLS (sLS A B n i) (endK 2 64 (fun n => hasN [0, 1, 5] n) (fun n => hasN [] n))
  = bcond (decide (i < (n : Int))) (chks (bcond (!eq5 (Sx.rowAt A i.toNat) (Sx.rowAt B i.toNat)) (some (.ret, sLSX A B)) (some (.normal, sLS A B n (up1 i)))) [ixN i n, ckF i A, ixN i n, ckF i B]) (some (.exit 0, sLSX A B)) := by kernel_rfl
noncomputable def lvLS : FuncId → Lv := lvOf 16 (fun _ => some [0, 1, 5]) (oneL 4 (eAt 2 (sLS A B n 0) (outC ok (.exit 0) (sLSX A B))))
theorem cLS : Comes [] (lvLS A B n ok) 16 [.dsl 0 n, .dsl 1 n] [fSp A, fSp B] (.br ((n : Int) != (n : Int)) (.ret (.bool false) [fSp A, fSp B]) (.chk (eqSt (sLS A B n 0) (sLS A B n 0)) (.chk ok (.ret (.bool true) [fSp A, fSp B])))) := by unfold Comes; kernel_rfl
/-- So many of both are the same. -/
def SameS (A B : List (List CV)) (n m : Nat) : Prop := n = m ∧ n ≤ A.length ∧ n ≤ B.length ∧ n ≤ 1000 ∧ ∀ j, j < n → eq5 (Sx.rowAt A j) (Sx.rowAt B j) = true
open Classical in
noncomputable def eLS : Ent := fun args pre => match args, pre with
  | [.dsl i n, .dsl j m], [.raw (.flatR b sh A), .raw (.flatR b' sh' B)] => .chk (Nat.beq i 0 && Nat.beq j 1 && shEq sh shS && shEq sh' shS && !b && !b') (.chk (decide (SameS A B n m)) (.ret (.bool true) pre))
  | _, _ => .fail
open Classical in
theorem eLS_ok : EntOK Tryz.prog 16 eLS := fun args pre => by
  unfold eLS
  split
  · rename_i i n j m b sh A b' sh' B
    refine ⟨fun g0 => ⟨fun g1 => ?_, fun _ => trivial⟩, fun _ => trivial⟩
    simp only [Bool.and_eq_true, beqT, Bool.not_eq_true'] at g0
    obtain ⟨⟨⟨⟨⟨rfl, rfl⟩, g2⟩, g3⟩, rfl⟩, rfl⟩ := g0
    obtain rfl := shEq_of g2
    obtain rfl := shEq_of g3
    obtain ⟨rfl, h1, h2, h3, h4⟩ := of_decide_eq_true g1
    have lo : Tri Tryz.prog (.loop loopLS) (sLS A B n 0).toA (.exit 0) (sLSX A B).toA 2 := by
      refine tri_up (body := loopLS) (fun j => (sLS A B n (j : Int)).toA) (fun e => by cases e) n (fun j hj => ?_) ?_ 0 (Nat.zero_le _)
      · refine n_sound (T := []) .nil ((rLS A B n (j : Int)).trans ?_)
        have ck : ∀ b ∈ [ixN (j : Int) n, ckF (j : Int) A, ixN (j : Int) n, ckF (j : Int) B], b = true := by
          intro b hb
          simp only [List.mem_cons, List.not_mem_nil, or_false] at hb
          rcases hb with rfl | rfl | rfl | rfl
          · exact ixN_nat hj
          · exact ckF_nat (by omega)
          · exact ixN_nat hj
          · exact ckF_nat (by omega)
        rw [bcT (decide_eq_true (by omega)), chks_true ck, Int.toNat_natCast, h4 j hj, bcF (b := !true) rfl, up1_nat (by omega)]
      · refine n_sound (T := []) .nil ((rLS A B n (n : Int)).trans ?_)
        rw [bcF (decide_eq_false (by omega))]
    refine meets_ent (pre := [fSp A, fSp B]) (post := [fSp A, fSp B]) (T := []) .nil host ((cLS A B n true).trans ?_) (lvOne_ok (x := loopLS) Tryz.func16 (by kernel_rfl) fun K t => eAt_ok (outC_ok fun _ => lo) K t)
    rw [brF (by simp), chkT (eqSt_refl _), chkT rfl]; rfl
  · trivial
end
noncomputable abbrev loopLA : Code := (loopBodies (bodyOf Tryz.f17)).headD .skip
section
variable (A B : List (List CV)) (n : Nat) (i : Int) (ok : Bool)
def sLA (i : Int) : PState := ⟨some (.dsl 0 n) :: some (.dsl 1 n) :: nn 3 ++ (some (.int .i64 i) :: nn 20), some (fA A) :: some (fA B) :: nn 64⟩
def sLAX : PState := ⟨nn 26, some (fA A) :: some (fA B) :: nn 64⟩
theorem rLA : code (ent Tryz.prog [] nolv 64 1 20) Tryz.prog {} 2 64 1 loopLA (sLA A B n i) (endK 2 64 (fun n => hasN [0, 1, 5] n) (fun n => hasN [] n))
  = bcond (decide (i < (n : Int))) (chks (bcond (!eq3 (Sx.rowAt A i.toNat) (Sx.rowAt B i.toNat)) (some (.ret, sLAX A B)) (some (.normal, sLA A B n (up1 i)))) [ixN i n, ckF i A, ixN i n, ckF i B]) (some (.exit 0, sLAX A B)) := by kernel_rfl
noncomputable def lvLA : FuncId → Lv := lvOf 17 (fun _ => some [0, 1, 5]) (oneL 4 (eAt 2 (sLA A B n 0) (outC ok (.exit 0) (sLAX A B))))
theorem cLA : Comes [] (lvLA A B n ok) 17 [.dsl 0 n, .dsl 1 n] [fA A, fA B] (.br ((n : Int) != (n : Int)) (.ret (.bool false) [fA A, fA B]) (.chk (eqSt (sLA A B n 0) (sLA A B n 0)) (.chk ok (.ret (.bool true) [fA A, fA B])))) := by unfold Comes; kernel_rfl
/-- So many of both are the same. -/
def SameA (A B : List (List CV)) (n m : Nat) : Prop := n = m ∧ n ≤ A.length ∧ n ≤ B.length ∧ n ≤ 1000 ∧ ∀ j, j < n → eq3 (Sx.rowAt A j) (Sx.rowAt B j) = true
open Classical in
noncomputable def eLA : Ent := fun args pre => match args, pre with
  | [.dsl i n, .dsl j m], [.raw (.flatR b sh A), .raw (.flatR b' sh' B)] => .chk (Nat.beq i 0 && Nat.beq j 1 && shEq sh shA && shEq sh' shA && !b && !b') (.chk (decide (SameA A B n m)) (.ret (.bool true) pre))
  | _, _ => .fail
open Classical in
theorem eLA_ok : EntOK Tryz.prog 17 eLA := fun args pre => by
  unfold eLA
  split
  · rename_i i n j m b sh A b' sh' B
    refine ⟨fun g0 => ⟨fun g1 => ?_, fun _ => trivial⟩, fun _ => trivial⟩
    simp only [Bool.and_eq_true, beqT, Bool.not_eq_true'] at g0
    obtain ⟨⟨⟨⟨⟨rfl, rfl⟩, g2⟩, g3⟩, rfl⟩, rfl⟩ := g0
    obtain rfl := shEq_of g2
    obtain rfl := shEq_of g3
    obtain ⟨rfl, h1, h2, h3, h4⟩ := of_decide_eq_true g1
    have lo : Tri Tryz.prog (.loop loopLA) (sLA A B n 0).toA (.exit 0) (sLAX A B).toA 2 := by
      refine tri_up (body := loopLA) (fun j => (sLA A B n (j : Int)).toA) (fun e => by cases e) n (fun j hj => ?_) ?_ 0 (Nat.zero_le _)
      · refine n_sound (T := []) .nil ((rLA A B n (j : Int)).trans ?_)
        have ck : ∀ b ∈ [ixN (j : Int) n, ckF (j : Int) A, ixN (j : Int) n, ckF (j : Int) B], b = true := by
          intro b hb
          simp only [List.mem_cons, List.not_mem_nil, or_false] at hb
          rcases hb with rfl | rfl | rfl | rfl
          · exact ixN_nat hj
          · exact ckF_nat (by omega)
          · exact ixN_nat hj
          · exact ckF_nat (by omega)
        rw [bcT (decide_eq_true (by omega)), chks_true ck, Int.toNat_natCast, h4 j hj, bcF (b := !true) rfl, up1_nat (by omega)]
      · refine n_sound (T := []) .nil ((rLA A B n (n : Int)).trans ?_)
        rw [bcF (decide_eq_false (by omega))]
    refine meets_ent (pre := [fA A, fA B]) (post := [fA A, fA B]) (T := []) .nil host ((cLA A B n true).trans ?_) (lvOne_ok (x := loopLA) Tryz.func17 (by kernel_rfl) fun K t => eAt_ok (outC_ok fun _ => lo) K t)
    rw [brF (by simp), chkT (eqSt_refl _), chkT rfl]; rfl
  · trivial
end
end Go.Proofs.YtphhepnldndbhaaGreatDoor

/- Layer 14: SpillMore: the law's end; what its calls meet. -/
set_option linter.unusedVariables false
set_option linter.unusedSimpArgs false
set_option linter.unusedSectionVars false
namespace Go.Proofs.YtphhepnldndbhaaGreatDoor
open Go Sx
noncomputable def tMz : Tab := [(16, eLS), (17, eLA)]
theorem tMz_ok : TabOK Tryz.prog tMz := .cons eLS_ok (.cons eLA_ok .nil)
abbrev mnN (a b : Nat) : Int := if (a : Int) < (b : Int) then (a : Int) else (b : Int)
section
variable (R Z P B P' B' : List (List CV)) (k : Int)
open Classical in
theorem rMz : code (ent (R := AV × List PObj) Tryz.prog tMz nolv 64 1 20) Tryz.prog {} 2 64 1 (restC 7 bMo) (sMb R Z k P P.length B B.length P' P'.length B' B'.length) (finP Tryz.prog Tryz.f6 2 [fA R, fZ Z] pure2)
  = bcond (decide ((P'.length : Int) ≤ (P.length : Int))) (bcond (decide ((B'.length : Int) ≤ (B.length : Int)))
      (chks (pure2 (.bool (w64 ((P'.length : Int) + (B'.length : Int)) == k)) [fA R, fZ Z]) [decide (0 ≤ mnN P.length P'.length) && decide ((mnN P.length P'.length).toNat ≤ P.length), decide (SameS P P' (mnN P.length P'.length).toNat P'.length), decide (0 ≤ mnN B.length B'.length) && decide ((mnN B.length B'.length).toNat ≤ B.length), decide (SameA B B' (mnN B.length B'.length).toNat B'.length)]) (oF R Z)) (oF R Z) := by kernel_rfl
end
theorem lfMa_ok {R Z P B : List (List CV)} {own : AV} {oO : List (Option PObj)} {jP jS : Nat} {k : Int} {sh : PObj} {cs : List (Option PObj)} : lfMa R Z P B own oO jP jS k sh cs true = some (.normal, sMa R Z own oO jP jS k sh cs P P.length B B.length) := by
  unfold lfMa
  rw [chks_true (all1 rfl)]
  cases P <;> cases B <;> rfl
theorem lfMb_ok {R Z P B P' B' : List (List CV)} {k : Int} : lfMb R Z P B P' B' k true = some (.normal, sMb R Z k P P.length B B.length P' P'.length B' B'.length) := by
  unfold lfMb
  rw [chks_true (all1 rfl)]
  cases P' <;> cases B' <;> rfl
open Classical in
theorem owMa_nil {R Z P B : List (List CV)} {a z : Nat} {m : Int} {p0 p1 : List PObj} {s0 s1 : PObj} {c0 c1 : List (Option PObj)} (hA : okA a R) (hZ : okZ z Z) (im : inI m = true) (hw : spW R a Z z = []) (hc : ckPl P B [bkW, .nilslice] p0 = true) :
    owMa R Z P B a z m p0 p1 s0 c0 s1 c1 = some (.normal, sMa R Z .nilslice [] 3 5 (pickS m (w64 (0 + 1))) s0 c0 P P.length B B.length) := by
  unfold owMa
  rw [chks_true (all1 (decide_eq_true ⟨hA, hZ⟩)), bcT (b := isNil (spW R a Z z)) (by rw [hw]; rfl), chks_true (all1 im), hc]
  exact lfMa_ok
open Classical in
theorem owMa_vec {R Z P B : List (List CV)} {a z : Nat} {m : Int} {p0 p1 : List PObj} {s0 s1 : PObj} {c0 c1 : List (Option PObj)} (hA : okA a R) (hZ : okZ z Z) (im : inI m = true) (hw : spW R a Z z ≠ []) (hc : ckPl P B [bkW, .vec 1 (spW R a Z z).length] p1 = true) :
    owMa R Z P B a z m p0 p1 s0 c0 s1 c1 = some (.normal, sMa R Z (.vec 3 (spW R a Z z).length) [some (vS (spW R a Z z))] 4 6 (pickS m (w64 (((spW R a Z z).length : Int) + 1))) s1 c1 P P.length B B.length) := by
  have hn : isNil (spW R a Z z) = false := by
    cases h : spW R a Z z with
    | nil => exact absurd h hw
    | cons x l => rfl
  have hl := spW_le R a Z z
  unfold owMa
  rw [chks_true (all1 (decide_eq_true ⟨hA, hZ⟩)), bcF hn, chks_true (all2 im (decide_eq_true (by rw [w64_small (by omega) (by omega)]; omega))), hc]
  exact lfMa_ok
theorem okS_take {L : List (List CV)} {ks : List (List Int)} (h : okS L ks) (n : Nat) : okS (L.take n) ks := by
  refine ⟨by rw [List.length_take]; have := h.1; omega, fun j hj => ?_⟩
  rw [List.length_take] at hj
  have e : ∀ i, i < n → Sx.rowAt (L.take n) i = Sx.rowAt L i := fun i hi => by
    unfold Sx.rowAt
    simp only [List.getD_eq_getElem?_getD, List.getElem?_take, if_pos hi]
  obtain ⟨h1, h2, h3, h4⟩ := h.2 j (by omega)
  rw [e j (by omega)]
  exact ⟨h1, h2, h3, fun k hk => by rw [e k (by omega)]; exact h4 k hk⟩
theorem okT_take {L : List (List CV)} (h : okT L) (n : Nat) : okT (L.take n) := by
  refine ⟨by rw [List.length_take]; have := h.1; omega, fun j hj => ?_⟩
  rw [List.length_take] at hj
  have e : Sx.rowAt (L.take n) j = Sx.rowAt L j := by
    unfold Sx.rowAt
    simp only [List.getD_eq_getElem?_getD, List.getElem?_take, if_pos (show j < n by omega)]
  rw [e]
  exact h.2 j (by omega)
/-- What is placed of the first ones alone. -/
theorem plP_take {C L : List (List CV)} {n : Nat} (hn : n ≤ L.length) : plP C (L.take n) = (plN L (tkN C C.length) n).P ∧ plB C (L.take n) = (plN L (tkN C C.length) n).B := by
  have e : (L.take n).length = n := by rw [List.length_take]; omega
  unfold plP plB
  rw [e, plN_take L _ n n (Nat.le_refl _)]
  exact ⟨rfl, rfl⟩
/-- A second Place, of the first ones alone: what is known of the list is cut. -/
theorem ps_meets {h : PObj} {t : List PObj} {L P B : List (List CV)} {n : Nat} (hn : n ≤ L.length) (hm : Meets Tryz.prog fP [bkW, .vec 1 (L.take n).length] ((h :: vS (L.take n) :: t).map PObj.toA) (plV (plR (h :: vS (L.take n) :: t).length P) (clR ((h :: vS (L.take n) :: t).length + (plO P).length) B)) (((h :: vS (L.take n) :: t) ++ plO P ++ clO B).map PObj.toA)) :
    ckPs P B n (h :: vS L :: t) = true := by
  have e : (L.take n).length = n := by rw [List.length_take]; omega
  rw [e] at hm
  unfold ckPs
  refine @decide_eq_true _ (Classical.propDecidable _) ?_
  refine meets_shrink (pre' := (h :: vS (L.take n) :: t).map PObj.toA) hm (by simp) fun i o' hi => ?_
  match i with
  | 0 => exact ⟨o', hi, .inl rfl⟩
  | 1 =>
    cases hi
    exact ⟨_, rfl, sameV_rows shS L 27 n⟩
  | i + 2 => exact ⟨o', hi, .inl rfl⟩
end Go.Proofs.YtphhepnldndbhaaGreatDoor
