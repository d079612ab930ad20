import Derived.Test.YtmgiefeggkikcaaGr12
import Derived.Test.YtmgiefeggkikcaaGr08
import Derived.Test.YtmgiefeggkikcaaGr09
import Derived.Test.YtmgiefeggkikcaaGr05
set_option linter.unusedVariables false
set_option linter.unusedSimpArgs false
namespace Go.Proofs.Ytmgiefeggkikcaa
open Go Sx Rf Dc Rr
def frI (s : List UInt8) : Nat := if qzv s = true then 1 else 0
theorem body_eq (s : List UInt8) : bodyS s = s.drop (frI s) := by
  unfold bodyS frI; split <;> simp
theorem fr_le (s : List UInt8) : frI s ≤ s.length := by
  unfold frI; split
  · rename_i h
    cases s with
    | nil => simp [qzv] at h
    | cons a s => simp
  · omega
theorem eR1 (s : List UInt8) : runsC (noH (R := Ex × PState)) Try.prog {} 0 64 18446744073709551616 (endK 0 64 kR1 kR1) 4 (qzx Try.f14) (startP 118 [.str s] [] 64) = some (.normal, sR1 s (qzv s) (frI s : Int)) := by
  rw [partR1]
  cases s with
  | nil => rfl
  | cons a s =>
    have hb : (byteAt (a :: s) (0 : Int).toNat == 45) = qzv (a :: s) := by
      unfold byteAt qzv
      simp only [Int.toNat_zero, List.getD_cons_zero, List.head?_cons, Option.some.injEq]
      rw [Bool.eq_iff_iff, beq_iff_eq, decide_eq_true_eq]
      constructor
      · intro h; exact UInt8.toNat.inj (by have : (45 : UInt8).toNat = 45 := rfl; omega)
      · intro h; rw [h]; rfl
    rw [bcT (b := decide _) (decide_eq_true (by rw [List.length_cons]; omega)), bcT (b := inS _ _) (decide_eq_true (by simp)), hb]
    unfold frI
    cases qzv (a :: s) <;> rfl
theorem pt_at (b : List UInt8) (n : Nat) : ptB (b.drop n) = true ↔ n < b.length ∧ b.getD n 0 = 46 := by
  unfold ptB
  rw [beq_iff_eq, List.head?_drop]
  constructor
  · intro h
    obtain ⟨h1, h2⟩ := List.getElem?_eq_some_iff.1 h
    exact ⟨h1, by rw [List.getD, h]; rfl⟩
  · rintro ⟨h1, h2⟩
    rw [List.getD, List.getElem?_eq_getElem h1] at h2
    rw [List.getElem?_eq_getElem h1]
    simpa using h2
theorem eR2 {s : List UInt8} (hs : s.length ≤ 1000) : runsC (ent (R := Ex × PState) Try.prog [(34, eFig)] nolv 64 18446744073709551616 30) Try.prog {} 0 64 18446744073709551616 (endK 0 64 kR2 kRx) 5 (restC 4 (qzx Try.f14)) (sR1 s (qzv s) (frI s : Int)) =
    if refOK (bodyS s) = true then some (.normal, sR2 s (qzv s) (frI s : Int) (s.length : Int) (frcN (bodyS s) : Int)) else ret12 := by
  rw [partR2, body_eq]
  have hf := fr_le s
  generalize frI s = fr at *
  generalize qzv s = mx
  have hl : (s.drop fr).length = s.length - fr := List.length_drop
  have hn := figN_le (s.drop fr)
  have e0 : fgI s (fr : Int) = (figN (s.drop fr) : Int) := by unfold fgI; rw [Int.toNat_natCast]
  have w0 : wr ((fr : Int) + (figN (s.drop fr) : Int)) = ((fr + figN (s.drop fr) : Nat) : Int) := by unfold wr; rw [i64_in (by omega) (by omega)]; push_cast; rfl
  rw [bcT (b := figC _ _) (decide_eq_true (by omega)), e0, w0]
  generalize hN : figN (s.drop fr) = n at *
  have gd : s.getD (fr + n) 0 = (s.drop fr).getD n 0 := by simp only [List.getD, List.getElem?_drop]
  have key : ∀ (m : Nat) (t : Nat), m ≤ 1000 → lastQ s mx (fr : Int) (n : Int) (t : Int) (m : Int) = if 1 ≤ n ∧ n ≤ 40 ∧ m ≤ 40 ∧ t = s.length then some (.normal, sR2 s mx (fr : Int) (s.length : Int) (m : Int)) else ret12 := fun m t hm => by
    unfold lastQ
    by_cases c1 : n < 1
    · rw [bcT (b := decide _) (decide_eq_true (by omega)), if_neg (by omega)]
    · rw [bcF (b := decide _) (decide_eq_false (by omega))]
      by_cases c2 : n > 40
      · rw [bcT (b := decide _) (decide_eq_true (by omega)), if_neg (by omega)]
      · rw [bcF (b := decide _) (decide_eq_false (by omega))]
        by_cases c3 : m > 40
        · rw [bcT (b := decide _) (decide_eq_true (by omega)), if_neg (by omega)]
        · rw [bcF (b := decide _) (decide_eq_false (by omega))]
          by_cases c4 : t = s.length
          · rw [bcF (b := _ != _) (by rw [c4]; simp), if_pos (by omega), c4]
          · rw [bcT (b := _ != _) (bne_iff_ne.2 (by omega)), if_neg (by omega)]
  unfold restQ
  by_cases cp : ptB ((s.drop fr).drop n) = true
  · obtain ⟨p1, p2⟩ := (pt_at _ _).1 cp
    have w1 : wr (((fr + n : Nat) : Int) + 1) = ((fr + n + 1 : Nat) : Int) := by unfold wr; rw [i64_in (by omega) (by omega)]; push_cast; rfl
    have e1 : fgI s ((fr + n + 1 : Nat) : Int) = (frcN (s.drop fr) : Int) := by
      unfold fgI frcN
      rw [Int.toNat_natCast, hN, cp, List.drop_drop]
      rfl
    have hm : frcN (s.drop fr) ≤ 1000 := by
      unfold frcN
      rw [hN, cp]
      show figN _ ≤ 1000
      have := figN_le ((s.drop fr).drop (n + 1))
      rw [List.length_drop] at this; omega
    have w2 : wr (((fr + n + 1 : Nat) : Int) + (frcN (s.drop fr) : Int)) = ((fr + n + 1 + frcN (s.drop fr) : Nat) : Int) := by unfold wr; rw [i64_in (by omega) (by omega)]; push_cast; rfl
    have hb : (byteAt s ((fr + n : Nat) : Int).toNat == 46) = true := by
      unfold byteAt; rw [Int.toNat_natCast, gd, p2]; rfl
    rw [bcT (b := decide _) (decide_eq_true (by omega)), bcT (b := inS _ _) (decide_eq_true (by omega)), bcT hb]
    unfold pntQ
    rw [w1, bcT (b := figC _ _) (decide_eq_true (by omega)), e1, w2, key _ _ hm]
    have hE : endN (s.drop fr) = n + (1 + frcN (s.drop fr)) := by unfold endN; rw [hN, cp]; rfl
    unfold refOK
    rw [hN, cp, hE, Bool.true_and]
    by_cases c0 : frcN (s.drop fr) = 0
    · rw [bcT (b := _ == _) (by rw [c0]; rfl), decide_eq_true c0, if_neg (by simp)]
    · rw [bcF (b := _ == _) (beq_eq_false_iff_ne.2 (by omega)), decide_eq_false c0]
      simp only [Bool.not_false, Bool.true_and, decide_eq_true_eq]
      by_cases cc : 1 ≤ n ∧ n ≤ 40 ∧ frcN (s.drop fr) ≤ 40 ∧ fr + n + 1 + frcN (s.drop fr) = s.length
      · rw [if_pos cc, if_pos (by omega)]
      · rw [if_neg cc, if_neg (by omega)]
  · have cp' : ptB ((s.drop fr).drop n) = false := by simpa using cp
    have hm : frcN (s.drop fr) = 0 := by unfold frcN; rw [hN, cp']; rfl
    have hE : endN (s.drop fr) = n := by unfold endN; rw [hN, cp']; rfl
    have fin : lastQ s mx (fr : Int) (n : Int) ((fr + n : Nat) : Int) 0 = if refOK (s.drop fr) = true then some (.normal, sR2 s mx (fr : Int) (s.length : Int) (frcN (s.drop fr) : Int)) else ret12 := by
      have := key 0 (fr + n) (by omega)
      rw [show ((0 : Nat) : Int) = 0 from rfl] at this
      rw [this, hm]
      unfold refOK
      rw [hN, cp', hE, hm]
      simp only [Bool.false_and, Bool.not_false, Bool.true_and, decide_eq_true_eq]
      by_cases cc : 1 ≤ n ∧ n ≤ 40 ∧ 0 ≤ 40 ∧ fr + n = s.length
      · rw [if_pos cc, if_pos (by omega)]; rfl
      · rw [if_neg cc, if_neg (by omega)]
    by_cases ct : fr + n < s.length
    · have hne : ¬ (s.drop fr).getD n 0 = 46 := fun e => cp ((pt_at _ _).2 ⟨by omega, e⟩)
      have hb : (byteAt s ((fr + n : Nat) : Int).toNat == 46) = false := by
        unfold byteAt; rw [Int.toNat_natCast, gd]
        refine beq_eq_false_iff_ne.2 fun e => hne (UInt8.toNat.inj ?_)
        have : (46 : UInt8).toNat = 46 := rfl
        omega
      rw [bcT (b := decide _) (decide_eq_true (by omega)), bcT (b := inS _ _) (decide_eq_true (by omega)), bcF hb]
      exact fin
    · rw [bcF (b := decide _) (decide_eq_false (by omega))]
      exact fin
theorem okTE_of {l : List Int} {k : Nat} {n : Int} (X : Nat) (h1 : l.take k = dg X) (h2 : k = nd X) (h3 : k ≤ 1000) (h4 : -1000 ≤ n ∧ n ≤ 1000) : decide (l.take k = dg (numL (l.take k)) ∧ k = nd (numL (l.take k)) ∧ k ≤ 1000 ∧ -1000 ≤ n ∧ n ≤ 1000) = true := by
  rw [decide_eq_true_eq, h1, numL_dg]; exact ⟨rfl, h2, h3, h4⟩
theorem okLT_of (A B : Nat) (h1 : nd A ≤ 10000) (h2 : nd B ≤ 10000) : decide (dg A = dg (numL (dg A)) ∧ nd A = nd (numL (dg A)) ∧ dg B = dg (numL (dg B)) ∧ nd B = nd (numL (dg B)) ∧ nd A ≤ 10000 ∧ nd B ≤ 10000) = true := by
  rw [decide_eq_true_eq, numL_dg, numL_dg]; exact ⟨rfl, rfl, rfl, rfl, h1, h2⟩
theorem rread_core (s : List UInt8) (hs : s.length ≤ 1000) (hr : refOK (bodyS s) = true) (p q x : Int) (hp : -1000000000000000 < p ∧ p < 1000000000000000) (hq : -9 ≤ q ∧ q ≤ 9)
    (hnr : Meets Try.prog 36 [.bool (qzv s), .dsl 0 (nd (rdN (bodyS s))), .dsl 1 (nd (1 * 10 ^ frcN (bodyS s)))] [FL (rdN (bodyS s)), FL (1 * 10 ^ frcN (bodyS s))] (.tuple [.agg [.int .i64 p, .int .i64 q], .int .i64 x]) [FL (rdN (bodyS s)), FL (1 * 10 ^ frcN (bodyS s))]) :
    Meets Try.prog 14 [.str s] [] (if x = 0 then (if p.natAbs * 10 ^ (q + 9).toNat * 10 ^ frcN (bodyS s) = rdN (bodyS s) * 10 ^ 9 then .tuple [.agg [.int .i64 p, .int .i64 q], .int .i64 0] else .tuple [.agg [.int .i64 0, .int .i64 0], .int .i64 10]) else .tuple [.agg [.int .i64 0, .int .i64 0], .int .i64 x]) [] := by
  obtain ⟨r1, r2, r3, r4, r5, r6, r7⟩ := rd_spec hr
  have hbody : Try.f14.body = some (qzx Try.f14) := by kernel_rfl
  have nl : ∀ c : Code, LoopsOK Try.prog {} ([] : List PObj).length c := fun c x hx id e h1 h2 => by cases h2
  have e1 := eR1 s
  have e2 := eR2 hs
  rw [if_pos hr] at e2
  have hf := fr_le s
  have hbl : (bodyS s).length = s.length - frI s := by rw [body_eq, List.length_drop]
  have hpos : 1 ≤ s.length := by
    obtain ⟨_, b', d, hl, _⟩ := text_bytes hr
    have := congrArg List.length hl
    rw [hbl, List.length_append, List.length_singleton] at this; omega
  have hw : wr ((s.length : Int) - 1) = (s.length : Int) - 1 := by unfold wr; exact i64_in (by omega) (by omega)
  have hL := loopR (s := s) (fr := frI s) (qzv s) (frcN (bodyS s) : Int) hf hs (by rw [← body_eq]; exact hr)
  rw [← body_eq] at hL
  generalize hK : (flS (bodyS s)).length = K at *
  have hdN : dR (bodyS s) 0 = dN K (rdN (bodyS s)) := by
    unfold dR
    rw [List.drop_zero, rev_dN K _ (by rw [bytesD_length, hK]) r6]; rfl
  rw [hdN] at hL
  have hNK : nd (rdN (bodyS s)) ≤ K := nd_le (by
    have := (val_bounds _ r6).2
    rw [bytesD_length, hK, ← r1] at this
    refine Int.ofNat_lt.1 ?_
    rw [Int.natCast_pow]; exact this)
  generalize hNN : rdN (bodyS s) = N at *
  generalize hmm : frcN (bodyS s) = m at *
  have hT : TabOK Try.prog (tabO (rdf (qzv s) N K m p q x)) :=
    .cons (trO_ok _ _ _ _ _ _ _ (by omega) hNK) (.cons (unO_ok _ _ _ _ _ _ _ (by omega)) (.cons (neO_ok _ _ _ _ _ _ _ hNK hnr) (.cons (whO_ok _ _ _ _ _ _ _ hp hq) (.cons (teO_ok _ _ _ _ _ _ _) (.cons (ltO_ok _ _ _ _ _ _ _) .nil)))))
  have hX := Nat.le_refl 0
  have n1 : nd (p.natAbs * 10 ^ (q + 9).toNat) ≤ 60 := by
    have := nd_pow (x := p.natAbs) (k := (q + 9).toNat)
    have h20 := nd_small (n := p.natAbs) (by omega)
    omega
  have n2 : nd (p.natAbs * 10 ^ (q + 9).toNat * 10 ^ m) ≤ 110 := by
    have := nd_pow (x := p.natAbs * 10 ^ (q + 9).toNat) (k := m)
    omega
  have n3 : nd (N * 10 ^ 9) ≤ 100 := by
    have := nd_pow (x := N) (k := 9)
    omega
  have tk : List.take (nd N) (dN K N) = dg N := dN_take hNK
  have tX : ∀ X : Nat, List.take (nd X) (dg X) = dg X := fun X => by
    have := qxu (n := X)
    exact List.take_of_length_le (by omega)
  have rest : ∀ r : AV × List PObj, tailO (rdf (qzv s) N K m p q x) (dN K N) (nd N) (m : Int) (p, q, x) = some r → ∃ res post, Meets Try.prog 14 [.str s] [] res (post.map PObj.toA) ∧ pure2 res post = some r := fun r hr5 => by
    refine goes_meets (R := AV × List PObj) (NF := 64) (args := [.str s]) (pre := []) (k := pure2) (r := r) host Try.func14 hbody
      (goes_cut (pre := []) noH_ok (nl _) e1 (goes_runs (pre := []) (ent_sound (.cons fig_ok .nil) host nolv_ok 30) (nl _) e2 (restC_add 4 5 _)
        (goes_runs (pre := []) noH_ok (nl _) (partR3 _ _ _ _ _) ((restC_add 9 1 _).trans shapeR)
          (goes_tri (pre := []) (tri_seq (code_tri noH_ok (nl _) (partR4 _ _ _ _ _)) (tri_block (by rw [hw]; exact hL)))
            (goes_code (pre := []) (NF := 64) (m := 18446744073709551616) (ent_sound (NF := 64) (m := 18446744073709551616) hT host nolv_ok 30) (nl _) ?_)))))
    refine (partR5 _ _ _ _ _).trans ?_
    have o1 : (rdf (qzv s) N K m p q x).okTR (dN K N) K = true := decide_eq_true ⟨rfl, rfl⟩
    have o2 : (rdf (qzv s) N K m p q x).okUN (m : Int) = true := decide_eq_true rfl
    have o3 : (rdf (qzv s) N K m p q x).okNE (qzv s) (dN K N) ((rdf (qzv s) N K m p q x).TR (dN K N) K) ((rdf (qzv s) N K m p q x).UN (m : Int)) ((rdf (qzv s) N K m p q x).kUN (m : Int)) = true := decide_eq_true ⟨rfl, rfl, rfl, rfl, rfl⟩
    unfold ckO
    rw [bcT o1, bcT o2, bcT o3]
    exact hr5
  have tail : x = 0 → tailO (rdf (qzv s) N K m p q x) (dN K N) (nd N) (m : Int) (p, q, x) = if p.natAbs * 10 ^ (q + 9).toNat * 10 ^ m = N * 10 ^ 9 then outR p q 0 else outR 0 0 10 := fun h0 => by
    unfold tailO ckO endO ckO
    have o1 : (rdf (qzv s) N K m p q x).okWH p q = true := decide_eq_true ⟨rfl, rfl⟩
    have o2 : (rdf (qzv s) N K m p q x).okTE ((rdf (qzv s) N K m p q x).WH p q) ((rdf (qzv s) N K m p q x).kWH p q) (m : Int) = true := okTE_of (p.natAbs * 10 ^ (q + 9).toNat) (tX _) rfl (Nat.le_trans n1 (by decide)) (by omega)
    have o3 : (rdf (qzv s) N K m p q x).okTE (dN K N) (nd N) 9 = true := okTE_of N tk rfl (by omega) (by omega)
    have a1 : (rdf (qzv s) N K m p q x).TE ((rdf (qzv s) N K m p q x).WH p q) ((rdf (qzv s) N K m p q x).kWH p q) (m : Int) = dg (p.natAbs * 10 ^ (q + 9).toNat * 10 ^ m) ∧ (rdf (qzv s) N K m p q x).kTE ((rdf (qzv s) N K m p q x).WH p q) ((rdf (qzv s) N K m p q x).kWH p q) (m : Int) = nd (p.natAbs * 10 ^ (q + 9).toNat * 10 ^ m) := by
      show dg (numL (List.take (nd (p.natAbs * 10 ^ (q + 9).toNat)) (dg (p.natAbs * 10 ^ (q + 9).toNat))) * 10 ^ (m : Int).toNat) = _ ∧ nd (numL (List.take (nd (p.natAbs * 10 ^ (q + 9).toNat)) (dg (p.natAbs * 10 ^ (q + 9).toNat))) * 10 ^ (m : Int).toNat) = _
      rw [tX, numL_dg, Int.toNat_natCast]; exact ⟨rfl, rfl⟩
    have b1 : (rdf (qzv s) N K m p q x).TE (dN K N) (nd N) 9 = dg (N * 10 ^ 9) ∧ (rdf (qzv s) N K m p q x).kTE (dN K N) (nd N) 9 = nd (N * 10 ^ 9) := by
      show dg (numL (List.take (nd N) (dN K N)) * 10 ^ (9 : Int).toNat) = _ ∧ nd (numL (List.take (nd N) (dN K N)) * 10 ^ (9 : Int).toNat) = _
      rw [tk, numL_dg]; exact ⟨rfl, rfl⟩
    have lt : ∀ A B : Nat, nd A ≤ 10000 → nd B ≤ 10000 → (rdf (qzv s) N K m p q x).okLT (dg A) (nd A) (dg B) (nd B) = true ∧ (rdf (qzv s) N K m p q x).LT (dg A) (nd A) (dg B) (nd B) = decide (A < B) := fun A B h1 h2 => by
      refine ⟨okLT_of A B h1 h2, ?_⟩
      show decide (numL (dg A) < numL (dg B)) = _
      rw [numL_dg, numL_dg]
    simp only
    rw [bcF (b := x != 0) (by rw [h0]; rfl), bcT o1, bcT o2, bcT o3, a1.1, a1.2, b1.1, b1.2]
    generalize p.natAbs * 10 ^ (q + 9).toNat * 10 ^ m = A at *
    generalize N * 10 ^ 9 = B at *
    obtain ⟨l1, l2⟩ := lt A B (by omega) (by omega)
    obtain ⟨l3, l4⟩ := lt B A (by omega) (by omega)
    rw [bcT l1, l2]
    by_cases c1 : A < B
    · rw [bcT (decide_eq_true c1), if_neg (by omega)]
    · rw [bcF (decide_eq_false c1), bcT l3, l4]
      by_cases c2 : B < A
      · rw [bcT (decide_eq_true c2), if_neg (by omega)]
      · rw [bcF (decide_eq_false c2), if_pos (by omega)]
  by_cases h0 : x = 0
  · rw [if_pos h0]
    by_cases hc : p.natAbs * 10 ^ (q + 9).toNat * 10 ^ m = N * 10 ^ 9
    · rw [if_pos hc]
      obtain ⟨res, post, k1, k2⟩ := rest (.tuple [.agg [.int .i64 p, .int .i64 q], .int .i64 0], []) (by rw [tail h0, if_pos hc]; rfl)
      cases k2; exact k1
    · rw [if_neg hc]
      obtain ⟨res, post, k1, k2⟩ := rest (.tuple [.agg [.int .i64 0, .int .i64 0], .int .i64 10], []) (by rw [tail h0, if_neg hc]; rfl)
      cases k2; exact k1
  · rw [if_neg h0]
    obtain ⟨res, post, k1, k2⟩ := rest (.tuple [.agg [.int .i64 0, .int .i64 0], .int .i64 x], []) (by unfold tailO; simp only; rw [bcT (b := x != 0) (bne_iff_ne.2 h0)]; rfl)
    cases k2; exact k1
theorem nearX_or (N M : Nat) : nearX N M = 0 ∨ nearX N M = 10 := by
  unfold nearX
  cases nearG N M 19 0 with
  | none => exact .inr rfl
  | some p => exact .inl rfl
theorem rread_bad (s : List UInt8) (hs : s.length ≤ 1000) (hr : ¬ refOK (bodyS s) = true) : Meets Try.prog 14 [.str s] [] (.tuple [.agg [.int .i64 0, .int .i64 0], .int .i64 12]) [] := by
  have hbody : Try.f14.body = some (qzx Try.f14) := by kernel_rfl
  have nl : ∀ c : Code, LoopsOK Try.prog {} ([] : List PObj).length c := fun c x hx id e h1 h2 => by cases h2
  have e2 := eR2 hs
  rw [if_neg hr] at e2
  obtain ⟨res, post, k1, k2⟩ := goes_meets (R := AV × List PObj) (NF := 64) (args := [.str s]) (pre := []) (k := pure2) (r := (.tuple [.agg [.int .i64 0, .int .i64 0], .int .i64 12], [])) host Try.func14 hbody
    (goes_cut (pre := []) noH_ok (nl _) (eR1 s) (goes_ret (pre := []) (ent_sound (.cons fig_ok .nil) host nolv_ok 30) (nl _) e2 partR12))
  cases k2; exact k1
theorem rmul_any (a b c d : Int) : Meets Try.prog 45 [.agg [.int .i64 a, .int .i64 b], .agg [.int .i64 c, .int .i64 d]] [] (R3 (mulR a b c d)) [] := by
  by_cases h : qzz a b = true ∧ qzz c d = true
  · rw [mul_near a b c d h.1 h.2, r3_eq]; exact mul_ok a b c d h.1 h.2
  · unfold mulR; rw [if_neg h, bad3, r3_eq]; exact mul_bad a b c d h
theorem rdiv_any (a b c d : Int) : Meets Try.prog 46 [.agg [.int .i64 a, .int .i64 b], .agg [.int .i64 c, .int .i64 d]] [] (R3 (divR a b c d)) [] := by
  by_cases h : qzz a b = true ∧ qzz c d = true
  · by_cases h0 : c = 0
    · subst h0
      unfold divR; rw [if_pos h, if_pos rfl, r3_eq]; exact Rr.div_zero a b d h.1 h.2
    · rw [div_near a b c d h.1 h.2 h0, r3_eq]; exact div_ok a b c d h.1 h.2 h0
  · unfold divR; rw [if_neg h, bad3, r3_eq]; exact div_bad a b c d h
theorem rread_val (s : List UInt8) (hr : refOK (bodyS s) = true) (p q x : Int) (h : nearM (qzv s) (digs 88 (wrS s)) = (p, q)) (hx : nearX (rdN (bodyS s)) (1 * 10 ^ frcN (bodyS s)) = x) (ho : x = 0 ∨ x = 10)
    (hd : nearD (qzv s) (rdN (bodyS s)) (1 * 10 ^ frcN (bodyS s)) = (p, q)) :
    (if x = 0 then (if p.natAbs * 10 ^ (q + 9).toNat * 10 ^ frcN (bodyS s) = rdN (bodyS s) * 10 ^ 9 then R3 (p, q, 0) else R3 (0, 0, 10)) else R3 (0, 0, x)) = R3 (readR s) := by
  rw [← rdRef_eq]
  unfold rdRef
  rw [if_pos hr, hd, hx]
  rcases ho with e | e
  · rw [if_pos e]
    by_cases c : p.natAbs * 10 ^ (q + 9).toNat * 10 ^ frcN (bodyS s) = rdN (bodyS s) * 10 ^ 9
    · rw [if_pos c, if_pos ⟨e, c⟩]
    · rw [if_neg c, if_neg (fun h => c h.2)]; rfl
  · subst e
    rw [if_neg (by decide), if_neg (fun h => absurd h.1 (by decide))]; rfl
theorem rread_at (s : List UInt8) (hs : s.length ≤ 1000) (hr : refOK (bodyS s) = true) (N M : Nat) (hN : rdN (bodyS s) = N) (hM : 1 * 10 ^ frcN (bodyS s) = M) (t : Int × Int) (x : Int) (h : nearM (qzv s) (digs 88 (wrS s)) = t) (hd : nearD (qzv s) N M = t) (hx : nearX N M = x)
    (hnr : Meets Try.prog 36 [.bool (qzv s), .dsl 0 (nd N), .dsl 1 (nd M)] [FL N, FL M] (.tuple [.agg [.int .i64 t.1, .int .i64 t.2], .int .i64 x]) [FL N, FL M]) :
    Meets Try.prog 14 [.str s] [] (R3 (readR s)) [] := by
  have ho : x = 0 ∨ x = 10 := by rw [← hx]; exact nearX_or N M
  obtain ⟨p, q⟩ := t
  subst hN hM
  have hb := nearM_bounds (digs_dig 88 (wrS s)) (qzv s)
  rw [h] at hb
  have := rread_core s hs hr p q x hb.1 hb.2 hnr
  rw [← rread_val s hr p q x h hx ho hd]
  exact this
theorem rread_any (s : List UInt8) (hs : s.length ≤ 1000) : Meets Try.prog 14 [.str s] [] (R3 (readR s)) [] := by
  by_cases hr : refOK (bodyS s) = true
  · have hw : okW s = true := by rw [refOK_eq] at hr; exact hr
    obtain ⟨g1, g2, _, _⟩ := near_read hw (qzv s)
    obtain ⟨r1, r2, r3, r4, r5, r6, r7⟩ := rd_spec hr
    have n1 : nd (rdN (bodyS s)) < 100000 := Nat.lt_of_le_of_lt (nd_le r3) (by decide)
    have n2 : nd (1 * 10 ^ frcN (bodyS s)) < 100000 := by
      have := nd_pow (x := 1) (k := frcN (bodyS s))
      have h1 : nd 1 = 1 := nd_one
      omega
    have hp : 0 < 1 * 10 ^ frcN (bodyS s) := by rw [Nat.one_mul]; exact Nat.pow_pos (by decide)
    exact rread_at s hs hr _ _ rfl rfl _ _ g1 rfl rfl (rnear_meets (qzv s) (rdN (bodyS s)) (1 * 10 ^ frcN (bodyS s)) n1 n2 hp)
  · have h := rread_bad s hs hr
    have e : readR s = (0, 0, 12) := by
      rw [← rdRef_eq]; unfold rdRef; rw [if_neg hr]
    rw [e]; exact h
end Go.Proofs.Ytmgiefeggkikcaa
namespace Go.Proofs.Ytmgiefeggkikcaa
open Go Sx Rf Dc
theorem loopT1 (am ae : Int) {N : Nat} (h : nd N ≤ 100) : Tri Try.prog (.loop (loopIn (stmtN 3 (qzx Try.f48)))) (stT am ae (dN (nd N) N) (nd N)).toA (.exit 0) (stT am ae (dN (tenL N) N) (tenL N)).toA 0 := by
  have hL : 10 ≤ tenL N ∧ nd N ≤ tenL N ∧ (tenL N = 10 ∨ tenL N = nd N) := by unfold tenL; omega
  refine loop_rounds (ι := { j : Nat // nd N ≤ j ∧ j ≤ tenL N }) (NF := 64) (m := 18446744073709551616) (lv := {}) noH_ok (fun x hx id e h1 h2 => by cases h2) kT kT (fun j => stT am ae (dN j.1 N) j.1) (fun j => tenL N - j.1) (fun _ => (.exit 0, stT am ae (dN (tenL N) N) (tenL N))) ?_ (fun _ => by simp) ⟨nd N, by omega, by omega⟩
  rintro ⟨j, h1, h2⟩
  simp only
  rw [roundT1]
  by_cases c : j ≤ 9
  · rw [bcT (b := decide ((j : Int) ≤ 9)) (decide_eq_true (by omega)), bcT (b := decide _ && roomB (j + 1) 8) (by rw [decide_eq_true (by rw [qxt]; omega), Bool.true_and]; unfold roomB; exact decide_eq_true (by omega))]
    refine .inl ⟨⟨j + 1, by omega, by omega⟩, by simp only; omega, trivial, ?_⟩
    simp only
    rw [dN_succ, no_digit h1]; rfl
  · rw [bcF (b := decide ((j : Int) ≤ 9)) (decide_eq_false (by omega))]
    have : j = tenL N := by omega
    subst this
    exact .inr rfl
theorem frmGo_step {N f k : Nat} : frmGo N (f + 1) k = if k < 9 ∧ N / 10 ^ k % 10 = 0 then frmGo N f (k + 1) else k := rfl
theorem loopT2 (am ae : Int) {N : Nat} : Tri Try.prog (.loop (loopIn (stmtN 5 (qzx Try.f48)))) (stT2 am ae (dN (tenL N) N) (tenL N) 0).toA (.exit 2) (stT2 am ae (dN (tenL N) N) (tenL N) (frm N : Int)).toA 0 := by
  have hL : 10 ≤ tenL N := by unfold tenL; omega
  refine loop_rounds (ι := { k : Nat // k ≤ 9 ∧ frmGo N (9 - k) k = frm N }) (NF := 64) (m := 18446744073709551616) (lv := {}) noH_ok (fun x hx id e h1 h2 => by cases h2) kT2 kT2 (fun k => stT2 am ae (dN (tenL N) N) (tenL N) (k.1 : Int)) (fun k => 9 - k.1) (fun _ => (.exit 2, stT2 am ae (dN (tenL N) N) (tenL N) (frm N : Int))) ?_ (fun _ => by simp) ⟨0, by omega, rfl⟩
  rintro ⟨k, h1, h2⟩
  simp only
  rw [roundT2]
  by_cases c : k < 9
  · rw [bcT (b := decide ((k : Int) < 9)) (decide_eq_true (by omega)), bcT (b := decide (0 ≤ (k : Int) ∧ (k : Int) < _)) (decide_eq_true (by omega)), bcT (b := decide (_ < _)) (decide_eq_true (by rw [qxt]; omega))]
    have e9 : 9 - k = (9 - (k + 1)) + 1 := by omega
    rw [e9, frmGo_step] at h2
    rw [show ((k : Int).toNat * 1) = k by omega, dN_getD (by omega)]
    by_cases d : N / 10 ^ k % 10 = 0
    · rw [if_pos ⟨c, d⟩] at h2
      rw [bcT (b := _ == _) (beq_iff_eq.2 (by rw [d]; rfl))]
      refine .inl ⟨⟨k + 1, by omega, h2⟩, by simp only; omega, trivial, ?_⟩
      rw [show IntKind.i64.wrap ((k : Int) + 1) = ((k + 1 : Nat) : Int) from by rw [i64_in (by omega) (by omega)]; push_cast; rfl]
    · rw [if_neg (fun e => d e.2)] at h2
      rw [bcF (b := _ == _) (beq_eq_false_iff_ne.2 (by omega)), h2]
      exact .inr rfl
  · rw [bcF (b := decide ((k : Int) < 9)) (decide_eq_false (by omega))]
    have : k = 9 := by omega
    subst this
    rw [← h2]
    exact .inr rfl
abbrev dsN (N : Nat) : List Int := digs 88 ((N * 10 ^ 31 : Nat) : Int)
theorem ch_eq {N L : Nat} {i : Nat} (h : i < L) : chI (dN L N) (i : Int) = 48 + ((N / 10 ^ i % 10 : Nat) : Int) ∧ toByte (chI (dN L N) (i : Int)) = chB ((N / 10 ^ i % 10 : Nat) : Int) := by
  have e : chI (dN L N) (i : Int) = 48 + ((N / 10 ^ i % 10 : Nat) : Int) := by
    unfold chI
    rw [show ((i : Int).toNat * 1) = i by omega, dN_getD h, i64_in (by omega) (by omega), u8_in (by omega) (by omega)]
  exact ⟨e, by rw [e]; rfl⟩
theorem loopT3 {N : Nat} {pre : List UInt8} (hp : pre.length ≤ 1) (h : nd N ≤ 57) : Tri Try.prog (.loop (loopIn (stmtN 8 (qzx Try.f48)))) (stT3 (dN (tenL N) N) (tenL N) (frm N : Int) pre ((tenL N : Int) - 1)).toA (.exit 4) (stT4 (pre ++ txt (dsN N) (57 - tenL N) (tenL N - frm N))).toA 0 := by
  have hL : 10 ≤ tenL N ∧ tenL N ≤ 57 := by unfold tenL; omega
  have hf := (frm_spec N).1
  have key := loop_rounds (P := Try.prog) (ι := { n : Nat // n ≤ tenL N - frm N }) (NF := 64) (m := 18446744073709551616) (lv := {}) noH_ok (x := loopIn (stmtN 8 (qzx Try.f48))) (K := 0) (fun x hx id e h1 h2 => by cases h2) kT3 kT4 (fun n => stT3 (dN (tenL N) N) (tenL N) (frm N : Int) (pre ++ txt (dsN N) (57 - tenL N) n.1) ((tenL N : Int) - 1 - n.1)) (fun n => tenL N - n.1) (fun _ => (.exit 4, stT4 (pre ++ txt (dsN N) (57 - tenL N) (tenL N - frm N)))) ?_ (fun _ => by simp) ⟨0, by omega⟩
  · simp only [txt, List.append_nil] at key
    rw [show (tenL N : Int) - 1 - ((0 : Nat) : Int) = (tenL N : Int) - 1 by omega] at key
    exact key
  rintro ⟨n, hn⟩
  simp only
  rw [roundT3]
  have hlen := txt_len (dsN N) (57 - tenL N) n
  by_cases c : n < tenL N - frm N
  · obtain ⟨i, hi⟩ : ∃ i : Nat, i = tenL N - 1 - n := ⟨_, rfl⟩
    have ei : (tenL N : Int) - 1 - n = (i : Int) := by omega
    rw [ei, bcT (b := decide ((i : Int) ≥ (frm N : Int))) (decide_eq_true (by omega))]
    obtain ⟨c1, c2⟩ := ch_eq (N := N) (L := tenL N) (i := i) (by omega)
    have hd : (dsN N).getD (57 - tenL N + n) 0 = ((N / 10 ^ i % 10 : Nat) : Int) := by
      rw [ds_at (by omega), if_pos (by omega), show 56 - (57 - tenL N + n) = i by omega]
    have dig : ∀ o : List UInt8, o.length ≤ 1000 → digT (dN (tenL N) N) (tenL N) (frm N : Int) (i : Int) o = some (.normal, stT3 (dN (tenL N) N) (tenL N) (frm N : Int) (o ++ [chB ((dsN N).getD (57 - tenL N + n) 0)]) ((tenL N : Int) - 1 - ((n + 1 : Nat) : Int))) := fun o ho => by
      unfold digT
      rw [bcT (b := decide (0 ≤ (i : Int) ∧ (i : Int) < _)) (decide_eq_true (by omega)), bcT (b := decide (_ < _)) (decide_eq_true (by rw [qxt]; omega)), bcT (b := decide _ && true && true && true) (by rw [decide_eq_true (by rw [c1]; omega)]; rfl), bcT (b := decide (_ ≤ _)) (decide_eq_true (by simp only [List.length_cons, List.length_nil]; omega)), c2, hd]
      rw [show IntKind.i64.wrap ((i : Int) - 1) = (tenL N : Int) - 1 - ((n + 1 : Nat) : Int) from by rw [i64_in (by omega) (by omega)]; omega]
    refine .inl ⟨⟨n + 1, by omega⟩, by simp only; omega, trivial, ?_⟩
    simp only [txt]
    by_cases e : 57 - tenL N + n = 48
    · rw [bcT (b := (i : Int) == 8) (beq_iff_eq.2 (by omega)), bcT (b := decide (_ ≤ _)) (decide_eq_true (by simp only [List.length_append, List.length_cons, List.length_nil]; omega)), dig _ (by simp only [List.length_append, List.length_cons, List.length_nil]; omega), if_pos e]
      simp only [List.append_assoc]
    · rw [bcF (b := (i : Int) == 8) (beq_eq_false_iff_ne.2 (by omega)), dig _ (by simp only [List.length_append]; omega), if_neg e]
      simp only [List.append_assoc, List.nil_append]
  · have : n = tenL N - frm N := by omega
    subst this
    rw [bcF (b := decide (_ ≥ _)) (decide_eq_false (by omega))]
    exact .inr rfl
end Go.Proofs.Ytmgiefeggkikcaa
namespace Go.Proofs.Ytmgiefeggkikcaa
open Go Sx Rf Dc Rr
def mx0 (n : Int) : Int := if 0 > n then 0 else n
def tenV (l : List Int) (k : Nat) (n : Int) : List Int := List.take (mx0 n).toNat (List.drop 0 (List.replicate (mx0 n).toNat 0)) ++ List.take k l
theorem ten_comes (l : List Int) (k : Nat) (n : Int) (m : Bool) : Comes [] nolv 38 [.dsl 0 k, .int .i64 n] [.flatI m l]
    (.br ((k : Int) == 0) (.ret .nilslice [.flatI false l]) (.chk (decide (0 ≤ mx0 n ∧ mx0 n ≤ mx0 n ∧ mx0 n * 8 ≤ 281474976710656 ∧ mx0 n < 9223372036854775808))
      (.chk (decide (k ≤ l.length) && decide (0 + (mx0 n).toNat ≤ (List.replicate (mx0 n).toNat (0 : Int)).length) && Nat.beq (mx0 n).toNat (mx0 n).toNat && decide (0 < k) && roomB ((mx0 n).toNat + k) 8)
        (.ret (.vec 1 ((mx0 n).toNat + k)) [.flatI false l, .vecI .i64 (tenV l k n) 3])))) := by unfold Comes; kernel_rfl
def eTenV : Ent := fun args pre => match args, pre with
  | [.dsl 0 k, .int .i64 n], [.flatI m l] => .chk (decide (0 < k ∧ k = l.length ∧ k ≤ 1000 ∧ -1000 ≤ n ∧ n ≤ 1000)) (.ret (.vec 1 ((mx0 n).toNat + k)) [.flatI false l, .vecI .i64 (List.replicate (mx0 n).toNat 0 ++ l) 3])
  | _, _ => .fail
theorem tenV_ok : EntOK Try.prog 38 eTenV := fun args pre => by
  unfold eTenV; split
  · rename_i k n m l
    refine of_run (ans_comes .nil (ten_comes l k n m)) fun x h => ?_
    obtain ⟨h1, h⟩ : decide _ = true ∧ _ := by
      cases hb : decide (0 < k ∧ k = l.length ∧ k ≤ 1000 ∧ -1000 ≤ n ∧ n ≤ 1000) with
      | true => rw [hb] at h; exact ⟨rfl, h⟩
      | false => rw [hb] at h; cases h
    obtain ⟨a1, a2, a3, a4, a5⟩ := of_decide_eq_true h1
    rw [← h]
    have hm : 0 ≤ mx0 n ∧ mx0 n ≤ 1000 := by unfold mx0; split <;> omega
    simp only [Ans.run, Ans.chk]
    rw [bcF (b := (k : Int) == 0) (beq_eq_false_iff_ne.2 (by omega)), bcT (b := decide _) (decide_eq_true (by omega)), bcT]
    · unfold tenV
      rw [List.drop_zero, List.take_of_length_le (by simp), List.take_of_length_le (by omega)]
      rfl
    · simp only [Bool.and_eq_true, decide_eq_true_eq, List.length_replicate, roomB]
      exact ⟨⟨⟨⟨by omega, by omega⟩, Nat.beq_refl _⟩, a1⟩, by omega⟩
  · trivial
def eDig : Ent := fun args pre => match args, pre with
  | [.int .i64 n], [] => .chk (inI n) (.ret (.dsl 0 (nd n.natAbs)) [.flatI true (dg n.natAbs)])
  | _, _ => .fail
theorem dig_ok : EntOK Try.prog 42 eDig := fun args pre => by
  unfold eDig; split
  · rename_i n
    refine ⟨fun hb => ?_, fun _ => trivial⟩
    have hi := inI_iff.1 hb
    exact digits_meets n hi (by have := nd_small (n := n.natAbs) (by omega); omega)
  · trivial
def wN' (m e : Int) : Nat := m.natAbs * 10 ^ (e + 9).toNat
theorem dg_ten {M j : Nat} (h : 0 < M) : List.replicate j 0 ++ dg M = dg (M * 10 ^ j) ∧ j + nd M = nd (M * 10 ^ j) := by
  have hn : nd (M * 10 ^ j) = nd M + j := by
    refine Nat.le_antisymm nd_pow ?_
    have h0 : 0 < nd M := by rw [nd_pos h]; omega
    have h2 : 10 ^ (nd M - 1) ≤ M := by
      rcases Nat.lt_or_ge M (10 ^ (nd M - 1)) with c | c
      · have := nd_le c; omega
      · exact c
    have := nd_lt (n := M * 10 ^ j) (k := nd M - 1 + j) (by rw [Nat.pow_add]; exact Nat.mul_le_mul_right _ h2)
    omega
  refine ⟨?_, by omega⟩
  refine List.ext_getElem? fun i => ?_
  have hl : (dg (M * 10 ^ j)).length = nd M + j := by rw [qxu, hn]
  by_cases c : i < j
  · rw [List.getElem?_append_left (by simpa using c), List.getElem?_replicate, if_pos c]
    have : (dg (M * 10 ^ j)).getD i 0 = 0 := by
      rw [dg_getD, show M * 10 ^ j = M * 10 ^ (j - i - 1) * 10 * 10 ^ i by rw [Nat.mul_assoc, Nat.mul_assoc, ← Nat.pow_succ', Nat.mul_comm (10 ^ (j - i - 1)), Nat.mul_comm, ← Nat.pow_add, show i + 1 + (j - i - 1) = j by omega, Nat.mul_comm], Nat.mul_div_cancel _ (Nat.pow_pos (by decide)), Nat.mul_mod_left]; rfl
    rw [List.getD, List.getElem?_eq_getElem (by omega)] at this
    rw [List.getElem?_eq_getElem (by omega)]
    simpa using this.symm
  · rw [List.getElem?_append_right (by simpa using c), List.length_replicate]
    by_cases d : i < nd M + j
    · have e1 : (dg (M * 10 ^ j)).getD i 0 = (dg M).getD (i - j) 0 := by
        rw [dg_getD, dg_getD]
        congr 2
        have : 10 ^ i = 10 ^ j * 10 ^ (i - j) := by rw [← Nat.pow_add]; congr 1; omega
        rw [this, ← Nat.div_div_eq_div_mul, Nat.mul_div_cancel _ (Nat.pow_pos (by decide))]
      have l2 : (dg M).length = nd M := qxu
      rw [List.getD, List.getD, List.getElem?_eq_getElem (by omega), List.getElem?_eq_getElem (by omega)] at e1
      rw [List.getElem?_eq_getElem (by omega), List.getElem?_eq_getElem (by omega)]
      simpa using e1.symm
    · have l2 : (dg M).length = nd M := qxu
      rw [List.getElem?_eq_none (by omega), List.getElem?_eq_none (by omega)]
theorem wholeV_comes (am ae : Int) : Comes [(42, eDig), (38, eTenV)] nolv 39 [.agg [.int .i64 am, .int .i64 ae]] []
    (.chk (inI am) (.chk (decide (0 < nd am.natAbs ∧ nd am.natAbs = (dg am.natAbs).length ∧ nd am.natAbs ≤ 1000 ∧ -1000 ≤ IntKind.i64.wrap (ae + 9) ∧ IntKind.i64.wrap (ae + 9) ≤ 1000))
      (.ret (.vec 0 ((mx0 (IntKind.i64.wrap (ae + 9))).toNat + nd am.natAbs)) [.vecI .i64 (List.replicate (mx0 (IntKind.i64.wrap (ae + 9))).toNat 0 ++ dg am.natAbs) 3]))) := by unfold Comes; kernel_rfl
def eWholeV : Ent := fun args pre => match args, pre with
  | [.agg [.int .i64 am, .int .i64 ae]], [] => .chk (qzz am ae && decide (am ≠ 0)) (.ret (.vec 0 (nd (wN' am ae))) [.vecI .i64 (dg (wN' am ae)) 3])
  | _, _ => .fail
theorem wholeV_ok : EntOK Try.prog 39 eWholeV := fun args pre => by
  unfold eWholeV; split
  · rename_i am ae
    refine of_run (ans_comes (.cons dig_ok (.cons tenV_ok .nil)) (wholeV_comes am ae)) fun x h => ?_
    obtain ⟨h1, h⟩ : (qzz am ae && decide (am ≠ 0)) = true ∧ _ := by
      cases hb : (qzz am ae && decide (am ≠ 0)) with
      | true => rw [hb] at h; exact ⟨rfl, h⟩
      | false => rw [hb] at h; cases h
    rw [Bool.and_eq_true, decide_eq_true_eq] at h1
    obtain ⟨⟨a1, a2⟩, a3, a4⟩ := qyy h1.1
    have hw : IntKind.i64.wrap (ae + 9) = ae + 9 := i64_in (by omega) (by omega)
    have hm : mx0 (ae + 9) = ae + 9 := by unfold mx0; rw [if_neg (by omega)]
    have hM : 0 < am.natAbs := by omega
    obtain ⟨d1, d2⟩ := dg_ten (M := am.natAbs) (j := (ae + 9).toNat) hM
    have h20 := nd_small (n := am.natAbs) (by omega)
    have h0 : 0 < nd am.natAbs := by rw [nd_pos hM]; omega
    rw [← h]
    simp only [Ans.run, Ans.chk]
    rw [hw, hm, bcT (b := inI am) (inI_iff.2 (by omega)), bcT (b := decide _) (decide_eq_true ⟨h0, qxu.symm, by omega, by omega, by omega⟩), d1, d2]
    rfl
  · trivial
def eRtT : Ent := fun args pre => match args, pre with
  | [.agg [.int .i64 am, .int .i64 ae]], [] => .chk (qzz am ae) (.ret (.bool true) [])
  | _, _ => .fail
def eRtF : Ent := fun args pre => match args, pre with
  | [.agg [.int .i64 am, .int .i64 ae]], [] => .chk (!qzz am ae) (.ret (.bool false) [])
  | _, _ => .fail
theorem rtT_ok : EntOK Try.prog 50 eRtT := fun args pre => by
  unfold eRtT; split
  · rename_i a b
    refine ⟨fun hb => ?_, fun _ => trivial⟩
    have := qwz a b; rw [hb] at this; exact this
  · trivial
theorem rtF_ok : EntOK Try.prog 50 eRtF := fun args pre => by
  unfold eRtF; split
  · rename_i a b
    refine ⟨fun hb => ?_, fun _ => trivial⟩
    have := qwz a b; rw [(by simpa using hb : qzz a b = false)] at this; exact this
  · trivial
def tabTx : Tab := [(50, eRtT), (39, eWholeV)]
theorem tabTx_ok : TabOK Try.prog tabTx := .cons rtT_ok (.cons wholeV_ok .nil)
theorem partT1 (am ae : Int) : runsC (ent (R := Ex × PState) Try.prog tabTx nolv 64 18446744073709551616 30) Try.prog {} 0 64 18446744073709551616 (endK 0 64 kT kT) 3 (qzx Try.f48) (startP 56 [.agg [.int .i64 am, .int .i64 ae]] [] 64) =
    bcond (qzz am ae) (bcond (qzz am ae && decide (am ≠ 0)) (some (.normal, stT am ae (dg (wN' am ae)) (nd (wN' am ae)))) none) none := by kernel_rfl
theorem partT2 (am ae : Int) (l : List Int) (n : Nat) : runsC (noH (R := Ex × PState)) Try.prog {} 0 64 18446744073709551616 (endK 0 64 kT2 kT2) 1 (restC 4 (qzx Try.f48)) (stT am ae l n) = some (.normal, stT2 am ae l n 0) := by kernel_rfl
def stT25 (l : List Int) (n : Nat) (f : Int) (s : List UInt8) : PState := ⟨none :: none :: none :: none :: some (.vec 0 n) :: some (.int .i64 f) :: some (.str s) :: List.replicate 49 none, some (.vecI .i64 l 3) :: List.replicate 64 none⟩
abbrev kT25 : Nat → Bool := fun n => hasN [4, 5, 6] n
theorem partT3 (am ae : Int) (l : List Int) (n : Nat) (f : Int) : runsC (noH (R := Ex × PState)) Try.prog {} 0 64 18446744073709551616 (endK 0 64 kT25 kT25) 2 (restC 6 (qzx Try.f48)) (stT2 am ae l n f) = bcond (decide (am < 0)) (some (.normal, stT25 l n f [45])) (some (.normal, stT25 l n f [])) := by kernel_rfl
def headTx (c : Code) : Code := match c with | .seq a _ => a | c => c
theorem partT4 (l : List Int) (n : Nat) (f : Int) (s : List UInt8) : code (noH (R := Ex × PState)) Try.prog {} 0 64 18446744073709551616 (headTx (stmtN 8 (qzx Try.f48))) (stT25 l n f s) (endK 0 64 kT3 kT3) = some (.normal, stT3 l n f s (IntKind.i64.wrap ((n : Int) - 1))) := by kernel_rfl
theorem partT5 (s : List UInt8) : code (noH (R := AV × List PObj)) Try.prog {} 0 64 18446744073709551616 (restC 9 (qzx Try.f48)) (stT4 s) (finP Try.prog Try.f48 0 [] pure2) = pure2 (.tuple [.str s, .int .i64 0]) [] := by kernel_rfl
theorem shape1 : restC 3 (qzx Try.f48) = .seq (.block 0 (.loop (loopIn (stmtN 3 (qzx Try.f48))))) (restC 4 (qzx Try.f48)) := by kernel_rfl
theorem shape2 : restC 5 (qzx Try.f48) = .seq (.block 2 (.loop (loopIn (stmtN 5 (qzx Try.f48))))) (restC 6 (qzx Try.f48)) := by kernel_rfl
theorem shape3 : restC 8 (qzx Try.f48) = .seq (.seq (headTx (stmtN 8 (qzx Try.f48))) (.block 4 (.loop (loopIn (stmtN 8 (qzx Try.f48)))))) (restC 9 (qzx Try.f48)) := by kernel_rfl
theorem text_zero : Comes [] nolv 48 [.agg [.int .i64 0, .int .i64 0]] [] (.ret (.tuple [.str [48], .int .i64 0]) []) := by unfold Comes; kernel_rfl
theorem text_none (am ae : Int) : Comes [(50, eRtF)] nolv 48 [.agg [.int .i64 am, .int .i64 ae]] [] (.chk (!qzz am ae) (.ret (.tuple [.str [], .int .i64 10]) [])) := by unfold Comes; kernel_rfl
theorem textR_eq {am ae : Int} (h : qzz am ae = true) : (textR am ae).1 = (if am < 0 then [45] else []) ++ txt (dsN (wN' am ae)) (57 - tenL (wN' am ae)) (tenL (wN' am ae) - frm (wN' am ae)) ∧ (textR am ae).2 = 0 := by
  obtain ⟨⟨a1, a2⟩, a3, a4⟩ := qyy h
  have hN : nd (wN' am ae) ≤ 57 := by
    have := nd_pow (x := am.natAbs) (k := (ae + 9).toNat)
    have h20 := nd_small (n := am.natAbs) (by omega)
    show nd (am.natAbs * 10 ^ (ae + 9).toNat) ≤ 57
    omega
  have hL : 10 ≤ tenL (wN' am ae) ∧ tenL (wN' am ae) ≤ 57 := by unfold tenL; omega
  have hf := (frm_spec (wN' am ae)).1
  have ha : aV am ae = ((wN' am ae * 10 ^ 31 : Nat) : Int) := by have := aV_whole (m := am) (e := ae) a3; unfold aV' at this; unfold aV wN'; exact this
  unfold textR
  rw [if_pos h, ha]
  refine ⟨?_, rfl⟩
  show textB _ _ = _
  unfold textB
  rw [fst_ref hN, lst_ref, show 57 - frm (wN' am ae) - (57 - tenL (wN' am ae)) = tenL (wN' am ae) - frm (wN' am ae) by omega]
  simp only [decide_eq_true_eq]
theorem rtext_any (am ae : Int) : Meets Try.prog 48 [.agg [.int .i64 am, .int .i64 ae]] [] (.tuple [.str (textR am ae).1, .int .i64 (textR am ae).2]) [] := by
  by_cases h : qzz am ae = true
  · by_cases h0 : am = 0
    · have e0 : ae = 0 := by
        unfold qzz at h; rw [decide_eq_true_eq] at h; exact h.2.2.2.2.1 h0
      subst h0; subst e0
      have := ans_comes (T := []) .nil text_zero
      have ht : textR 0 0 = ([48], 0) := by kernel_rfl
      rw [ht]; exact this
    · obtain ⟨t1, t2⟩ := textR_eq h
      rw [t1, t2]
      obtain ⟨⟨a1, a2⟩, a3, a4⟩ := qyy h
      have hN : nd (wN' am ae) ≤ 57 := by
        have := nd_pow (x := am.natAbs) (k := (ae + 9).toNat)
        have h20 := nd_small (n := am.natAbs) (by omega)
        show nd (am.natAbs * 10 ^ (ae + 9).toNat) ≤ 57
        omega
      have hL : 10 ≤ tenL (wN' am ae) ∧ tenL (wN' am ae) ≤ 57 := by unfold tenL; omega
      have hbody : Try.f48.body = some (qzx Try.f48) := by kernel_rfl
      have nl : ∀ c : Code, LoopsOK Try.prog {} ([] : List PObj).length c := fun c x hx id e h1 h2 => by cases h2
      have p1 := partT1 am ae
      rw [bcT h, bcT (b := qzz am ae && decide (am ≠ 0)) (by rw [h, decide_eq_true h0]; rfl)] at p1
      generalize hs : (if am < 0 then [45] else ([] : List UInt8)) = sg
      have hsl : sg.length ≤ 1 := by rw [← hs]; split <;> simp
      have p3 : runsC (noH (R := Ex × PState)) Try.prog {} 0 64 18446744073709551616 (endK 0 64 kT25 kT25) 2 (restC 6 (qzx Try.f48)) (stT2 am ae (dN (tenL (wN' am ae)) (wN' am ae)) (tenL (wN' am ae)) (frm (wN' am ae) : Int)) = some (.normal, stT25 (dN (tenL (wN' am ae)) (wN' am ae)) (tenL (wN' am ae)) (frm (wN' am ae) : Int) sg) := by
        rw [partT3]
        by_cases c : am < 0
        · rw [bcT (decide_eq_true c), ← hs, if_pos c]
        · rw [bcF (decide_eq_false c), ← hs, if_neg c]
      obtain ⟨res, post, k1, k2⟩ := goes_meets (R := AV × List PObj) (NF := 64) (args := [.agg [.int .i64 am, .int .i64 ae]]) (pre := []) (k := pure2) (r := (.tuple [.str (sg ++ txt (dsN (wN' am ae)) (57 - tenL (wN' am ae)) (tenL (wN' am ae) - frm (wN' am ae))), .int .i64 0], [])) host Try.func48 hbody
        (goes_runs (pre := []) (ent_sound tabTx_ok host nolv_ok 30) (nl _) p1 shape1
          (goes_tri (pre := []) (tri_block (loopT1 am ae (by omega)))
            (goes_runs (pre := []) noH_ok (nl _) (partT2 am ae _ _) ((restC_add 4 1 _).trans shape2)
              (goes_tri (pre := []) (tri_block (loopT2 am ae))
                (goes_runs (pre := []) noH_ok (nl _) p3 ((restC_add 6 2 _).trans shape3)
                  (goes_tri (pre := []) (tri_seq (code_tri noH_ok (nl _) (partT4 _ _ _ _)) (tri_block (by
                      have := loopT3 (N := wN' am ae) hsl hN
                      rw [show IntKind.i64.wrap ((tenL (wN' am ae) : Int) - 1) = (tenL (wN' am ae) : Int) - 1 from i64_in (by omega) (by omega)]
                      exact this)))
                    (goes_code (pre := []) noH_ok (nl _) (partT5 _))))))))
      cases k2
      exact k1
  · have hb : qzz am ae = false := by simpa using h
    have := ans_comes (.cons rtF_ok .nil) (text_none am ae)
    have := this.1 (by rw [hb]; rfl)
    have ht : textR am ae = ([], 10) := by unfold textR; rw [if_neg h]
    rw [ht]; exact this
theorem lt31 {X Y : Int} : X * 10 ^ 31 < Y * 10 ^ 31 ↔ X < Y := by
  have := neg31 (Z := X - Y)
  rw [Int.sub_mul] at this
  omega
theorem rcmp_any (am ae bm be : Int) : Meets Try.prog 51 [.agg [.int .i64 am, .int .i64 ae], .agg [.int .i64 bm, .int .i64 be]] [] (.int .i64 (cmpR am ae bm be)) [] := by
  by_cases h : qzz am ae = true ∧ qzz bm be = true
  · by_cases he : am = bm ∧ ae = be
    · obtain ⟨rfl, rfl⟩ := he
      have : cmpR am ae am ae = 0 := by unfold cmpR; rw [if_pos h, if_neg (Int.lt_irrefl _), if_neg (Int.lt_irrefl _)]
      rw [this]; exact rcompare_same am ae h.1
    · have hne : sV am ae ≠ sV bm be := fun e => he (right_unique h.1 h.2 e)
      obtain ⟨X, x1, x2, x3, x4, x5⟩ := sV31 h.1
      obtain ⟨Y, y1, y2, y3, y4, y5⟩ := sV31 h.2
      have : cmpR am ae bm be = rcmp am bm (am.natAbs * 10 ^ (ae + 9).toNat) (bm.natAbs * 10 ^ (be + 9).toNat) := by
        unfold cmpR rcmp
        rw [if_pos h]
        rw [x1, y1] at hne ⊢
        rw [← x2, ← y2]
        have hn2 : X ≠ Y := fun e => hne (by rw [e])
        simp only [lt31]
        by_cases c1 : am < 0 <;> by_cases c2 : bm < 0 <;> simp only [c1, c2, decide_true, decide_false]
        · by_cases c3 : X < Y
          · rw [if_pos c3, decide_eq_false (by omega)]; rfl
          · rw [if_neg c3, if_pos (by omega), decide_eq_true (by omega)]; rfl
        · rw [if_pos (by omega)]; rfl
        · rw [if_neg (by omega), if_pos (by omega)]; rfl
        · by_cases c3 : X < Y
          · rw [if_pos c3, decide_eq_true (by omega)]; rfl
          · rw [if_neg c3, if_pos (by omega), decide_eq_false (by omega)]; rfl
      rw [this]; exact rcompare_ok am ae bm be h.1 h.2 he
  · unfold cmpR; rw [if_neg h]; exact rcompare_bad am ae bm be h
theorem nd_some {n : Nat} : 0 < nd n ↔ 0 < n := by
  constructor
  · intro h
    rcases Nat.eq_zero_or_pos n with e | e
    · subst e; rw [nd_zero] at h; omega
    · exact e
  · intro h; rw [nd_pos h]; omega
theorem div31 (Z : Int) : Z * 10 ^ 31 / 10 ^ 40 = Z / 1000000000 := by
  rw [show (10 : Int) ^ 40 = 1000000000 * 10 ^ 31 by decide]
  exact Int.mul_ediv_mul_of_pos_left Z 1000000000 (by decide)
theorem aV31 {m e : Int} (h : qzz m e = true) : aV m e = ((m.natAbs * 10 ^ (e + 9).toNat : Nat) : Int) * 10 ^ 31 := by
  obtain ⟨_, a3, a4⟩ := qyy h
  unfold aV
  have : (10 : Int) ^ (e + 40).toNat = 10 ^ (e + 9).toNat * 10 ^ 31 := by rw [← Int.pow_add]; congr 1; omega
  rw [this, ← Int.mul_assoc]; push_cast; rfl
theorem whole_or {m e : Int} (h : qzz m e = true) : (m.natAbs * 10 ^ (e + 9).toNat) % 1000000000 = 0 ∨ (m.natAbs * 10 ^ (e + 9).toNat) / 1000000000 < 100000000000000 := by
  obtain ⟨⟨a1, a2⟩, a3, a4⟩ := qyy h
  by_cases c : 0 ≤ e
  · left
    rw [show (e + 9).toNat = e.toNat + 9 by omega, Nat.pow_add, ← Nat.mul_assoc]
    exact Nat.mul_mod_left _ _
  · right
    have y1 : 10 ^ (e + 9).toNat ≤ 10 ^ 8 := Nat.pow_le_pow_right (by decide) (by omega)
    have := Nat.mul_le_mul (show m.natAbs ≤ 999999999999999 by omega) y1
    omega
theorem rfloor_any (am ae : Int) : Meets Try.prog 47 [.agg [.int .i64 am, .int .i64 ae]] [] (.tuple [.int .i64 (Go.Proofs.Ytmgiefeggkikcaa.floorR am ae).1, .int .i64 (Go.Proofs.Ytmgiefeggkikcaa.floorR am ae).2]) [] := by
  by_cases h : qzz am ae = true
  · obtain ⟨X, x1, x2, x3, x4, x5⟩ := sV31 h
    have hw := whole_or h
    have e1 : Go.Proofs.Ytmgiefeggkikcaa.floorR am ae = Rr.floorR am (floorQ am (am.natAbs * 10 ^ (ae + 9).toNat) (1 * 10 ^ 9)) := by
      unfold Go.Proofs.Ytmgiefeggkikcaa.floorR Rr.floorR floorQ
      rw [x1, aV31 h, div31, div31, ← x2, show (1 * 10 ^ 9 : Nat) = 1000000000 by decide]
      rw [← x2] at hw
      simp only [nd_some, h, true_and]
      have hd : ∀ a b : Int × Int, a.1 = b.1 → a.2 = b.2 → a = b := fun a b e1 e2 => by cases a; cases b; simp only at e1 e2; rw [e1, e2]
      by_cases c1 : am < 0
      · by_cases c2 : 0 < X.natAbs % 1000000000
        · rw [if_pos (c := ((X.natAbs : Nat) : Int) / 1000000000 ≤ 999999999999999) (by omega)]
          simp only [if_pos (And.intro c1 c2)]
          rw [if_neg (by omega), if_pos c1]
          exact hd _ _ (by simp only; omega) rfl
        · simp only [if_neg (fun k : am < 0 ∧ 0 < X.natAbs % 1000000000 => c2 k.2)]
          by_cases c3 : 999999999999999 < X.natAbs / 1000000000
          · rw [if_neg (by omega), if_pos c3]
          · rw [if_pos (by omega), if_neg c3, if_pos c1]
            exact hd _ _ (by simp only; omega) rfl
      · simp only [if_neg (fun k : am < 0 ∧ 0 < X.natAbs % 1000000000 => c1 k.1)]
        by_cases c3 : 999999999999999 < X.natAbs / 1000000000
        · rw [if_neg (by omega), if_pos c3]
        · rw [if_pos (by omega), if_neg c3, if_neg c1]
          exact hd _ _ (by simp only; omega) rfl
    rw [e1]; exact rfloor_ok am ae h
  · unfold Go.Proofs.Ytmgiefeggkikcaa.floorR; rw [if_neg (fun k => h k.1)]; exact rfloor_bad am ae h
theorem pow31 (a : Nat) : (10 : Int) ^ (a + 31) = ((10 ^ a : Nat) : Int) * 10 ^ 31 := by rw [Int.pow_add]; push_cast; rfl
theorem mod31 (X U : Int) : (X * 10 ^ 31) % (U * 10 ^ 31) = (X % U) * 10 ^ 31 := by
  rw [Int.mul_comm X, Int.mul_comm U, Int.mul_emod_mul_of_pos _ _ (by decide), Int.mul_comm]
theorem div31' (X U : Int) : (X * 10 ^ 31) / (U * 10 ^ 31) = X / U := Int.mul_ediv_mul_of_pos_left X U (by decide)
theorem rround_any (am ae n : Int) : Meets Try.prog 49 [.agg [.int .i64 am, .int .i64 ae], .int .i64 n] [] (R3 (roundR am ae n)) [] := by
  by_cases h : qzz am ae = true
  · by_cases hn : -9 ≤ n ∧ n ≤ 9
    · have hv : roundR am ae n = nearV (sgnI am * (hup (aV am ae) (10 ^ (40 - n).toNat) * 10 ^ (40 - n).toNat)) := by
        unfold roundR; rw [if_pos h, if_neg (by omega)]
      have hU : (10 : Int) ^ (40 - n).toNat = ((10 ^ (9 - n).toNat : Nat) : Int) * 10 ^ 31 := by
        rw [← pow31]; congr 1; omega
      have hX := aV31 h
      obtain ⟨X, x1, x2, x3, x4, x5⟩ := sV31 h
      rw [← x2] at hX
      have hu1 : 0 < 10 ^ (9 - n).toNat := Nat.pow_pos (by decide)
      have hu2 : 10 ^ (9 - n).toNat ≤ 10 ^ 18 := Nat.pow_le_pow_right (by decide) (by omega)
      have hone : 1 * 10 ^ (9 - n).toNat = 10 ^ (9 - n).toNat := Nat.one_mul _
      have up := rround_up am ae n h hn
      have dn := rround_dn am ae n h hn
      unfold wN at up dn
      rw [hone, ← x2] at up dn
      rw [hv, hX, hU]
      generalize 10 ^ (9 - n).toNat = U at *
      have hm : ((X.natAbs : Int) * 10 ^ 31) % ((U : Int) * 10 ^ 31) = ((X.natAbs % U : Nat) : Int) * 10 ^ 31 := by rw [mod31, ← Int.natCast_emod]
      have hd : ((X.natAbs : Int) * 10 ^ 31) / ((U : Int) * 10 ^ 31) = ((X.natAbs / U : Nat) : Int) := by rw [div31', ← Int.natCast_ediv]
      have hle : ((U : Int) * 10 ^ 31 ≤ 2 * (((X.natAbs % U : Nat) : Int) * 10 ^ 31)) ↔ U ≤ X.natAbs % U + X.natAbs % U := by
        have := lt31 (X := 2 * ((X.natAbs % U : Nat) : Int)) (Y := (U : Int))
        rw [Int.mul_assoc] at this
        omega
      have hq := Nat.div_mul_le_self X.natAbs U
      have fin : ∀ Q : Nat, Q * U ≤ X.natAbs + U → nearV (sgnI am * (((Q : Nat) : Int) * (((U : Nat) : Int) * 10 ^ 31))) = ((nearD (decide (am < 0)) (Q * U) (1 * 10 ^ 9)).1, (nearD (decide (am < 0)) (Q * U) (1 * 10 ^ 9)).2, nearX (Q * U) (1 * 10 ^ 9)) := fun Q hb => by
        have e : sgnI am * (((Q : Nat) : Int) * (((U : Nat) : Int) * 10 ^ 31)) = (sgnI am * ((Q * U : Nat) : Int)) * 10 ^ 31 := by
          push_cast; rw [Int.mul_assoc, Int.mul_assoc]
        rw [e]
        unfold sgnI
        by_cases c : am < 0
        · rw [if_pos c, show (-1 : Int) * ((Q * U : Nat) : Int) = -((Q * U : Nat) : Int) by omega]
          exact near31 (by omega) (by omega) (fun hz => decide_eq_decide.2 (by omega))
        · rw [if_neg c, Int.one_mul]
          exact near31 (by omega) (by omega) (fun hz => decide_eq_decide.2 (by omega))
      unfold hup
      rw [hm, hd]
      by_cases c : U ≤ X.natAbs % U + X.natAbs % U
      · rw [if_pos (hle.2 c)]
        have := fin (X.natAbs / U + 1) (by rw [Nat.add_mul, Nat.one_mul]; omega)
        rw [show ((X.natAbs / U : Nat) : Int) + 1 = ((X.natAbs / U + 1 : Nat) : Int) by push_cast; rfl, this, r3_eq]
        exact up (by omega)
      · rw [if_neg (fun k => c (hle.1 k)), fin (X.natAbs / U) (by omega), r3_eq]
        exact dn (by omega)
    · unfold roundR; rw [if_pos h, if_pos (by omega), r3_eq]; exact rround_arg am ae n h hn
  · unfold roundR; rw [if_neg h, bad3, r3_eq]; exact rround_bad am ae n h
end Go.Proofs.Ytmgiefeggkikcaa
set_option maxRecDepth 20000
namespace Go.Proofs.Ytmgiefeggkikcaa
open Go Sx Dc
attribute [local semireducible] aV sV nearV mV qV
theorem near_res {v : Int} (hv : okV v) : ((nearV v).2.2 = 0 ∧ qzz (nearV v).1 (nearV v).2.1 = true) ∨ nearV v = (0, 0, 10) := by
  rcases near_cases hv with ⟨h1, _⟩ | ⟨m, e, h1, h2, _⟩
  · exact .inr h1
  · rw [h1]; exact .inl ⟨rfl, h2⟩
end Go.Proofs.Ytmgiefeggkikcaa
namespace Go.Proofs.Ytmgiefeggkikcaa
open Go Sx Rf Dc Rr
theorem trimD_end : ∀ (n : Nat) (m e : Int), e + n = 9 → (trimD n m e).2 = 9 ∨ (trimD n m e).1.tmod 10 ≠ 0
  | 0, m, e, h => .inl (by simp only [trimD]; omega)
  | n + 1, m, e, h => by
    simp only [trimD]
    by_cases c : m.tmod 10 = 0
    · rw [if_pos c]; exact trimD_end n _ _ (by omega)
    · rw [if_neg c]; exact .inr c
theorem nat_of_sV {m e : Int} (he : -9 ≤ e) : (sV m e).natAbs = m.natAbs * 10 ^ (e + 9).toNat * 10 ^ 31 := by
  unfold sV
  rw [Int.natAbs_mul, Int.natAbs_pow, show (e + 40).toNat = (e + 9).toNat + 31 by omega, Nat.pow_add, Nat.mul_assoc]; rfl
theorem of_none {n p q : Int} (h : ¬ qzz (qzw n 0).1 (qzw n 0).2 = true) (hr : qzz p q = true) : ¬ p.natAbs * 10 ^ (q + 9).toNat = n.natAbs * 10 ^ 9 := by
  intro he
  obtain ⟨⟨a1, a2⟩, a3, a4⟩ := qyy hr
  have hn : n ≠ 0 := by intro e; subst e; exact h (by decide)
  have hbig : ¬ (-999999999999999 ≤ n ∧ n ≤ 999999999999999) := fun hb => h (trimmedS_right hb.1 hb.2 (by omega) (by omega))
  have hv : sV (qzw n 0).1 (qzw n 0).2 = n * 10 ^ 40 := trimmedS_val (by omega)
  have htd : qzw n 0 = trimD 9 n 0 := by unfold qzw; rw [if_neg hn]; rfl
  have hend := trimD_end 9 n 0 rfl
  have hbd := trimmedS_bounds (m := n) (e := 0) (by omega)
  have he0 : 0 ≤ (qzw n 0).2 := by rw [htd]; exact (trimD_bounds 9 n 0).2.1
  rw [← htd] at hend
  generalize (qzw n 0).1 = m at *
  generalize (qzw n 0).2 = e at *
  have hm : m.natAbs * 10 ^ (e + 9).toNat * 10 ^ 31 = n.natAbs * 10 ^ 9 * 10 ^ 31 := by
    rw [← nat_of_sV (by omega), hv, Int.natAbs_mul, Int.natAbs_pow, Nat.mul_assoc]; rfl
  have hm : m.natAbs * 10 ^ (e + 9).toNat = n.natAbs * 10 ^ 9 := Nat.eq_of_mul_eq_mul_right (by decide) hm
  have hm0 : m ≠ 0 := by
    intro e0; subst e0
    simp at hm; omega
  have hmm : ¬ (-999999999999999 ≤ m ∧ m ≤ 999999999999999) := by
    intro hc
    refine h ?_
    unfold qzz
    rw [decide_eq_true_eq]
    exact ⟨hc.1, hc.2, by omega, by omega, fun e0 => absurd e0 hm0, fun _ => hend⟩
  by_cases hq : q ≤ e
  · have hle : (10 : Nat) ^ (q + 9).toNat ≤ 10 ^ (e + 9).toNat := Nat.pow_le_pow_right (by decide) (by omega)
    have h1 : p.natAbs < m.natAbs := by omega
    have h2 : p.natAbs * 10 ^ (q + 9).toNat < m.natAbs * 10 ^ (e + 9).toNat := Nat.lt_of_le_of_lt (Nat.mul_le_mul_left _ hle) (Nat.mul_lt_mul_of_pos_right h1 (Nat.pow_pos (by decide)))
    omega
  · have hd : m.natAbs = p.natAbs * 10 ^ (q - e).toNat := by
      have : m.natAbs * 10 ^ (e + 9).toNat = p.natAbs * 10 ^ (q - e).toNat * 10 ^ (e + 9).toNat := by
        rw [hm, ← he, Nat.mul_assoc, ← Nat.pow_add, show (q - e).toNat + (e + 9).toNat = (q + 9).toNat by omega]
      exact Nat.eq_of_mul_eq_mul_right (Nat.pow_pos (by decide)) this
    obtain ⟨k, hk⟩ : ∃ k, (q - e).toNat = k + 1 := ⟨(q - e).toNat - 1, by omega⟩
    rw [hk, Nat.pow_succ, ← Nat.mul_assoc] at hd
    rcases hend with c | c
    · omega
    · exact c (Int.tmod_eq_zero_of_dvd (Int.natAbs_dvd_natAbs.1 (by rw [hd]; exact Nat.dvd_mul_left 10 _)))
theorem near_of (n : Int) (h : inI n = true) : nearV (n * 10 ^ 40) = ((nearD (decide (n < 0)) n.natAbs 1).1, (nearD (decide (n < 0)) n.natAbs 1).2, nearX n.natAbs 1) := by
  have h := inI_iff.1 h
  refine nearV_exact (by decide) ?_ ?_ (fun _ => ?_)
  · rw [Int.natAbs_mul, Int.natAbs_pow, Nat.mul_one]; rfl
  · rw [Int.natAbs_mul, Int.natAbs_pow]
    have : n.natAbs * (10 : Int).natAbs ^ 40 ≤ 10 ^ 20 * 10 ^ 40 := Nat.mul_le_mul_right _ (by omega)
    have e2 : (10 : Nat) ^ 20 * 10 ^ 40 < 10 ^ 88 := by decide
    omega
  · have hp : (0 : Int) < 10 ^ 40 := by decide
    refine decide_eq_decide.2 ⟨fun c => Int.mul_neg_of_neg_of_pos c hp, fun c => ?_⟩
    rcases Int.lt_or_le n 0 with k | k
    · exact k
    · have := Int.mul_nonneg k (Int.le_of_lt hp); omega
theorem okV_of40 {n : Int} (h : inI n = true) : okV (n * 10 ^ 40) := by
  have h := inI_iff.1 h
  unfold okV
  rw [Int.natAbs_mul, Int.natAbs_pow]
  have : n.natAbs * (10 : Int).natAbs ^ 40 ≤ 10 ^ 20 * 10 ^ 40 := Nat.mul_le_mul_right _ (by omega)
  have e2 : (10 : Nat) ^ 20 * 10 ^ 40 < 10 ^ 88 := by decide
  omega
theorem rof_core (n : Int) (h : inI n = true) (p q x : Int) (hnr : Meets Try.prog 36 [.bool (decide (n < 0)), AV.dsl 0 (nd n.natAbs), AV.dsl 1 (nd 1)] [AObj.flat false (ints .i64 (dg n.natAbs)), AObj.flat false (ints .i64 (dg 1))] (.tuple [.agg [.int .i64 p, .int .i64 q], .int .i64 x]) [AObj.flat false (ints .i64 (dg n.natAbs)), AObj.flat false (ints .i64 (dg 1))])
    (hv : nearV (n * 10 ^ 40) = (p, q, x)) : Meets Try.prog 16 [.int .i64 n] [] (R3 (ofR n)) [] := by
  have hi := inI_iff.1 h
  have hres := near_res (okV_of40 h)
  rw [hv] at hres
  have hb : (-999999999999999 ≤ p ∧ p ≤ 999999999999999) ∧ -9 ≤ q ∧ q ≤ 9 := by
    rcases hres with ⟨_, h2⟩ | h2
    · have := qyy h2; simp only at this; omega
    · simp only [Prod.mk.injEq] at h2; omega
  by_cases hr : qzz (qzw n 0).1 (qzw n 0).2 = true
  · have h0 : ofR n = ((qzw n 0).1, (qzw n 0).2, 0) := if_pos hr
    have hs : sV (qzw n 0).1 (qzw n 0).2 = n * 10 ^ 40 := trimmedS_val (by omega)
    rw [← hs, near_right hr] at hv
    simp only [Prod.mk.injEq] at hv
    obtain ⟨e1, e2, e3⟩ := hv
    rw [h0, e1, e2, r3_eq]
    refine of_ok n hi p q x hnr hb.1 hb.2 e3.symm ?_
    rw [e1, e2] at hs
    have : (sV p q).natAbs = n.natAbs * 10 ^ 40 := by rw [hs, Int.natAbs_mul, Int.natAbs_pow]; rfl
    rw [nat_of_sV hb.2.1] at this
    exact Nat.eq_of_mul_eq_mul_right (show 0 < 10 ^ 31 by decide) (by rw [this, Nat.mul_assoc])
  · have h0 : ofR n = (0, 0, 10) := if_neg hr
    rw [h0, r3_eq]
    rcases hres with ⟨h1, h2⟩ | h2
    · exact of_far n hi p q x hnr hb.1 hb.2 h1 (of_none hr h2)
    · simp only [Prod.mk.injEq] at h2
      exact of_err n hi p q x hnr hb.1 hb.2 (by omega)
theorem rof_any (n : Int) (h : inI n = true) : Meets Try.prog 16 [.int .i64 n] [] (R3 (ofR n)) [] :=
  rof_core n h _ _ _ (rnear_meets (decide (n < 0)) n.natAbs 1 (by have := inI_iff.1 h; have := nd_small (n := n.natAbs) (by omega); omega) (by rw [nd_one]; decide) (by decide)) (near_of n h)
end Go.Proofs.Ytmgiefeggkikcaa
namespace Go.Proofs.Ytmgiefeggkikcaa
open Go Sx Dc
structure DecF where
  A : Int → Int → Int → Int → Int × Int × Int
  S : Int → Int → Int → Int → Int × Int × Int
  M : Int → Int → Int → Int → Int × Int × Int
  D : Int → Int → Int → Int → Int × Int × Int
  FL : Int → Int → Int × Int
  TX : Int → Int → List UInt8 × Int
  RO : Int → Int → Int → Int × Int × Int
  RB : Int → Int → Bool
  CM : Int → Int → Int → Int → Int
def noB : Ans := .ret (.bool false) []
def tabT (x : DecF) : Tab :=
  (22, e2 fun a b c d => R3 (x.A a b c d)) :: (43, e2 fun a b c d => R3 (x.A a b c d)) :: (24, e2 fun a b c d => R3 (x.S a b c d)) :: (44, e2 fun a b c d => R3 (x.S a b c d)) ::
  (23, e2 fun a b c d => R3 (x.M a b c d)) :: (45, e2 fun a b c d => R3 (x.M a b c d)) :: (25, e2 fun a b c d => R3 (x.D a b c d)) :: (46, e2 fun a b c d => R3 (x.D a b c d)) ::
  (26, e1 fun a b => .tuple [.int .i64 (x.FL a b).1, .int .i64 (x.FL a b).2]) :: (47, e1 fun a b => .tuple [.int .i64 (x.FL a b).1, .int .i64 (x.FL a b).2]) ::
  (29, e1 fun a b => .tuple [.str (x.TX a b).1, .int .i64 (x.TX a b).2]) :: (48, e1 fun a b => .tuple [.str (x.TX a b).1, .int .i64 (x.TX a b).2]) ::
  (28, e1i fun a b k => R3 (x.RO a b k)) :: (49, e1i fun a b k => R3 (x.RO a b k)) :: (30, e1 fun a b => .bool (x.RB a b)) :: (50, e1 fun a b => .bool (x.RB a b)) ::
  (27, e2 fun a b c d => .int .i64 (x.CM a b c d)) :: (51, e2 fun a b c d => .int .i64 (x.CM a b c d)) :: []
def sm3 (x y : Int × Int × Int) : Bool := x.1 == y.1 && (x.2.1 == y.2.1 && true)
def twoT (t : Int × Int × Int) (nx : Ans) : Ans := .br (!(sm3 t t)) noB (.br (t.2.2 != t.2.2) noB nx)
def toldT (x : DecF) (a b c d n : Int) : Ans :=
  twoT (x.A a b c d) (twoT (x.S a b c d) (twoT (x.M a b c d) (twoT (x.D a b c d) (.chk (inI n) (.chk (inI n)
    (.br ((x.FL a b).1 == (x.FL a b).1) (.br ((x.FL a b).2 == (x.FL a b).2) (.br ((x.TX a b).1 == (x.TX a b).1) (.br ((x.TX a b).2 == (x.TX a b).2) (.br (sm3 (x.RO a b n) (x.RO a b n)) (.br ((x.RO a b n).2.2 == (x.RO a b n).2.2)
      (.br (x.RB a b == x.RB a b) (.ret (.bool (x.CM a b c d == x.CM a b c d)) []) noB) noB) noB) noB) noB) noB) noB))))))
theorem told_comes (x : DecF) (a b c d n : Int) : Comes (tabT x) nolv 17 [.agg [.int .i64 a, .int .i64 b], .agg [.int .i64 c, .int .i64 d], .int .i64 n] [] (toldT x a b c d n) := by unfold Comes; kernel_rfl
theorem sm3_self (t : Int × Int × Int) : sm3 t t = true := by unfold sm3; simp
theorem twoT_run (t : Int × Int × Int) (nx : Ans) : (twoT t nx).run pure2 = nx.run pure2 := by
  unfold twoT
  simp only [Ans.run]
  rw [sm3_self]; simp [bcond]
theorem told_run (x : DecF) (a b c d n : Int) (h : inI n = true) : (toldT x a b c d n).run pure2 = some (.bool true, []) := by
  unfold toldT
  rw [twoT_run, twoT_run, twoT_run, twoT_run]
  simp only [Ans.run, Ans.chk, h, bcond, beq_self_eq_true, sm3_self]
  rfl
def eTrue0 : Ent := fun args pre => match args, pre with | [], [] => .ret (.bool true) [] | _, _ => .fail
def eTold : Ent := fun args pre => match args, pre with
  | [.agg [.int .i64 a, .int .i64 b], .agg [.int .i64 c, .int .i64 d], .int .i64 n], [] => .chk (inI n) (.ret (.bool true) [])
  | _, _ => .fail
def eOfA (g : Int → Int × Int × Int) : Ent := fun args pre => match args, pre with
  | [.int .i64 c], [] => .chk (inI c) (.ret (R3 (g c)) [])
  | _, _ => .fail
def eRdA (g : List UInt8 → Int × Int × Int) : Ent := fun args pre => match args, pre with
  | [.str s], [] => .chk (decide (s.length ≤ 1000)) (.ret (R3 (g s)) [])
  | _, _ => .fail
def tabU (RD : List UInt8 → Int × Int × Int) (OF : Int → Int × Int × Int) (DO : Int → Int → Int × Int) : Tab :=
  (13, eRdA RD) :: (14, eRdA RD) :: (15, eOfA OF) :: (16, eOfA OF) :: (17, eTold) :: (18, e1r fun a b => .agg [.int .i64 (DO a b).1, .int .i64 (DO a b).2]) :: (19, ePick) :: (12, eTrue0) :: []
def a90 (l : List UInt8) : Int := if 90 < (l.length : Int) then 90 else (l.length : Int)
def f90 (l : List UInt8) : List UInt8 := List.take ((a90 l).toNat - 0) (List.drop 0 l)
def tellsT (RD : List UInt8 → Int × Int × Int) (OF : Int → Int × Int × Int) (a b c d n : Int) (s : List UInt8) : Ans :=
  .chk (decide (0 ≤ a90 s ∧ (a90 s).toNat ≤ s.length)) (.chk (decide ((f90 s).length ≤ 1000)) (.chk (decide ((f90 s).length ≤ 1000)) (.chk (inI n) (.chk (inI n)
    (.br (sm3 (RD (f90 s)) (RD (f90 s))) (.br ((RD (f90 s)).2.2 == (RD (f90 s)).2.2) (.br (sm3 (OF n) (OF n)) (.br ((OF n).2.2 == (OF n).2.2)
      (.chk (inI n) (.chk (inI a && inI b) (.chk (inI n) (.chk (inI a && inI b) (.chk (inI c && inI d) (.chk (inI n && decide ((0 : Int) < 21)) (.chk (inI (IntKind.i64.wrap (pickR n 21 - 10))) (.ret (.bool true) []))))))))
      noB) noB) noB) noB)))))
theorem tells_comes (RD : List UInt8 → Int × Int × Int) (OF : Int → Int × Int × Int) (DO : Int → Int → Int × Int) (a b c d n : Int) (s : List UInt8) :
    Comes (tabU RD OF DO) nolv 3 [.agg [.int .i64 a, .int .i64 b], .agg [.int .i64 c, .int .i64 d], .int .i64 n, .str s] [] (tellsT RD OF a b c d n s) := by unfold Comes; kernel_rfl
theorem tells_run (RD : List UInt8 → Int × Int × Int) (OF : Int → Int × Int × Int) (a b c d n : Int) (s : List UInt8) (ha : inI a = true) (hb : inI b = true) (hc : inI c = true) (hd : inI d = true) (hn : inI n = true) : (tellsT RD OF a b c d n s).run pure2 = some (.bool true, []) := by
  have p1 := pickR_range (c := n) (n := 21) (by omega)
  have k1 : decide (0 ≤ a90 s ∧ (a90 s).toNat ≤ s.length) = true := decide_eq_true (by unfold a90; split <;> omega)
  have k2 : decide ((f90 s).length ≤ 1000) = true := decide_eq_true (by unfold f90 a90; simp; split <;> omega)
  have k3 : inI (IntKind.i64.wrap (pickR n 21 - 10)) = true := inI_iff.2 (by rw [i64_in (by omega) (by omega)]; omega)
  unfold tellsT
  simp only [Ans.run, Ans.chk, k1, k2, k3, ha, hb, hc, hd, hn, bcond, beq_self_eq_true, sm3_self, Bool.and_self, Bool.true_and]
  rfl

theorem decOf_ok : EntOK Try.prog 18 (e1r fun a b => .agg [.int .i64 (decOfR a b).1, .int .i64 (decOfR a b).2]) := e1r_ok fun a b h1 h2 => decOf_meets a b (inI_iff.1 h1) (inI_iff.1 h2)
def eTrue : Ent := fun args pre => match args, pre with | [], [] => .ret (.bool true) [] | _, _ => .fail
def unU8 : List AV → Option (List Int)
  | [] => some []
  | .int .u8 n :: r => (unU8 r).map (n :: ·)
  | _ :: _ => none
theorem unU8_eq : ∀ (us : List AV) (ds : List Int), unU8 us = some ds → us = ints .u8 ds
  | [], ds, h => by cases h; rfl
  | v :: r, ds, h => by
    unfold unU8 at h
    split at h
    · rename_i e; cases e
    · rename_i n r' e
      cases e
      simp only [Option.map_eq_some_iff] at h
      obtain ⟨ds', h1, rfl⟩ := h
      rw [unU8_eq _ _ h1]; rfl
    · cases h
def digB (ds : List Int) : Bool := ds.length == 88 && ds.all fun d => decide (0 ≤ d ∧ d ≤ 9)
def eNear : Ent := fun args pre => match args, pre with
  | [.agg (.bool mx :: us)], [] => match unU8 us with
    | some ds => .chk (digB ds) (.ret (.tuple [.agg [.int .i64 (nearM mx ds).1, .int .i64 (nearM mx ds).2], .int .i64 (nearE ds)]) [])
    | none => .fail
  | _, _ => .fail
theorem near_ok : EntOK Try.prog 32 eNear := fun args pre => by
  unfold eNear
  split
  · rename_i mx us
    split
    · rename_i ds hds
      refine ⟨fun hb => ?_, fun _ => trivial⟩
      simp only [digB, Bool.and_eq_true, beq_iff_eq, List.all_eq_true, decide_eq_true_eq] at hb
      have := nearest_meets mx ds hb.1 (fun d hd => hb.2 d hd)
      rw [unU8_eq _ _ hds]
      exact this
    · trivial
  · trivial
def tabX : Tab := (32, eNear) :: tabE
theorem tabX_ok : TabOK Try.prog tabX := .cons near_ok tabE_ok
set_option maxRecDepth 1000000 in
theorem examples_ok : EntOK Try.prog 12 eTrue := fun args pre => by
  unfold eTrue
  split
  · exact ans_comes (lv := nolv) tabX_ok (by unfold Comes; kernel_rfl)
  · trivial
end Go.Proofs.Ytmgiefeggkikcaa
namespace Go.Proofs.Ytmgiefeggkikcaa
open Go Sx Rf Dc Rr
def decF : DecF := ⟨addR, subR, mulR, divR, floorR, textR, roundR, qzz, cmpR⟩
theorem tabT_ok : TabOK Try.prog (tabT decF) :=
  .cons (e2_ok add_meets) (.cons (e2_ok radd_any) (.cons (e2_ok sub_meets) (.cons (e2_ok rsub_any)
  (.cons (e2_ok mul_meets) (.cons (e2_ok rmul_any) (.cons (e2_ok div_meets) (.cons (e2_ok rdiv_any)
  (.cons (e1_ok floor_meets) (.cons (e1_ok rfloor_any) (.cons (e1_ok text_meets) (.cons (e1_ok rtext_any)
  (.cons (e1i_ok round_any) (.cons (e1i_ok fun a b k _ => rround_any a b k) (.cons (e1_ok qyt) (.cons (e1_ok qwz)
  (.cons (e2_ok cmp_meets) (.cons (e2_ok rcmp_any) .nil)))))))))))))))))
theorem told_ok : EntOK Try.prog 17 eTold := fun args pre => by
  unfold eTold
  split
  · rename_i a b c d n
    exact of_run (ans_comes tabT_ok (told_comes decF a b c d n)) fun r h => by
      simp only [Ans.chk, Ans.run] at h
      cases hi : inI n with
      | false => rw [hi] at h; cases h
      | true => rw [hi] at h; rw [told_run decF a b c d n hi, ← h]; rfl
  · trivial
theorem of_min : AnsOK Try.prog 15 [.int .i64 (-9223372036854775808)] [] (.ret (R3 (ofR (-9223372036854775808))) []) :=
  ans_comes (lv := nolv) (T := []) .nil (by unfold Comes; kernel_rfl)
theorem eOf15 : EntOK Try.prog 15 (eOfA ofR) := fun args pre => by
  unfold eOfA
  split
  · rename_i c
    refine ⟨fun hb => ?_, fun _ => trivial⟩
    have := inI_iff.1 hb
    by_cases h : c = -9223372036854775808
    · subst h; exact of_min
    · exact of_meets c (by omega)
  · trivial
theorem eOf16 : EntOK Try.prog 16 (eOfA ofR) := fun args pre => by
  unfold eOfA
  split
  · exact ⟨fun hb => rof_any _ hb, fun _ => trivial⟩
  · trivial
theorem eRd13 : EntOK Try.prog 13 (eRdA readR) := fun args pre => by
  unfold eRdA
  split
  · exact ⟨fun hb => read_meets _ (by have := of_decide_eq_true hb; omega), fun _ => trivial⟩
  · trivial
theorem eRd14 : EntOK Try.prog 14 (eRdA readR) := fun args pre => by
  unfold eRdA
  split
  · exact ⟨fun hb => rread_any _ (of_decide_eq_true hb), fun _ => trivial⟩
  · trivial
theorem tabU_ok : TabOK Try.prog (tabU readR ofR decOfR) :=
  .cons eRd13 (.cons eRd14 (.cons eOf15 (.cons eOf16 (.cons told_ok (.cons decOf_ok (.cons ePick_ok (.cons examples_ok .nil)))))))
theorem tells_law (a b c d n : Int) (s : List UInt8) (ha : inI a = true) (hb : inI b = true) (hc : inI c = true) (hd : inI d = true) (hn : inI n = true) : Meets Try.prog 3 [.agg [.int .i64 a, .int .i64 b], .agg [.int .i64 c, .int .i64 d], .int .i64 n, .str s] [] (.bool true) [] := by
  have := ans_comes tabU_ok (tells_comes readR ofR decOfR a b c d n s)
  obtain ⟨res, post, k1, k2⟩ := Ans.sound (k := pure2) (r := (.bool true, [])) _ this (tells_run readR ofR a b c d n s ha hb hc hd hn)
  cases k2; exact k1
end Go.Proofs.Ytmgiefeggkikcaa
