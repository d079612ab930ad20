import Derived.Test.YtmgiefeggkikcaaGr11
import Derived.Test.YtmgiefeggkikcaaGr07
import Derived.Test.YtmgiefeggkikcaaGr09
import Derived.Test.YtmgiefeggkikcaaGr08
set_option linter.unusedVariables false
set_option linter.unusedSimpArgs false
namespace Go.Proofs.Ytmgiefeggkikcaa
open Go Sx Rf Dc Rr
variable {NR : Bool → Nat → Nat → Int × Int × Int}
theorem finQ_dg {b : Bool} {N M : Nat} {e : Int} {u : Nat} (hu : nd u ≤ 200000) (he : -9 ≤ e ∧ e ≤ 9) : finQ (numF NR) b (dg N) (dg M) (nd N) (nd M) e (dg u) (nd u) =
    if u ≤ 999999999999999 then some (.ret, nrF (dg N) (dg M) (nearDo b (some (u, e)))) else some (.normal, nrS b (dg N) (dg M) (nd N) (nd M) (e + 1)) := by
  obtain ⟨C, hC, hv⟩ : ∃ C, (999999999999999 : Int).natAbs = C ∧ C = 999999999999999 := ⟨_, rfl, rfl⟩
  have c1 : nd C ≤ 20 := nd_small (by omega)
  unfold finQ ck2
  rw [bcT (okE0 (by decide)), E0, kE0, hC, bcT (okL_dg (by omega) hu), L_dg]
  by_cases h : u ≤ 999999999999999
  · have hl := low_le (u : Int) e
    have w : wrN (0 - (qzw (u : Int) e).1) = -(qzw (u : Int) e).1 := by unfold wrN; rw [i64_in (by omega) (by omega)]; omega
    rw [bcF (b := decide _) (decide_eq_false (by omega)), if_pos h, bcT (okV_dg hu (by omega)), V_dg, bcT (okO_of ⟨by omega, by omega⟩), O_eq, w]
    cases b <;> rfl
  · have w : wrN (e + 1) = e + 1 := by unfold wrN; rw [i64_in (by omega) (by omega)]
    rw [bcT (b := decide _) (decide_eq_true (by omega)), if_neg h, w]
theorem divQ_dg {b : Bool} {N M : Nat} {e : Int} {n d : Nat} (hn : nd n ≤ 150000) (hd : nd d ≤ 150000) (h0 : 0 < d) (he : -9 ≤ e ∧ e ≤ 9) : divQ (numF NR) b (dg N) (dg M) (nd N) (nd M) e (dg n) (nd n) (dg d) (nd d) =
    if rndE n d ≤ 999999999999999 then some (.ret, nrF (dg N) (dg M) (nearDo b (some (rndE n d, e)))) else some (.normal, nrS b (dg N) (dg M) (nd N) (nd M) (e + 1)) := by
  have q1 : nd (n / d) ≤ nd n := nd_mono (Nat.div_le_self n d)
  have r1 : nd (n % d) ≤ nd d := nd_mono (Nat.le_of_lt (Nat.mod_lt n h0))
  have t1 := nd_add (a := n % d) (b := n % d)
  have u1 := nd_add (a := n / d) (b := 1)
  rw [nd_one] at u1
  have up : upQ (numF NR) b (dg N) (dg M) (nd N) (nd M) e (dg (n / d)) (nd (n / d)) = if n / d + 1 ≤ 999999999999999 then some (.ret, nrF (dg N) (dg M) (nearDo b (some (n / d + 1, e)))) else some (.normal, nrS b (dg N) (dg M) (nd N) (nd M) (e + 1)) := by
    unfold upQ ck2
    rw [bcT (okD1 (by omega)), D1, kD1]
    exact finQ_dg (by omega) he
  have fin := finQ_dg (NR := NR) (b := b) (N := N) (M := M) (u := n / d) (by omega) he
  have a3 : (numF NR).D 3 (dg n) (nd n) (dg d) (nd d) = dg (n / d) := D_dg
  have a4 : (numF NR).D 4 (dg n) (nd n) (dg d) (nd d) = dg (n % d) := D_dg
  have b3 : (numF NR).kD 3 (dg n) (nd n) (dg d) (nd d) = nd (n / d) := kD_dg
  have b4 : (numF NR).kD 4 (dg n) (nd n) (dg d) (nd d) = nd (n % d) := kD_dg
  have a0 : (numF NR).D 0 (dg (n % d)) (nd (n % d)) (dg (n % d)) (nd (n % d)) = dg (n % d + n % d) := D_dg
  have b0 : (numF NR).kD 0 (dg (n % d)) (nd (n % d)) (dg (n % d)) (nd (n % d)) = nd (n % d + n % d) := kD_dg
  unfold divQ ck2
  rw [bcT (okD_dg (o := 3) (by omega) (by omega) (decide_eq_true h0)), a3, a4, b3, b4, bcT (okD_dg (o := 0) (by omega) (by omega) rfl), a0, b0]
  unfold rndQ ck2
  rw [bcT (okL_dg (by omega) (by omega)), L_dg, up, fin]
  by_cases c1 : d < n % d + n % d
  · rw [bcT (decide_eq_true c1), rnd_up (.inl c1)]
  · rw [bcF (decide_eq_false c1), bcT (okL_dg (by omega) (by omega)), L_dg]
    by_cases c2 : n % d + n % d < d
    · rw [bcF (b := !_) (by rw [decide_eq_true c2]; rfl), rnd_dn (fun h => h.elim c1 fun k => k.1 c2)]
    · rw [bcT (b := !_) (by rw [decide_eq_false c2]; rfl), bcT (okA_dg (by omega) (by omega)), A_dg]
      have ev : (((n / d / 10 ^ (0 : Int).toNat % 10 : Nat) : Int).tmod 2 == 1) = decide (n / d / 10 ^ 0 % 10 % 2 = 1) := by
        rw [show (0 : Int).toNat = 0 from rfl, Bool.eq_iff_iff, beq_iff_eq, decide_eq_true_eq, Int.tmod_eq_emod_of_nonneg (by omega)]
        omega
      rw [ev]
      by_cases c3 : n / d / 10 ^ 0 % 10 % 2 = 1
      · rw [bcT (decide_eq_true c3), rnd_up (.inr ⟨c2, c3⟩)]
      · rw [bcF (decide_eq_false c3), rnd_dn (fun h => h.elim c1 fun k => c3 k.2)]
theorem round_dg {b : Bool} {N M : Nat} {e : Int} (hN : nd N < 100000) (hM : nd M < 100000) (hM0 : 0 < M) (he : -9 ≤ e ∧ e ≤ 9) : code (ent (R := Ex × PState) Try.prog (tabNr (numF NR)) nolv 64 18446744073709551616 30) Try.prog {} 2 64 18446744073709551616 (loopIn (qzx Try.f36)) (nrS b (dg N) (dg M) (nd N) (nd M) e) (endK 2 64 kN kNx) =
    if rndE (nE N e) (dE M e) ≤ 999999999999999 then some (.ret, nrF (dg N) (dg M) (nearDo b (some (rndE (nE N e) (dE M e), e)))) else some (.normal, nrS b (dg N) (dg M) (nd N) (nd M) (e + 1)) := by
  have w : wrN (0 - e) = -e := by unfold wrN; rw [i64_in (by omega) (by omega)]; omega
  have n1 := nd_pow (x := N) (k := (-e).toNat)
  have d1 := nd_pow (x := M) (k := e.toNat)
  rw [roundN, bcT (decide_eq_true he.2), w]
  unfold ck2
  rw [bcT (okT_dg (by omega) (by omega)), bcT (okT_dg (by omega) (by omega)), T_dg, T_dg, kT_dg, kT_dg]
  exact divQ_dg (by omega) (by omega) (Nat.mul_pos hM0 (Nat.pow_pos (by decide))) he
theorem tabNr_ok : TabOK Try.prog (tabNr (numF NR)) := .cons gT_ok (.cons g42_ok (.cons gL_ok (.cons (gD_ok fun a b ha hb _ => plus_meets a b (by omega) (by omega)) (.cons gBy_ok (.cons gA_ok (.cons gO_ok (.cons gV_ok .nil)))))))
def exO : Option (Nat × Int) → Ex
  | none => .exit 0
  | some _ => .ret
theorem loopN_dg (b : Bool) (N M : Nat) (hN : nd N < 100000) (hM : nd M < 100000) (hM0 : 0 < M) (o : Option (Nat × Int)) (h : nearG N M 19 0 = o) :
    Tri Try.prog (.loop (loopIn (qzx Try.f36))) (nrS b (dg N) (dg M) (nd N) (nd M) (-9)).toA (exO o) (nrF (dg N) (dg M) (nearDo b o)).toA 2 := by
  refine loop_rounds (P := Try.prog) (H := ent (R := Ex × PState) Try.prog (tabNr (numF fun _ _ _ => (0, 0, 0))) nolv 64 18446744073709551616 30) (ι := { q : Nat × Nat // q.1 + q.2 = 19 ∧ nearG N M q.1 q.2 = o }) (NF := 64) (m := 18446744073709551616) (lv := {}) (ent_sound (tabNr_ok (NR := fun _ _ _ => (0, 0, 0))) host nolv_ok 30) (x := loopIn (qzx Try.f36)) (K := 2) (fun x hx id e h1 h2 => by cases h2) kN kNx (fun q => nrS b (dg N) (dg M) (nd N) (nd M) ((q.1.2 : Int) - 9)) (fun q => q.1.1) (fun _ => (exO o, nrF (dg N) (dg M) (nearDo b o))) ?_ (fun _ => by cases o <;> simp [exO]) ⟨(19, 0), rfl, h⟩
  rintro ⟨⟨n, j⟩, hj, h⟩
  simp only at hj h ⊢
  cases n with
  | zero =>
    right
    have : o = none := h.symm
    subst this
    rw [roundN, bcF (decide_eq_false (by omega))]; rfl
  | succ n =>
    rw [round_dg hN hM hM0 (by omega)]
    rw [nearG] at h
    by_cases c : rndE (nE N ((j : Int) - 9)) (dE M ((j : Int) - 9)) ≤ 999999999999999
    · rw [if_pos c] at h ⊢
      right; subst h; rfl
    · rw [if_neg c] at h ⊢
      exact .inl ⟨⟨(n, j + 1), by simp only; omega, h⟩, Nat.lt_succ_self n, trivial, by rw [show (j : Int) - 9 + 1 = ((j + 1 : Nat) : Int) - 9 by omega]⟩
theorem tri_seq_ret {a b : Code} {s s1 : AState} {K : Nat} (h : Tri Try.prog a s .ret s1 K) : Tri Try.prog (.seq a b) s .ret s1 K := fun w0 M E ac w hR => by
  refine wp_seq (wp_mono (h w0 M E ac w hR) ?_)
  rintro e a' w' ⟨rfl, E', hle, h'⟩
  exact ⟨rfl, E', hle, h'⟩
theorem tri_block_ret {x : Code} {s s1 : AState} {id K : Nat} (h : Tri Try.prog x s .ret s1 K) : Tri Try.prog (.block id x) s .ret s1 K := fun w0 M E a w hR => by
  refine wp_block (wp_mono (h w0 M E a w hR) ?_)
  rintro e a' w' ⟨rfl, E', hle, h'⟩
  exact ⟨rfl, E', hle, h'⟩
theorem near_core (b : Bool) (N M : Nat) (hN : nd N < 100000) (hM : nd M < 100000) (hM0 : 0 < M) (o : Option (Nat × Int)) (h : nearG N M 19 0 = o) :
    Meets Try.prog 36 [.bool b, .dsl 0 (nd N), .dsl 1 (nd M)] [FL N, FL M] (.tuple [.agg [.int .i64 (nearDo b o).1, .int .i64 (nearDo b o).2], .int .i64 (nearXo o)]) [FL N, FL M] := by
  have hbody : Try.f36.body = some (qzx Try.f36) := by kernel_rfl
  have nl : ∀ c : Code, LoopsOK Try.prog {} 2 c := fun c x hx id e h1 h2 => by cases h2
  have loop := loopN_dg b N M hN hM hM0 o h
  have go : ∀ r : AV × List PObj, pure2 (R3 ((nearDo b o).1, (nearDo b o).2, nearXo o)) [.flatI false (dg N), .flatI false (dg M)] = some r → ∃ res post, Meets Try.prog 36 [.bool b, .dsl 0 (nd N), .dsl 1 (nd M)] [FL N, FL M] res (post.map PObj.toA) ∧ pure2 res post = some r := fun r hr => by
    refine goes_meets (R := AV × List PObj) (NF := 64) (args := [.bool b, .dsl 0 (nd N), .dsl 1 (nd M)]) (pre := [.flatI false (dg N), .flatI false (dg M)]) (k := pure2) (r := r) host Try.func36 hbody
      (goes_runs (pre := [.flatI false (dg N), .flatI false (dg M)]) noH_ok (nl _) (startN b (dg N) (dg M) (nd N) (nd M)) shapeN ?_)
    have hd := code_tri noH_ok (nl _) (headN b (dg N) (dg M) (nd N) (nd M))
    cases o with
    | none => exact goes_tri (pre := [.flatI false (dg N), .flatI false (dg M)]) (tri_seq hd (tri_block loop)) (goes_code (pre := [.flatI false (dg N), .flatI false (dg M)]) noH_ok (nl _) ((lostN (dg N) (dg M)).trans hr))
    | some p => exact ⟨.ret, _, tri_seq_ret (tri_seq hd (tri_block_ret loop)), (foundN (dg N) (dg M) (nearDo b (some p))).trans hr⟩
  obtain ⟨res, post, k1, k2⟩ := go _ rfl
  cases k2; exact k1
theorem rnear_meets (bl : Bool) (N M : Nat) (hN : nd N < 100000) (hM : nd M < 100000) (hM0 : 0 < M) : Meets Try.prog 36 [.bool bl, .dsl 0 (nd N), .dsl 1 (nd M)] [FL N, FL M] (.tuple [.agg [.int .i64 (nearD bl N M).1, .int .i64 (nearD bl N M).2], .int .i64 (nearX N M)]) [FL N, FL M] := by
  unfold nearD nearX
  exact near_core bl N M hN hM hM0 _ rfl
end Go.Proofs.Ytmgiefeggkikcaa
set_option maxRecDepth 20000
set_option maxHeartbeats 4000000
namespace Go.Proofs.Ytmgiefeggkikcaa.Rr
open Go Sx Rf Dc
theorem unit_meets (n : Nat) (hn : n < 1000000) : Meets Try.prog 37 [jI ((n : Nat) : Int)] [] (AV.dsl 0 (nd (1 * 10 ^ n))) [FT (1 * 10 ^ n)] := by
  exact qzy (fn := Try.f37) 3 [rG [], rG [(0, {nm := [1], obj := some [AObj.vec (ints .i64 (dg 1)) 3 1], view := 4}), (2, {call := some ⟨[1, 0], [AV.dsl 0 (nd 1), jI ((n : Nat) : Int)], [FL 1], AV.dsl 1 (nd (1 * 10 ^ n)), [FL 1, FT (1 * 10 ^ n)]⟩, val := some (AV.dsl 0 (nd (1 * 10 ^ n))), obj := some [FT 1, FT (1 * 10 ^ n)]})]] [{}] Try.func37 (by kernel_rfl) Try.call37
    (oA (oS (show ([jI 1] : List AV).length = 1 from rfl)) <| oA (oS (show 0 + 1 ≤ List.length (List.flatten (List.replicate 1 [jI 0])) from Nat.le_of_ble_eq_true rfl)) <| oA (oS (show List.length (List.take 0 (List.flatten (List.replicate 1 [jI 0])) ++ [jI 1] ++ List.drop 1 (List.flatten (List.replicate 1 [jI 0]))) = 1 * 1 from rfl)) <| oA (oS (show AObj.vec (List.take 0 (List.flatten (List.replicate 1 [jI 0])) ++ [jI 1] ++ List.drop 1 (List.flatten (List.replicate 1 [jI 0]))) 3 1 = AObj.vec (ints .i64 (dg 1)) 3 1 from by rw [dg_one]; rfl)) <| oA (oS (show [AV.dsl 1 1, jI ((n : Nat) : Int)] = renL [1, 0] [AV.dsl 0 (nd 1), jI ((n : Nat) : Int)] from by simp only [renL, AV.ren, nd_one]; rfl)) <| oA (oS (show Meets Try.prog 38 [AV.dsl 0 (nd 1), jI ((n : Nat) : Int)] [FL 1] (AV.dsl 1 (nd (1 * 10 ^ n))) [FL 1, FT (1 * 10 ^ n)] from ten_nat 1 n (by rw [nd_one]; omega) (by omega))) <| oA (oS (show Fits (FT 1) (AObj.ren [1, 0] (FL 1)) from Fits.ints (by simp))) <| oA (oS (show AV.ren [1, 0] (AV.dsl 1 (nd (1 * 10 ^ n))) = AV.dsl 0 (nd (1 * 10 ^ n)) from rfl)) <| oS (show updOf [1, 0] [FT 1] [FL 1] [FL 1, FT (1 * 10 ^ n)] ++ List.map (fun x => x.ren [1, 0]) (List.drop 1 [FL 1, FT (1 * 10 ^ n)]) = [FT 1, FT (1 * 10 ^ n)] from by simp only [updOf, AObj.owned, List.map_cons, List.map_nil, List.drop, AObj.ren, qzu, List.nil_append, List.cons_append, if_false, Bool.false_eq_true]))
    (oA (oS (@rfl _ (AV.dsl 0 (nd (1 * 10 ^ n))))) <| oA (oS (show Fits (FT (1 * 10 ^ n)) (FT (1 * 10 ^ n)) from Fits.refl _)) <| oS (show AvoidO (fun n => decide (1 ≤ n)) (FT (1 * 10 ^ n)) from AvoidO.flat (AvoidL.ints _ _ _))) (by kernel_rfl)
theorem rwhole_meets (m e : Int) (hm : -9223372036854775808 < m ∧ m < 9223372036854775808) (he : -9 ≤ e ∧ e ≤ 1000) (hl : nd m.natAbs < 1000) : Meets Try.prog 39 [jA [jI m, jI e]] [] (AV.dsl 0 (nd (m.natAbs * 10 ^ (e + 9).toNat))) [FT (m.natAbs * 10 ^ (e + 9).toNat)] := by
  exact qzy (fn := Try.f39) 4 [rG [hhN 0 1], rG [hhI 1 m, (2, {call := some ⟨[2], [jI m], [], AV.dsl 0 (nd m.natAbs), [FT m.natAbs]⟩, val := some (AV.dsl 2 (nd m.natAbs)), obj := some [FT m.natAbs]}), hhI 4 e, hhI 5 (e + 9), (6, {call := some ⟨[2, 0], [AV.dsl 0 (nd m.natAbs), jI (e + 9)], [FL m.natAbs], AV.dsl 1 (nd (m.natAbs * 10 ^ (Int.toNat (e + 9)))), [FL m.natAbs, FT (m.natAbs * 10 ^ (Int.toNat (e + 9)))]⟩, val := some (AV.dsl 0 (nd (m.natAbs * 10 ^ (Int.toNat (e + 9))))), obj := some [FT m.natAbs, FT (m.natAbs * 10 ^ (Int.toNat (e + 9)))]})]] [{}] Try.func39 (by kernel_rfl) Try.call39
    (oA (oLf ([jI m, jI e]) (0) (jI m) (rfl)) <| oA (oS (show [jI m] = renL [2] [jI m] from rfl)) <| oA (oS (show Meets Try.prog 42 [jI m] [] (AV.dsl 0 (nd m.natAbs)) [FT m.natAbs] from digits_meets m (by omega) (by omega))) <| oA (oS (show AV.ren [2] (AV.dsl 0 (nd m.natAbs)) = AV.dsl 2 (nd m.natAbs) from rfl)) <| oA (oS (show updOf [2] [] [] [FT m.natAbs] ++ List.map (fun x => x.ren [2]) (List.drop 0 [FT m.natAbs]) = [FT m.natAbs] from by simp only [updOf, List.map_cons, List.map_nil, List.drop, AObj.ren, qzu, List.nil_append])) <| oA (oLf ([jI m, jI e]) (1) (jI e) (rfl)) <| oA (oWs (e + 9) (by omega)) <| oA (oS (show [AV.dsl 2 (nd m.natAbs), jI (e + 9)] = renL [2, 0] [AV.dsl 0 (nd m.natAbs), jI (e + 9)] from rfl)) <| oA (oS (show Meets Try.prog 38 [AV.dsl 0 (nd m.natAbs), jI (e + 9)] [FL m.natAbs] (AV.dsl 1 (nd (m.natAbs * 10 ^ (Int.toNat (e + 9))))) [FL m.natAbs, FT (m.natAbs * 10 ^ (Int.toNat (e + 9)))] from ten_meets m.natAbs (e + 9) (by omega) (by omega))) <| oA (oS (show Fits (FT m.natAbs) (AObj.ren [2, 0] (FL m.natAbs)) from Fits.ints (by simp))) <| oA (oS (show AV.ren [2, 0] (AV.dsl 1 (nd (m.natAbs * 10 ^ (Int.toNat (e + 9))))) = AV.dsl 0 (nd (m.natAbs * 10 ^ (Int.toNat (e + 9)))) from rfl)) <| oS (show updOf [2, 0] [FT m.natAbs] [FL m.natAbs] [FL m.natAbs, FT (m.natAbs * 10 ^ (Int.toNat (e + 9)))] ++ List.map (fun x => x.ren [2, 0]) (List.drop 1 [FL m.natAbs, FT (m.natAbs * 10 ^ (Int.toNat (e + 9)))]) = [FT m.natAbs, FT (m.natAbs * 10 ^ (Int.toNat (e + 9)))] from by simp only [updOf, AObj.owned, List.map_cons, List.map_nil, List.drop, AObj.ren, qzu, List.nil_append, List.cons_append, if_false, Bool.false_eq_true]))
    (oA (oS (@rfl _ (AV.dsl 0 (nd (m.natAbs * 10 ^ (e + 9).toNat))))) <| oA (oS (show Fits (FT (m.natAbs * 10 ^ (Int.toNat (e + 9)))) (FT (m.natAbs * 10 ^ (e + 9).toNat)) from Fits.refl _)) <| oS (show AvoidO (fun n => decide (1 ≤ n)) (FT (m.natAbs * 10 ^ (e + 9).toNat)) from AvoidO.flat (AvoidL.ints _ _ _))) (by kernel_rfl)
theorem qwz (m e : Int) : Meets Try.prog 50 [jA [jI m, jI e]] [] (jB (qzz m e)) [] := by
  let q1 : List Orc := [rG [hhN 0 0]]
  by_cases c1 : m < (-999999999999999)
  · exact qzy (fn := Try.f50) 1 (q1 ++ [rG [hhI 1 m, hhB 2 true], rG []]) [{}] Try.func50 (by kernel_rfl) Try.call50
      (oA (oLf ([jI m, jI e]) (0) (jI m) (rfl)) <| oS (bT c1))
      (oS (show jB false = jB (qzz m e) from boolE (by rw [Bool.eq_iff_iff]; simp [qzz]; omega))) (by kernel_rfl)
  · have o1 := oA (oLf ([jI m, jI e]) (0) (jI m) (rfl)) <| oA (oS (bF c1)) <| oLf ([jI m, jI e]) (0) (jI m) (rfl)
    by_cases c2 : m > 999999999999999
    · exact qzy (fn := Try.f50) 1 (q1 ++ [rG [hhI 1 m, hhB 2 false, hhI 5 m, hhB 6 true], rG []]) [{}] Try.func50 (by kernel_rfl) Try.call50
        (oA o1 <| oS (bT c2))
        (oS (show jB false = jB (qzz m e) from boolE (by rw [Bool.eq_iff_iff]; simp [qzz]; omega))) (by kernel_rfl)
    · have o2 := oA (oS (bF c2)) <| oLf ([jI m, jI e]) (1) (jI e) (rfl)
      by_cases c3 : e < (-9)
      · exact qzy (fn := Try.f50) 1 (q1 ++ [rG [hhI 1 m, hhB 2 false, hhI 5 m, hhB 6 false, hhI 10 e, hhB 11 true], rG []]) [{}] Try.func50 (by kernel_rfl) Try.call50
          (oA o1 <| oA o2 <| oS (bT c3))
          (oS (show jB false = jB (qzz m e) from boolE (by rw [Bool.eq_iff_iff]; simp [qzz]; omega))) (by kernel_rfl)
      · have o3 := oA (oS (bF c3)) <| oLf ([jI m, jI e]) (1) (jI e) (rfl)
        by_cases c4 : e > 9
        · exact qzy (fn := Try.f50) 1 (q1 ++ [rG [hhI 1 m, hhB 2 false, hhI 5 m, hhB 6 false, hhI 10 e, hhB 11 false, hhI 15 e, hhB 16 true], rG []]) [{}] Try.func50 (by kernel_rfl) Try.call50
            (oA o1 <| oA o2 <| oA o3 <| oS (bT c4))
            (oS (show jB false = jB (qzz m e) from boolE (by rw [Bool.eq_iff_iff]; simp [qzz]; omega))) (by kernel_rfl)
        · have o4 := oA (oS (bF c4)) <| oLf ([jI m, jI e]) (0) (jI m) (rfl)
          let q2 : List Orc := [rG [hhI 1 m, hhB 2 false, hhI 5 m, hhB 6 false, hhI 10 e, hhB 11 false, hhI 15 e, hhB 16 false]]
          by_cases c5 : m = 0
          · exact qzy (fn := Try.f50) 1 (q1 ++ (q2 ++ [rG [hhI 1 m, hhB 2 true], rG [hhI 1 e]])) [{}] Try.func50 (by kernel_rfl) Try.call50
              (oA o1 <| oA o2 <| oA o3 <| oA o4 <| oA (oS (eqT c5)) <| oLf ([jI m, jI e]) (1) (jI e) (rfl))
              (oS (show jB (e == 0) = jB (qzz m e) from boolE (by rw [Bool.eq_iff_iff]; simp [qzz]; omega))) (by kernel_rfl)
          · have o5 := oA (oS (eqF c5)) <| oA (oLf ([jI m, jI e]) (0) (jI m) (rfl)) <| oS (show (10 : Int) ≠ 0 from by decide)
            let q3 : List Orc := [rG [hhI 1 m, hhB 2 false]]
            by_cases c6 : (m.tmod 10) = 0
            · exact qzy (fn := Try.f50) 1 (q1 ++ (q2 ++ (q3 ++ [rG [hhI 1 m, hhB 3 false, hhI 6 e]]))) [{}] Try.func50 (by kernel_rfl) Try.call50
                (oA o1 <| oA o2 <| oA o3 <| oA o4 <| oA o5 <| oA (oS (neF c6)) <| oLf ([jI m, jI e]) (1) (jI e) (rfl))
                (oS (show jB (e == 9) = jB (qzz m e) from boolE (by rw [Bool.eq_iff_iff]; simp [qzz]; omega))) (by kernel_rfl)
            · exact qzy (fn := Try.f50) 1 (q1 ++ (q2 ++ (q3 ++ [rG [hhI 1 m, hhB 3 true]]))) [{}] Try.func50 (by kernel_rfl) Try.call50
                (oA o1 <| oA o2 <| oA o3 <| oA o4 <| oA o5 <| oS (neT c6))
                (oS (show jB true = jB (qzz m e) from boolE (by rw [Bool.eq_iff_iff]; simp [qzz]; omega))) (by kernel_rfl)
theorem right_facts {m e : Int} (h : qzz m e = true) : (-999999999999999 ≤ m ∧ m ≤ 999999999999999) ∧ -9 ≤ e ∧ e ≤ 9 := by
  simp [qzz] at h; omega
abbrev wN (m e : Int) : Nat := m.natAbs * 10 ^ (e + 9).toNat
def negB (am bm : Int) : Bool := decide (am < 0) != decide (bm < 0)
end Go.Proofs.Ytmgiefeggkikcaa.Rr
namespace Go.Proofs.Ytmgiefeggkikcaa
open Go Sx Rf Dc Rr
def tabNum (x : NumF) : Tab := (37, gE x 1) :: (39, gW x) :: (36, gN x) :: (72, gD x 1) :: (73, gD x 2) :: (50, e1 fun a b => .bool (qzz a b)) :: tabNr x
def nrR (b : Bool) (N M : Nat) : Int × Int × Int := ((nearD b N M).1, (nearD b N M).2, nearX N M)
variable {NR : Bool → Nat → Nat → Int × Int × Int}
theorem g37_ok : EntOK Try.prog 37 (gE (numF NR) 1) := fun args pre => by
  unfold gE; split
  · rename_i n
    refine ⟨fun hb => ?_, fun _ => trivial⟩
    have hb := of_decide_eq_true hb
    have := unit_meets n.toNat (by omega)
    rw [Int.toNat_of_nonneg hb.1] at this
    exact this
  · trivial
theorem gW_ok : EntOK Try.prog 39 (gW (numF NR)) := fun args pre => by
  unfold gW; split
  · rename_i n m
    refine ⟨fun hb => ?_, fun _ => trivial⟩
    have hb := of_decide_eq_true hb
    exact rwhole_meets n m hb.1 hb.2 (by have := nd_small (n := n.natAbs) (by omega); omega)
  · trivial
theorem gN_ok (h : ∀ b N M, nd N < 100000 → nd M < 100000 → 0 < M → Meets Try.prog 36 [.bool b, .dsl 0 (nd N), .dsl 1 (nd M)] [FL N, FL M] (R3 (NR b N M)) [FL N, FL M]) : EntOK Try.prog 36 (gN (numF NR)) := fun args pre => by
  unfold gN; split
  · rename_i b k k1 m l m1 l1
    refine ⟨fun hb => ?_, fun _ => trivial⟩
    obtain ⟨h1, g2⟩ := Bool.and_eq_true_iff.1 hb
    obtain ⟨g3, h3⟩ := Bool.and_eq_true_iff.1 g2
    have h3 := of_decide_eq_true h3
    obtain ⟨a, ea, ta, rfl, na⟩ := isD_get h1
    obtain ⟨c, ec, tc, rfl, nc⟩ := isD_get g3
    rw [ec] at h3
    show Meets _ _ _ _ (R3 (NR b (nT l _) (nT l1 _))) _
    rw [ea, ec]
    exact meets_fitF (m' := m1) (l := l1) (meets_fitF (m' := m) (l := l) (h b a c (by omega) (by omega) h3.2.2) (j := 0) rfl ta) (j := 1) rfl tc
  · trivial
theorem tabNum_ok (h : ∀ b N M, nd N < 100000 → nd M < 100000 → 0 < M → Meets Try.prog 36 [.bool b, .dsl 0 (nd N), .dsl 1 (nd M)] [FL N, FL M] (R3 (NR b N M)) [FL N, FL M]) : TabOK Try.prog (tabNum (numF NR)) :=
  .cons g37_ok (.cons gW_ok (.cons (gN_ok h) (.cons (gD_ok fun a b ha hb hs => minus_meets a b (by omega) (by omega) (of_decide_eq_true hs)) (.cons (gD_ok fun a b ha hb _ => Rr.times_meets a b (by omega)) (.cons (e1_ok qwz) tabNr_ok)))))
theorem nrR_gen {b : Bool} {N M : Nat} (t : Int × Int) (x : Int) (h : Meets Try.prog 36 [.bool b, .dsl 0 (nd N), .dsl 1 (nd M)] [FL N, FL M] (.tuple [.agg [.int .i64 t.1, .int .i64 t.2], .int .i64 x]) [FL N, FL M]) : Meets Try.prog 36 [.bool b, .dsl 0 (nd N), .dsl 1 (nd M)] [FL N, FL M] (R3 (t.1, t.2, x)) [FL N, FL M] := h
theorem nrR_ok (b : Bool) (N M : Nat) (hN : nd N < 100000) (hM : nd M < 100000) (h0 : 0 < M) : Meets Try.prog 36 [.bool b, .dsl 0 (nd N), .dsl 1 (nd M)] [FL N, FL M] (R3 (nrR b N M)) [FL N, FL M] := by
  unfold nrR; exact nrR_gen _ _ (rnear_meets b N M hN hM h0)
theorem okE1 {n : Int} (h : 0 ≤ n ∧ n < 1000000) : (numF NR).okE 1 n 0 = true := decide_eq_true h
theorem E1 {n : Int} : (numF NR).E 1 n 0 = dg (1 * 10 ^ n.toNat) := rfl
theorem kE1 {n : Int} : (numF NR).kE 1 n 0 = nd (1 * 10 ^ n.toNat) := rfl
theorem okE2 {n m : Int} (h : (-9223372036854775808 < n ∧ n < 9223372036854775808) ∧ -9 ≤ m ∧ m ≤ 1000) : (numF NR).okE 2 n m = true := decide_eq_true h
theorem E2 {n m : Int} : (numF NR).E 2 n m = dg (n.natAbs * 10 ^ (m + 9).toNat) := rfl
theorem kE2 {n m : Int} : (numF NR).kE 2 n m = nd (n.natAbs * 10 ^ (m + 9).toNat) := rfl
end Go.Proofs.Ytmgiefeggkikcaa
namespace Go.Proofs.Ytmgiefeggkikcaa.Rr
open Go Sx Rf Dc
def rcmp (am bm : Int) (X Y : Nat) : Int := if (decide (am < 0) != decide (bm < 0)) = true then (if am < 0 then -1 else 1) else if (decide (X < Y) == decide (am < 0)) = true then 1 else -1
def floorQ (am : Int) (X U : Nat) : Nat := if am < 0 ∧ 0 < nd (X % U) then X / U + 1 else X / U
def floorR (am : Int) (q : Nat) : Int × Int := if 999999999999999 < q then (0, 10) else (if am < 0 then -(q : Int) else q, 0)
theorem floorQ_up {am : Int} {X U : Nat} (h : am < 0 ∧ 0 < nd (X % U)) : floorQ am X U = X / U + 1 := if_pos h
theorem floorQ_dn {am : Int} {X U : Nat} (h : ¬ (am < 0 ∧ 0 < nd (X % U))) : floorQ am X U = X / U := if_neg h
abbrev dcA (a b : Int) : AV := .agg [.int .i64 a, .int .i64 b]
def badA : Ans := .ret (R3 (0, 0, 10)) []
def aN (x : NumF) (b : Bool) (l : List Int) (k : Nat) (l1 : List Int) (k1 : Nat) : Ans := .chk (x.okN b l k l1 k1) (.ret (R3 (x.N b l k l1 k1)) [])
def a9 (x : NumF) (b : Bool) (l : List Int) (k : Nat) (o : Int) : Ans := .chk (x.okE 1 o 0) (aN x b l k (x.E 1 o 0) (x.kE 1 o 0))
def addT (x : NumF) (a b c d : Int) (A : List Int) (k : Nat) (C : List Int) (j : Nat) : Ans :=
  .br (!qzz a b) badA (.br (!qzz c d) badA (.chk (x.okE 2 a b) (.chk (x.okE 2 c d) (.br (decide (a < 0) == decide (c < 0)) (.chk (x.okD 0 A k C j) (a9 x (decide (a < 0)) (x.D 0 A k C j) (x.kD 0 A k C j) 9))
    (.chk (x.okL A k C j) (.br (x.L A k C j) (.chk (x.okD 1 C j A k) (a9 x (decide (c < 0)) (x.D 1 C j A k) (x.kD 1 C j A k) 9)) (.chk (x.okD 1 A k C j) (a9 x (decide (a < 0)) (x.D 1 A k C j) (x.kD 1 A k C j) 9))))))))
def mulT (x : NumF) (a b c d : Int) (A : List Int) (k : Nat) (C : List Int) (j : Nat) : Ans :=
  .br (!qzz a b) badA (.br (!qzz c d) badA (.chk (x.okE 2 a b) (.chk (x.okE 2 c d) (.chk (x.okD 2 A k C j) (a9 x (negB a c) (x.D 2 A k C j) (x.kD 2 A k C j) 18)))))
def divT (x : NumF) (a b c d : Int) (A : List Int) (k : Nat) (C : List Int) (j : Nat) : Ans :=
  .br (!qzz a b) badA (.br (!qzz c d) badA (.br (c == 0) (.ret (R3 (0, 0, 11)) []) (.chk (x.okE 2 a b) (.chk (x.okE 2 c d) (aN x (negB a c) A k C j)))))
def iA (n : Int) : Ans := .ret (.int .i64 n) []
def cmpT (x : NumF) (a b c d : Int) (A : List Int) (k : Nat) (C : List Int) (j : Nat) : Ans :=
  .br (!qzz a b) (iA 0) (.br (!qzz c d) (iA 0) (.br (a == c && (b == d && true)) (iA 0) (.br (negB a c) (.br (decide (a < 0)) (iA (-1)) (iA 1)) (.chk (x.okE 2 a b) (.chk (x.okE 2 c d) (.chk (x.okL A k C j) (.br (x.L A k C j == decide (a < 0)) (iA 1) (iA (-1)))))))))
def fA (a b : Int) : Ans := .ret (.tuple [.int .i64 a, .int .i64 b]) []
def flE (x : NumF) (a : Int) (q : List Int) (k : Nat) : Ans :=
  .chk (x.okE 0 999999999999999 0) (.chk (x.okL (x.E 0 999999999999999 0) (x.kE 0 999999999999999 0) q k) (.br (x.L (x.E 0 999999999999999 0) (x.kE 0 999999999999999 0) q k) (fA 0 10) (.br (decide (a < 0)) (.chk (x.okV q k) (fA (wrN (0 - x.V q k)) 0)) (.chk (x.okV q k) (fA (x.V q k) 0)))))
def flT (x : NumF) (a b : Int) (A : List Int) (k : Nat) (U : List Int) (u : Nat) : Ans :=
  .br (!qzz a b) (fA 0 10) (.chk (x.okE 2 a b) (.chk (x.okE 1 9 0) (.chk (x.okD 3 A k U u) (.br (decide (a < 0)) (.br (decide (((x.kD 4 A k U u : Nat) : Int) > 0)) (.chk (x.okD 0 (x.D 3 A k U u) (x.kD 3 A k U u) [1] 1) (flE x a (x.D 0 (x.D 3 A k U u) (x.kD 3 A k U u) [1] 1) (x.kD 0 (x.D 3 A k U u) (x.kD 3 A k U u) [1] 1)))
    (flE x a (x.D 3 A k U u) (x.kD 3 A k U u))) (flE x a (x.D 3 A k U u) (x.kD 3 A k U u))))))
def rdE (x : NumF) (a : Int) (Q : List Int) (q : Nat) (U : List Int) (u : Nat) : Ans := .chk (x.okD 2 Q q U u) (a9 x (decide (a < 0)) (x.D 2 Q q U u) (x.kD 2 Q q U u) 9)
def rdT2 (x : NumF) (a : Int) (Q : List Int) (q : Nat) (R : List Int) (r : Nat) (U : List Int) (u : Nat) : Ans :=
  .chk (x.okD 0 R r R r) (.chk (x.okL (x.D 0 R r R r) (x.kD 0 R r R r) U u) (.br (!(x.L (x.D 0 R r R r) (x.kD 0 R r R r) U u)) (.chk (x.okD 0 Q q [1] 1) (rdE x a (x.D 0 Q q [1] 1) (x.kD 0 Q q [1] 1) U u)) (rdE x a Q q U u)))
def rdT (x : NumF) (a b n : Int) (A : List Int) (k : Nat) (U : List Int) (u : Nat) : Ans :=
  .br (!qzz a b) badA (.br (decide (n < -9)) (.ret (R3 (0, 0, 2)) []) (.br (decide (n > 9)) (.ret (R3 (0, 0, 2)) []) (.chk (x.okE 1 (wrN (9 - n)) 0) (.chk (x.okE 2 a b) (.chk (x.okD 3 A k U u) (rdT2 x a (x.D 3 A k U u) (x.kD 3 A k U u) (x.D 4 A k U u) (x.kD 4 A k U u) U u))))))
theorem add_comes (x : NumF) (a b c d : Int) : Comes (tabNum x) nolv 43 [dcA a b, dcA c d] [] (addT x a b c d (x.E 2 a b) (x.kE 2 a b) (x.E 2 c d) (x.kE 2 c d)) := by unfold Comes; kernel_rfl
theorem mul_comes (x : NumF) (a b c d : Int) : Comes (tabNum x) nolv 45 [dcA a b, dcA c d] [] (mulT x a b c d (x.E 2 a b) (x.kE 2 a b) (x.E 2 c d) (x.kE 2 c d)) := by unfold Comes; kernel_rfl
theorem div_comes (x : NumF) (a b c d : Int) : Comes (tabNum x) nolv 46 [dcA a b, dcA c d] [] (divT x a b c d (x.E 2 a b) (x.kE 2 a b) (x.E 2 c d) (x.kE 2 c d)) := by unfold Comes; kernel_rfl
theorem cmp_comes (x : NumF) (a b c d : Int) : Comes (tabNum x) nolv 51 [dcA a b, dcA c d] [] (cmpT x a b c d (x.E 2 a b) (x.kE 2 a b) (x.E 2 c d) (x.kE 2 c d)) := by unfold Comes; kernel_rfl
theorem fl_comes (x : NumF) (a b : Int) : Comes (tabNum x) nolv 47 [dcA a b] [] (flT x a b (x.E 2 a b) (x.kE 2 a b) (x.E 1 9 0) (x.kE 1 9 0)) := by unfold Comes; kernel_rfl
theorem rd_comes (x : NumF) (a b n : Int) : Comes (tabNum x) nolv 49 [dcA a b, .int .i64 n] [] (rdT x a b n (x.E 2 a b) (x.kE 2 a b) (x.E 1 (wrN (9 - n)) 0) (x.kE 1 (wrN (9 - n)) 0)) := by unfold Comes; kernel_rfl
end Go.Proofs.Ytmgiefeggkikcaa.Rr
namespace Go.Proofs.Ytmgiefeggkikcaa.Rr
open Go Sx Rf Dc
variable {NR : Bool → Nat → Nat → Int × Int × Int}
theorem meets_of {f : FuncId} {args : List AV} {T : Ans} {res : AV} (h : Comes (tabNum (numF nrR)) nolv f args [] T) (hr : T.run pure2 = some (res, [])) : Meets Try.prog f args [] res [] := by
  obtain ⟨r, post, k1, k2⟩ := Ans.sound (k := pure2) (r := (res, [])) _ (ans_comes (tabNum_ok nrR_ok) h) hr
  cases k2; exact k1
theorem r3_gen {t : Int × Int} {x : Int} (v : Int × Int × Int) (h : v = (t.1, t.2, x)) : R3 v = .tuple [.agg [.int .i64 t.1, .int .i64 t.2], .int .i64 x] := by subst h; rfl
theorem E2w {m e : Int} : (numF NR).E 2 m e = dg (wN m e) := rfl
theorem kE2w {m e : Int} : (numF NR).kE 2 m e = nd (wN m e) := rfl
theorem r3_nr (b : Bool) (N M : Nat) : R3 (nrR b N M) = .tuple [.agg [.int .i64 (nearD b N M).1, .int .i64 (nearD b N M).2], .int .i64 (nearX N M)] := r3_gen _ rfl
theorem w_nd {m e : Int} (h : qzz m e = true) : nd (wN m e) ≤ 38 := by
  have f := right_facts h
  have h1 := nd_small (n := m.natAbs) (by omega)
  have h2 := nd_pow (x := m.natAbs) (k := (e + 9).toNat)
  show nd (m.natAbs * 10 ^ (e + 9).toNat) ≤ 38
  omega
theorem w_ok {m e : Int} (h : qzz m e = true) : (numF NR).okE 2 m e = true := by
  have f := right_facts h
  exact okE2 (by omega)
theorem nd_u (k : Nat) : nd (1 * 10 ^ k) ≤ 1 + k := by
  have := nd_pow (x := 1) (k := k)
  rwa [nd_one] at this
theorem aN_run {b : Bool} {X Y : Nat} (hX : nd X ≤ 90000) (hY : nd Y ≤ 90000) (h0 : 0 < Y) : (aN (numF NR) b (dg X) (nd X) (dg Y) (nd Y)).run pure2 = some (R3 (NR b X Y), []) := by
  unfold aN; simp only [Ans.chk, Ans.run]
  rw [bcT (okN_dg hX hY h0), N_dg]; rfl
theorem a9_run {b : Bool} {X k : Nat} {o : Int} (hX : nd X ≤ 90000) (ho : 0 ≤ o ∧ o < 1000) (hk : o.toNat = k) : (a9 (numF NR) b (dg X) (nd X) o).run pure2 = some (R3 (NR b X (1 * 10 ^ k)), []) := by
  unfold a9; simp only [Ans.chk, Ans.run]
  rw [bcT (okE1 (by omega)), E1, kE1, hk]
  exact aN_run hX (by have := nd_u k; omega) (by rw [Nat.one_mul]; exact Nat.pow_pos (by decide))
theorem two_bad {α : Type} {p q : Bool} {X Y : α} (h : ¬ (p = true ∧ q = true)) : bcond (!p) X (bcond (!q) X Y) = X := by
  cases p <;> cases q <;> first | rfl | exact absurd ⟨rfl, rfl⟩ h
theorem two_good {α : Type} {p q : Bool} {X Z Y : α} (hp : p = true) (hq : q = true) : bcond (!p) X (bcond (!q) Z Y) = Y := by rw [hp, hq]; rfl
def addV (NR : Bool → Nat → Nat → Int × Int × Int) (a c : Int) (A C : Nat) : Int × Int × Int :=
  if (decide (a < 0) == decide (c < 0)) = true then NR (decide (a < 0)) (A + C) (1 * 10 ^ 9) else if A < C then NR (decide (c < 0)) (C - A) (1 * 10 ^ 9) else NR (decide (a < 0)) (A - C) (1 * 10 ^ 9)
theorem add_run {a b c d : Int} (hA : qzz a b = true) (hB : qzz c d = true) : (addT (numF NR) a b c d (dg (wN a b)) (nd (wN a b)) (dg (wN c d)) (nd (wN c d))).run pure2 = some (R3 (addV NR a c (wN a b) (wN c d)), []) := by
  have wa := w_nd hA
  have wc := w_nd hB
  have oa := w_ok (NR := NR) hA
  have oc := w_ok (NR := NR) hB
  unfold addT addV
  simp only [Ans.chk, Ans.run]
  rw [two_good hA hB, bcT oa, bcT oc]
  generalize wN a b = A at *
  generalize wN c d = C at *
  have s0 := nd_add (a := A) (b := C)
  have s1 := nd_mono (Nat.sub_le C A)
  have s2 := nd_mono (Nat.sub_le A C)
  by_cases h : (decide (a < 0) == decide (c < 0)) = true
  · rw [bcT h, if_pos h, bcT (okD_dg (o := 0) (by omega) (by omega) rfl), D_dg, kD_dg]
    exact a9_run (by show nd (A + C) ≤ _; omega) (by omega) rfl
  · rw [bcF (by simpa using h), if_neg h, bcT (okL_dg (by omega) (by omega)), L_dg]
    by_cases hl : A < C
    · rw [bcT (decide_eq_true hl), if_pos hl, bcT (okD_dg (o := 1) (by omega) (by omega) (decide_eq_true (by omega))), D_dg, kD_dg]
      exact a9_run (by show nd (C - A) ≤ _; omega) (by omega) rfl
    · rw [bcF (decide_eq_false hl), if_neg hl, bcT (okD_dg (o := 1) (by omega) (by omega) (decide_eq_true (by omega))), D_dg, kD_dg]
      exact a9_run (by show nd (A - C) ≤ _; omega) (by omega) rfl
theorem add_right {a b c d : Int} (hA : qzz a b = true) (hB : qzz c d = true) : Meets Try.prog 43 [dcA a b, dcA c d] [] (R3 (addV nrR a c (wN a b) (wN c d))) [] := meets_of (add_comes _ a b c d) (add_run hA hB)
theorem add_same (am ae bm be : Int) (hA : qzz am ae = true) (hB : qzz bm be = true) (hs : am < 0 ↔ bm < 0) : Meets Try.prog 43 [dcA am ae, dcA bm be] [] (.tuple [.agg [.int .i64 (nearD (decide (am < 0)) (wN am ae + wN bm be) (1 * 10 ^ 9)).1, .int .i64 (nearD (decide (am < 0)) (wN am ae + wN bm be) (1 * 10 ^ 9)).2], .int .i64 (nearX (wN am ae + wN bm be) (1 * 10 ^ 9))]) [] := by
  have := add_right hA hB
  unfold addV at this
  rw [if_pos (beq_iff_eq.2 (decide_eq_decide.2 hs)), r3_nr] at this
  exact this
theorem add_less (am ae bm be : Int) (hA : qzz am ae = true) (hB : qzz bm be = true) (hs : am < 0 ↔ ¬ bm < 0) (hx : wN am ae < wN bm be) : Meets Try.prog 43 [dcA am ae, dcA bm be] [] (.tuple [.agg [.int .i64 (nearD (decide (bm < 0)) (wN bm be - wN am ae) (1 * 10 ^ 9)).1, .int .i64 (nearD (decide (bm < 0)) (wN bm be - wN am ae) (1 * 10 ^ 9)).2], .int .i64 (nearX (wN bm be - wN am ae) (1 * 10 ^ 9))]) [] := by
  have := add_right hA hB
  unfold addV at this
  rw [if_neg (fun h => by have := decide_eq_decide.1 (beq_iff_eq.1 h); omega), if_pos hx, r3_nr] at this
  exact this
theorem add_more (am ae bm be : Int) (hA : qzz am ae = true) (hB : qzz bm be = true) (hs : am < 0 ↔ ¬ bm < 0) (hx : ¬ wN am ae < wN bm be) : Meets Try.prog 43 [dcA am ae, dcA bm be] [] (.tuple [.agg [.int .i64 (nearD (decide (am < 0)) (wN am ae - wN bm be) (1 * 10 ^ 9)).1, .int .i64 (nearD (decide (am < 0)) (wN am ae - wN bm be) (1 * 10 ^ 9)).2], .int .i64 (nearX (wN am ae - wN bm be) (1 * 10 ^ 9))]) [] := by
  have := add_right hA hB
  unfold addV at this
  rw [if_neg (fun h => by have := decide_eq_decide.1 (beq_iff_eq.1 h); omega), if_neg hx, r3_nr] at this
  exact this
theorem add_bad (am ae bm be : Int) (h : ¬ (qzz am ae = true ∧ qzz bm be = true)) : Meets Try.prog 43 [dcA am ae, dcA bm be] [] (R3 (0, 0, 10)) [] :=
  meets_of (add_comes _ am ae bm be) (by unfold addT; simp only [Ans.chk, Ans.run]; rw [two_bad h]; rfl)
theorem mul_ok (am ae bm be : Int) (hA : qzz am ae = true) (hB : qzz bm be = true) : Meets Try.prog 45 [dcA am ae, dcA bm be] [] (.tuple [.agg [.int .i64 (nearD (negB am bm) ((wN am ae) * (wN bm be)) (1 * 10 ^ 18)).1, .int .i64 (nearD (negB am bm) ((wN am ae) * (wN bm be)) (1 * 10 ^ 18)).2], .int .i64 (nearX ((wN am ae) * (wN bm be)) (1 * 10 ^ 18))]) [] := by
  rw [← r3_nr]
  refine meets_of (mul_comes _ am ae bm be) ?_
  have wa := w_nd hA
  have wc := w_nd hB
  unfold mulT
  simp only [Ans.chk, Ans.run]
  rw [two_good hA hB, bcT (w_ok hA), bcT (w_ok hB), E2w, E2w, kE2w, kE2w]
  have m1 := nd_mul (a := wN am ae) (b := wN bm be)
  rw [bcT (okD_dg (o := 2) (by omega) (by omega) rfl), D_dg, kD_dg]
  exact a9_run (by show nd (wN am ae * wN bm be) ≤ _; omega) (by omega) rfl
theorem mul_bad (am ae bm be : Int) (h : ¬ (qzz am ae = true ∧ qzz bm be = true)) : Meets Try.prog 45 [dcA am ae, dcA bm be] [] (R3 (0, 0, 10)) [] :=
  meets_of (mul_comes _ am ae bm be) (by unfold mulT; simp only [Ans.chk, Ans.run]; rw [two_bad h]; rfl)
theorem div_ok (am ae bm be : Int) (hA : qzz am ae = true) (hB : qzz bm be = true) (h0 : ¬ bm = 0) : Meets Try.prog 46 [dcA am ae, dcA bm be] [] (.tuple [.agg [.int .i64 (nearD (negB am bm) (wN am ae) (wN bm be)).1, .int .i64 (nearD (negB am bm) (wN am ae) (wN bm be)).2], .int .i64 (nearX (wN am ae) (wN bm be))]) [] := by
  rw [← r3_nr]
  refine meets_of (div_comes _ am ae bm be) ?_
  have wa := w_nd hA
  have wc := w_nd hB
  unfold divT
  simp only [Ans.chk, Ans.run]
  rw [two_good hA hB, bcF (b := bm == 0) (beq_eq_false_iff_ne.2 h0), bcT (w_ok hA), bcT (w_ok hB), E2w, E2w, kE2w, kE2w]
  exact aN_run (by omega) (by omega) (Nat.mul_pos (by omega) (Nat.pow_pos (by decide)))
theorem div_bad (am ae bm be : Int) (h : ¬ (qzz am ae = true ∧ qzz bm be = true)) : Meets Try.prog 46 [dcA am ae, dcA bm be] [] (R3 (0, 0, 10)) [] :=
  meets_of (div_comes _ am ae bm be) (by unfold divT; simp only [Ans.chk, Ans.run]; rw [two_bad h]; rfl)
theorem div_zero (am ae be : Int) (hA : qzz am ae = true) (hB : qzz 0 be = true) : Meets Try.prog 46 [dcA am ae, dcA 0 be] [] (R3 (0, 0, 11)) [] :=
  meets_of (div_comes _ am ae 0 be) (by unfold divT; simp only [Ans.chk, Ans.run]; rw [two_good hA hB]; rfl)
theorem rcompare_ok (am ae bm be : Int) (hA : qzz am ae = true) (hB : qzz bm be = true) (hne : ¬ (am = bm ∧ ae = be)) : Meets Try.prog 51 [dcA am ae, dcA bm be] [] (.int .i64 (rcmp am bm (wN am ae) (wN bm be))) [] := by
  refine meets_of (cmp_comes _ am ae bm be) ?_
  have wa := w_nd hA
  have wc := w_nd hB
  unfold cmpT rcmp iA
  simp only [Ans.chk, Ans.run]
  rw [two_good hA hB, bcF (b := _ && _) (by rw [Bool.and_true, Bool.and_eq_false_iff, beq_eq_false_iff_ne, beq_eq_false_iff_ne]; omega)]
  by_cases h : (decide (am < 0) != decide (bm < 0)) = true
  · rw [bcT (show negB am bm = true from h), if_pos h]
    by_cases k : am < 0
    · rw [bcT (decide_eq_true k), if_pos k]; rfl
    · rw [bcF (decide_eq_false k), if_neg k]; rfl
  · rw [bcF (show negB am bm = false by unfold negB; simpa using h), if_neg h, bcT (w_ok hA), bcT (w_ok hB), E2w, E2w, kE2w, kE2w, bcT (okL_dg (by omega) (by omega)), L_dg]
    by_cases k : (decide (wN am ae < wN bm be) == decide (am < 0)) = true
    · rw [bcT k, if_pos k]; rfl
    · rw [bcF (by simpa using k), if_neg k]; rfl
theorem rcompare_same (am ae : Int) (hA : qzz am ae = true) : Meets Try.prog 51 [dcA am ae, dcA am ae] [] (.int .i64 0) [] :=
  meets_of (cmp_comes _ am ae am ae) (by unfold cmpT; simp only [Ans.chk, Ans.run]; rw [two_good hA hA, bcT (b := _ && _) (by simp)]; rfl)
theorem rcompare_bad (am ae bm be : Int) (h : ¬ (qzz am ae = true ∧ qzz bm be = true)) : Meets Try.prog 51 [dcA am ae, dcA bm be] [] (.int .i64 0) [] :=
  meets_of (cmp_comes _ am ae bm be) (by unfold cmpT; simp only [Ans.chk, Ans.run]; rw [two_bad h]; rfl)
theorem flE_run {a : Int} {q : Nat} (hq : nd q ≤ 200000) : (flE (numF NR) a (dg q) (nd q)).run pure2 = some (.tuple [.int .i64 (floorR a q).1, .int .i64 (floorR a q).2], []) := by
  obtain ⟨C, hC, hv⟩ : ∃ C, (999999999999999 : Int).natAbs = C ∧ C = 999999999999999 := ⟨_, rfl, rfl⟩
  have c1 : nd C ≤ 20 := nd_small (by omega)
  unfold flE floorR fA
  simp only [Ans.chk, Ans.run]
  rw [bcT (okE0 (by decide)), E0, kE0, hC, bcT (okL_dg (by omega) hq), L_dg]
  by_cases h : 999999999999999 < q
  · rw [bcT (decide_eq_true (by omega)), if_pos h]; rfl
  · have w : wrN (0 - (q : Int)) = -(q : Int) := by unfold wrN; rw [i64_in (by omega) (by omega)]; omega
    rw [bcF (decide_eq_false (by omega)), if_neg h, bcT (okV_dg hq (by omega)), V_dg, w]
    by_cases k : a < 0
    · rw [bcT (decide_eq_true k), if_pos k]; rfl
    · rw [bcF (decide_eq_false k), if_neg k, bcT (okV_dg hq (by omega))]; rfl
theorem rfloor_ok (am ae : Int) (hA : qzz am ae = true) : Meets Try.prog 47 [dcA am ae] [] (.tuple [.int .i64 (floorR am (floorQ am (wN am ae) (1 * 10 ^ 9))).1, .int .i64 (floorR am (floorQ am (wN am ae) (1 * 10 ^ 9))).2]) [] := by
  refine meets_of (fl_comes _ am ae) ?_
  have wa := w_nd hA
  have u := nd_u 9
  have u0 : 0 < 1 * 10 ^ 9 := by decide
  unfold flT
  simp only [Ans.chk, Ans.run]
  rw [bcF (b := !_) (by rw [hA]; rfl), bcT (w_ok hA), bcT (okE1 (by omega)), E2w, kE2w, E1, kE1, show (9 : Int).toNat = 9 from rfl]
  generalize 1 * 10 ^ 9 = U at *
  have q1 : nd (wN am ae / U) ≤ nd (wN am ae) := nd_mono (Nat.div_le_self _ _)
  have q2 := nd_add (a := wN am ae / U) (b := 1)
  rw [nd_one] at q2
  have a3 : (numF nrR).D 3 (dg (wN am ae)) (nd (wN am ae)) (dg U) (nd U) = dg (wN am ae / U) := D_dg
  have b3 : (numF nrR).kD 3 (dg (wN am ae)) (nd (wN am ae)) (dg U) (nd U) = nd (wN am ae / U) := kD_dg
  have b4 : (numF nrR).kD 4 (dg (wN am ae)) (nd (wN am ae)) (dg U) (nd U) = nd (wN am ae % U) := kD_dg
  rw [bcT (okD_dg (o := 3) (by omega) (by omega) (decide_eq_true u0)), a3, b3, b4, okD1 (by omega), D1, kD1]
  by_cases k : am < 0
  · rw [bcT (decide_eq_true k)]
    by_cases r : 0 < nd (wN am ae % U)
    · rw [bcT (decide_eq_true (by omega)), floorQ_up ⟨k, r⟩]
      exact flE_run (by omega)
    · rw [bcF (decide_eq_false (by omega)), floorQ_dn (fun h => r h.2)]
      exact flE_run (by omega)
  · rw [bcF (decide_eq_false k), floorQ_dn (fun h => k h.1)]
    exact flE_run (by omega)
theorem rfloor_bad (am ae : Int) (hA : ¬ qzz am ae = true) : Meets Try.prog 47 [dcA am ae] [] (.tuple [.int .i64 0, .int .i64 10]) [] :=
  meets_of (fl_comes _ am ae) (by unfold flT fA; simp only [Ans.chk, Ans.run]; rw [bcT (b := !_) (by simpa using hA)]; rfl)
theorem rdE_run {a : Int} {Q U : Nat} (hQ : nd Q ≤ 1000) (hU : nd U ≤ 1000) : (rdE (numF NR) a (dg Q) (nd Q) (dg U) (nd U)).run pure2 = some (R3 (NR (decide (a < 0)) (Q * U) (1 * 10 ^ 9)), []) := by
  have m1 := nd_mul (a := Q) (b := U)
  unfold rdE
  simp only [Ans.chk, Ans.run]
  rw [bcT (okD_dg (o := 2) (by omega) (by omega) rfl), D_dg, kD_dg]
  exact a9_run (by show nd (Q * U) ≤ _; omega) (by omega) rfl
theorem rd_run {am ae n : Int} (hA : qzz am ae = true) (hn : -9 ≤ n ∧ n ≤ 9) {A U : Nat} (eA : wN am ae = A) (eU : 1 * 10 ^ (9 - n).toNat = U) :
    Meets Try.prog 49 [dcA am ae, .int .i64 n] [] (R3 (nrR (decide (am < 0)) ((if A % U + A % U < U then A / U else A / U + 1) * U) (1 * 10 ^ 9))) [] := by
  refine meets_of (rd_comes _ am ae n) ?_
  have wa := w_nd hA
  have u := nd_u (9 - n).toNat
  have u0 : 0 < 1 * 10 ^ (9 - n).toNat := by rw [Nat.one_mul]; exact Nat.pow_pos (by decide)
  have w : wrN (9 - n) = 9 - n := by unfold wrN; rw [i64_in (by omega) (by omega)]
  unfold rdT
  simp only [Ans.chk, Ans.run]
  rw [bcF (b := !_) (by rw [hA]; rfl), bcF (decide_eq_false (by omega)), bcF (decide_eq_false (by omega)), w, bcT (okE1 (by omega)), bcT (w_ok hA), E2w, kE2w, E1, kE1, eU]
  rw [eU] at u u0
  rw [eA] at wa
  rw [eA]
  have q1 : nd (A / U) ≤ nd A := nd_mono (Nat.div_le_self _ _)
  have q2 := nd_add (a := A / U) (b := 1)
  have r1 : nd (A % U) ≤ nd U := nd_mono (Nat.le_of_lt (Nat.mod_lt _ u0))
  have r2 := nd_add (a := A % U) (b := A % U)
  rw [nd_one] at q2
  have a3 : (numF nrR).D 3 (dg A) (nd A) (dg U) (nd U) = dg (A / U) := D_dg
  have b3 : (numF nrR).kD 3 (dg A) (nd A) (dg U) (nd U) = nd (A / U) := kD_dg
  have a4 : (numF nrR).D 4 (dg A) (nd A) (dg U) (nd U) = dg (A % U) := D_dg
  have b4 : (numF nrR).kD 4 (dg A) (nd A) (dg U) (nd U) = nd (A % U) := kD_dg
  have a0 : (numF nrR).D 0 (dg (A % U)) (nd (A % U)) (dg (A % U)) (nd (A % U)) = dg (A % U + A % U) := D_dg
  have b0 : (numF nrR).kD 0 (dg (A % U)) (nd (A % U)) (dg (A % U)) (nd (A % U)) = nd (A % U + A % U) := kD_dg
  rw [bcT (okD_dg (o := 3) (by omega) (by omega) (decide_eq_true u0)), a3, b3, a4, b4]
  unfold rdT2
  simp only [Ans.chk, Ans.run]
  rw [bcT (okD_dg (o := 0) (by omega) (by omega) rfl), a0, b0, bcT (okL_dg (by omega) (by omega)), L_dg]
  by_cases h : A % U + A % U < U
  · rw [bcF (b := !_) (by rw [decide_eq_true h]; rfl), if_pos h]
    exact rdE_run (by omega) (by omega)
  · rw [bcT (b := !_) (by rw [decide_eq_false h]; rfl), if_neg h, bcT (okD1 (by omega)), D1, kD1]
    exact rdE_run (by omega) (by omega)
theorem rround_up (am ae n : Int) (hA : qzz am ae = true) (hn : -9 ≤ n ∧ n ≤ 9) (hx : ¬ wN am ae % (1 * 10 ^ ((9 - n).toNat)) + wN am ae % (1 * 10 ^ ((9 - n).toNat)) < (1 * 10 ^ ((9 - n).toNat))) : Meets Try.prog 49 [dcA am ae, .int .i64 n] [] (.tuple [.agg [.int .i64 (nearD (decide (am < 0)) ((wN am ae / (1 * 10 ^ ((9 - n).toNat)) + 1) * (1 * 10 ^ ((9 - n).toNat))) (1 * 10 ^ 9)).1, .int .i64 (nearD (decide (am < 0)) ((wN am ae / (1 * 10 ^ ((9 - n).toNat)) + 1) * (1 * 10 ^ ((9 - n).toNat))) (1 * 10 ^ 9)).2], .int .i64 (nearX ((wN am ae / (1 * 10 ^ ((9 - n).toNat)) + 1) * (1 * 10 ^ ((9 - n).toNat))) (1 * 10 ^ 9))]) [] := by
  have := rd_run hA hn rfl rfl
  rw [if_neg hx, r3_nr] at this
  exact this
theorem rround_dn (am ae n : Int) (hA : qzz am ae = true) (hn : -9 ≤ n ∧ n ≤ 9) (hx : wN am ae % (1 * 10 ^ ((9 - n).toNat)) + wN am ae % (1 * 10 ^ ((9 - n).toNat)) < (1 * 10 ^ ((9 - n).toNat))) : Meets Try.prog 49 [dcA am ae, .int .i64 n] [] (.tuple [.agg [.int .i64 (nearD (decide (am < 0)) ((wN am ae / (1 * 10 ^ ((9 - n).toNat))) * (1 * 10 ^ ((9 - n).toNat))) (1 * 10 ^ 9)).1, .int .i64 (nearD (decide (am < 0)) ((wN am ae / (1 * 10 ^ ((9 - n).toNat))) * (1 * 10 ^ ((9 - n).toNat))) (1 * 10 ^ 9)).2], .int .i64 (nearX ((wN am ae / (1 * 10 ^ ((9 - n).toNat))) * (1 * 10 ^ ((9 - n).toNat))) (1 * 10 ^ 9))]) [] := by
  have := rd_run hA hn rfl rfl
  rw [if_pos hx, r3_nr] at this
  exact this
theorem rround_bad (am ae n : Int) (hA : ¬ qzz am ae = true) : Meets Try.prog 49 [dcA am ae, .int .i64 n] [] (R3 (0, 0, 10)) [] :=
  meets_of (rd_comes _ am ae n) (by unfold rdT; simp only [Ans.chk, Ans.run]; rw [bcT (b := !_) (by simpa using hA)]; rfl)
theorem rround_arg (am ae n : Int) (hA : qzz am ae = true) (hn : ¬ (-9 ≤ n ∧ n ≤ 9)) : Meets Try.prog 49 [dcA am ae, .int .i64 n] [] (R3 (0, 0, 2)) [] :=
  meets_of (rd_comes _ am ae n) (by
    unfold rdT; simp only [Ans.chk, Ans.run]; rw [bcF (b := !_) (by rw [hA]; rfl)]
    by_cases h : n < -9
    · rw [bcT (decide_eq_true h)]; rfl
    · rw [bcF (decide_eq_false h), bcT (decide_eq_true (by omega))]; rfl)
end Go.Proofs.Ytmgiefeggkikcaa.Rr
namespace Go.Proofs.Ytmgiefeggkikcaa
open Go Sx Rf Dc Rr
theorem pow_split (a b : Nat) : 10 ^ (a + b) = 10 ^ a * 10 ^ b := Nat.pow_add 10 a b
theorem mul_near (am ae bm be : Int) (ha : qzz am ae = true) (hb : qzz bm be = true) :
    mulR am ae bm be = ((nearD (negB am bm) ((am.natAbs * 10 ^ (ae + 9).toNat) * (bm.natAbs * 10 ^ (be + 9).toNat)) (1 * 10 ^ 18)).1, (nearD (negB am bm) ((am.natAbs * 10 ^ (ae + 9).toNat) * (bm.natAbs * 10 ^ (be + 9).toNat)) (1 * 10 ^ 18)).2, nearX ((am.natAbs * 10 ^ (ae + 9).toNat) * (bm.natAbs * 10 ^ (be + 9).toNat)) (1 * 10 ^ 18)) := by
  obtain ⟨⟨a1, a2⟩, a3, a4⟩ := qyy ha
  obtain ⟨⟨b1, b2⟩, b3, b4⟩ := qyy hb
  have hV : mulV am ae bm be = (((am.natAbs * bm.natAbs * 10 ^ (ae + be + 40).toNat) / 1 : Nat) : Int) := by
    unfold mulV aV
    rw [Nat.div_one]
    push_cast
    rw [Int.mul_assoc, Int.mul_comm (10 ^ _), ← Int.mul_assoc]
  have h0 : am.natAbs * bm.natAbs < 10 ^ 30 := by
    have x1 : am.natAbs ≤ 10 ^ 15 - 1 := by omega
    have x2 : bm.natAbs ≤ 10 ^ 15 - 1 := by omega
    have := Nat.mul_le_mul x1 x2
    have e : (10 ^ 15 - 1) * (10 ^ 15 - 1) < 10 ^ 30 := by decide
    omega
  have hlt : am.natAbs * bm.natAbs * 10 ^ (ae + be + 40).toNat / 1 < 10 ^ 88 := by
    rw [Nat.div_one]
    have y1 : (10 : Nat) ^ (ae + be + 40).toNat ≤ 10 ^ 58 := Nat.pow_le_pow_right (by decide) (by omega)
    calc am.natAbs * bm.natAbs * 10 ^ (ae + be + 40).toNat ≤ am.natAbs * bm.natAbs * 10 ^ 58 := Nat.mul_le_mul_left _ y1
      _ < 10 ^ 30 * 10 ^ 58 := Nat.mul_lt_mul_of_pos_right h0 (Nat.pow_pos (by decide))
      _ = 10 ^ 88 := by rw [← Nat.pow_add]
  have key := near_bridge (ds := digs 88 (mulV am ae bm be)) (N := (am.natAbs * 10 ^ (ae + 9).toNat) * (bm.natAbs * 10 ^ (be + 9).toNat)) (M := 1 * 10 ^ 18) (negB am bm) (fun j hj => by
    rw [hV, show 57 - j = 88 - (31 + j) by omega, even_rnd (g := 1) (by decide) (by omega) (by omega) (Nat.one_dvd _) (Nat.one_dvd _) (by decide) hlt]
    congr 1
    refine rnd_ratio (by rw [Nat.one_mul]; exact Nat.pow_pos (by decide)) (Nat.mul_pos (Nat.mul_pos (by decide) (Nat.pow_pos (by decide))) (Nat.pow_pos (by decide))) ?_
    unfold nE dE
    rw [show am.natAbs * bm.natAbs * 10 ^ (ae + be + 40).toNat * (1 * 10 ^ 18 * 10 ^ ((j : Int) - 9).toNat) = am.natAbs * bm.natAbs * 10 ^ ((ae + be + 40).toNat + (18 + ((j : Int) - 9).toNat)) by
      rw [Nat.one_mul, ← Nat.pow_add, Nat.mul_assoc (am.natAbs * bm.natAbs), ← Nat.pow_add]]
    rw [show am.natAbs * 10 ^ (ae + 9).toNat * (bm.natAbs * 10 ^ (be + 9).toNat) * 10 ^ (-((j : Int) - 9)).toNat * (1 * 10 ^ (31 + j)) = am.natAbs * bm.natAbs * 10 ^ ((ae + 9).toNat + (be + 9).toNat + (-((j : Int) - 9)).toNat + (31 + j)) by
      rw [Nat.one_mul, Nat.mul_mul_mul_comm, ← Nat.pow_add, Nat.mul_assoc (am.natAbs * bm.natAbs), ← Nat.pow_add, Nat.mul_assoc (am.natAbs * bm.natAbs), ← Nat.pow_add]]
    congr 2
    omega)
  rw [← mulR_eq]
  unfold tellR
  rw [ha, hb, Bool.and_true, if_pos rfl]
  have hu : qyu am bm = negB am bm := by
    unfold qyu negB
    cases decide (am < 0) <;> cases decide (bm < 0) <;> rfl
  rw [hu, key.1, key.2]
theorem div_near (am ae bm be : Int) (ha : qzz am ae = true) (hb : qzz bm be = true) (h0 : bm ≠ 0) :
    divR am ae bm be = ((nearD (negB am bm) (am.natAbs * 10 ^ (ae + 9).toNat) (bm.natAbs * 10 ^ (be + 9).toNat)).1, (nearD (negB am bm) (am.natAbs * 10 ^ (ae + 9).toNat) (bm.natAbs * 10 ^ (be + 9).toNat)).2, nearX (am.natAbs * 10 ^ (ae + 9).toNat) (bm.natAbs * 10 ^ (be + 9).toNat)) := by
  obtain ⟨⟨a1, a2⟩, a3, a4⟩ := qyy ha
  obtain ⟨⟨b1, b2⟩, b3, b4⟩ := qyy hb
  have hb0 : 0 < bm.natAbs := by omega
  have hV : quoV am ae bm be = (((am.natAbs * 10 ^ (ae - be + 40).toNat) / bm.natAbs : Nat) : Int) := by
    unfold quoV; push_cast; rfl
  have hlt : am.natAbs * 10 ^ (ae - be + 40).toNat / bm.natAbs < 10 ^ 88 := by
    have y1 : (10 : Nat) ^ (ae - be + 40).toNat ≤ 10 ^ 58 := Nat.pow_le_pow_right (by decide) (by omega)
    have x1 : am.natAbs ≤ 10 ^ 15 := by omega
    have := Nat.mul_le_mul x1 y1
    have e : (10 : Nat) ^ 15 * 10 ^ 58 < 10 ^ 88 := by rw [← Nat.pow_add]; exact Nat.pow_lt_pow_right (by decide) (by decide)
    have := Nat.div_le_self (am.natAbs * 10 ^ (ae - be + 40).toNat) bm.natAbs
    omega
  have key := near_bridge (ds := digs 88 (quoV am ae bm be)) (N := am.natAbs * 10 ^ (ae + 9).toNat) (M := bm.natAbs * 10 ^ (be + 9).toNat) (negB am bm) (fun j hj => by
    rw [hV, show 57 - j = 88 - (31 + j) by omega, even_rnd (g := 10 ^ 22) hb0 (by omega) (by omega)
      (Nat.dvd_mul_left_of_dvd (Nat.pow_dvd_pow 10 (by omega)) _)
      (Nat.dvd_mul_left_of_dvd (Nat.dvd_mul_left_of_dvd (Nat.pow_dvd_pow 10 (by omega)) _) _)
      (by have : bm.natAbs ≤ 10 ^ 15 := by omega
          exact Nat.le_trans this (Nat.pow_le_pow_right (by decide) (by decide))) hlt]
    congr 1
    refine rnd_ratio (Nat.mul_pos hb0 (Nat.pow_pos (by decide))) (Nat.mul_pos (Nat.mul_pos hb0 (Nat.pow_pos (by decide))) (Nat.pow_pos (by decide))) ?_
    unfold nE dE
    rw [show am.natAbs * 10 ^ (ae - be + 40).toNat * (bm.natAbs * 10 ^ (be + 9).toNat * 10 ^ ((j : Int) - 9).toNat) = am.natAbs * bm.natAbs * 10 ^ ((ae - be + 40).toNat + ((be + 9).toNat + ((j : Int) - 9).toNat)) by
      rw [Nat.mul_assoc bm.natAbs, ← Nat.pow_add, Nat.mul_mul_mul_comm, ← Nat.pow_add]]
    rw [show am.natAbs * 10 ^ (ae + 9).toNat * 10 ^ (-((j : Int) - 9)).toNat * (bm.natAbs * 10 ^ (31 + j)) = am.natAbs * bm.natAbs * 10 ^ ((ae + 9).toNat + (-((j : Int) - 9)).toNat + (31 + j)) by
      rw [Nat.mul_assoc am.natAbs, ← Nat.pow_add, Nat.mul_mul_mul_comm, ← Nat.pow_add]]
    congr 2
    omega)
  rw [← divR_eq h0]
  unfold tellR
  rw [ha, hb, Bool.and_true, if_pos rfl]
  have hu : qyu am bm = negB am bm := by
    unfold qyu negB
    cases decide (am < 0) <;> cases decide (bm < 0) <;> rfl
  rw [hu, key.1, key.2]
end Go.Proofs.Ytmgiefeggkikcaa
namespace Go.Proofs.Ytmgiefeggkikcaa.Rr
open Go Sx Rf Dc
theorem sub_ok (am ae bm be : Int) (hB : qzz bm be = true) (p q x : Int) (hc : Meets Try.prog 43 [jA [jI am, jI ae], jA [jI (-bm), jI be]] [] (jT [jA [jI p, jI q], jI x]) [])  : Meets Try.prog 44 [jA [jI am, jI ae], jA [jI bm, jI be]] [] (jT [jA [jI p, jI q], jI x]) [] := by
  have rb := right_facts hB
  exact qzy (fn := Try.f44) 6 [rG [hhN 0 0, hhN 1 1, hhN 2 2], rG [hhV 0 (jA [jI bm, jI be]), hhMB 1 (qwz bm be) true, hhB 2 false], rG [hhV 0 (jA [jI am, jI ae]), hhI 2 bm, hhI 3 (-bm), hhI 5 be, hhV 6 (jA [jI (-bm), jI be]), hhM 7 (hc), (10, {obj := some [jC [jI p, jI q] 23]})]] [{val := some (jA [jI p, jI q])}, {}] Try.func44 (by kernel_rfl) Try.call44
    (oA (oLw ([jI bm, jI be]) (rfl)) <| oA (oC (qwz bm be) rfl) <| oA (oS (show AV.ren [] (jB (qzz bm be)) = jB true from boolT hB)) <| oA (oS (show AV.bool (!true) = jB false from rfl)) <| oA (oLw ([jI am, jI ae]) (rfl)) <| oA (oLf ([jI bm, jI be]) (0) (jI bm) (rfl)) <| oA (oW (0 - bm) (-bm) (by omega)) <| oA (oLf ([jI bm, jI be]) (1) (jI be) (rfl)) <| oA (oS (show ([jI (-bm)] : List AV).length = 1 from rfl)) <| oA (oS (show 0 + 1 ≤ ([jI 0, jI 0] : List AV).length from Nat.le_of_ble_eq_true (by kernel_rfl))) <| oA (oS (show ([jI be] : List AV).length = 1 from rfl)) <| oA (oS (show 1 + 1 ≤ (List.take 0 [jI 0, jI 0] ++ [jI (-bm)] ++ List.drop 1 [jI 0, jI 0] : List AV).length from Nat.le_of_ble_eq_true (by kernel_rfl))) <| oA (oS (show AV.agg (List.take 1 (List.take 0 [jI 0, jI 0] ++ [jI (-bm)] ++ List.drop 1 [jI 0, jI 0]) ++ [jI be] ++ List.drop 2 (List.take 0 [jI 0, jI 0] ++ [jI (-bm)] ++ List.drop 1 [jI 0, jI 0])) = jA [jI (-bm), jI be] from by kernel_rfl)) <| oA (oC (hc) rfl) <| oSw ([jI p, jI q]) ([jI 0, jI 0]) 23 (rfl) (rfl))
    (oA (oLw ([jI p, jI q]) (rfl)) <| oA (oS (@rfl _ (jT [jA [jI p, jI q], jI x]))) <| oV (D := (fun n => decide (0 ≤ n))) (jT [jA [jI p, jI q], jI x]) rfl) (by kernel_rfl)
theorem sub_bad (am ae bm be : Int) (hB : ¬ qzz bm be = true)  : Meets Try.prog 44 [jA [jI am, jI ae], jA [jI bm, jI be]] [] (jT [jA [jI 0, jI 0], jI 10]) [] := by
  exact qzy (fn := Try.f44) 6 [rG [hhN 0 0, hhN 1 1, hhN 2 2], rG [hhV 0 (jA [jI bm, jI be]), hhMB 1 (qwz bm be) false, hhB 2 true], rG [(1, {obj := some [jC [jI 0, jI 0] 23]})]] [{val := some (jA [jI 0, jI 0])}, {}] Try.func44 (by kernel_rfl) Try.call44
    (oA (oLw ([jI bm, jI be]) (rfl)) <| oA (oC (qwz bm be) rfl) <| oA (oS (show AV.ren [] (jB (qzz bm be)) = jB false from boolF hB)) <| oA (oS (show AV.bool (!false) = jB true from rfl)) <| oSw ([jI 0, jI 0]) ([jI 0, jI 0]) 23 (rfl) (rfl))
    (oA (oLw ([jI 0, jI 0]) (rfl)) <| oA (oS (@rfl _ (jT [jA [jI 0, jI 0], jI 10]))) <| oV (D := (fun n => decide (0 ≤ n))) (jT [jA [jI 0, jI 0], jI 10]) rfl) (by kernel_rfl)
theorem of_err (n : Int) (hn : -9223372036854775808 ≤ n ∧ n < 9223372036854775808) (p q x : Int) (hc : Meets Try.prog 36 [jB (decide (n < 0)), AV.dsl 0 (nd n.natAbs), AV.dsl 1 (nd 1)] [AObj.flat false (ints .i64 (dg n.natAbs)), AObj.flat false (ints .i64 (dg 1))] (jT [jA [jI p, jI q], jI x]) [AObj.flat false (ints .i64 (dg n.natAbs)), AObj.flat false (ints .i64 (dg 1))]) (hp : -999999999999999 ≤ p ∧ p ≤ 999999999999999) (hq : -9 ≤ q ∧ q ≤ 9) (hx : ¬ x = 0)  : Meets Try.prog 16 [jI n] [] (jT [jA [jI 0, jI 0], jI 10]) [] := by
  have na : nd n.natAbs ≤ 20 := nd_small (by omega)
  have np : nd p.natAbs ≤ 20 := nd_small (by omega)
  have n1 := nd_one
  have w1 : nd (n.natAbs * 10 ^ 9) ≤ nd n.natAbs + 9 := nd_pow
  have w2 : nd (p.natAbs * 10 ^ (q + 9).toNat) ≤ nd p.natAbs + (q + 9).toNat := nd_pow
  exact qzy (fn := Try.f16) 12 [rG [hhN 0 0], rG [(3, {call := some ⟨[1], [jI n], [], AV.dsl 0 (nd n.natAbs), [AObj.flat true (ints .i64 (dg n.natAbs))]⟩, val := some (AV.dsl 1 (nd n.natAbs)), obj := some [AObj.flat true (ints .i64 (dg n.natAbs))]}), (4, {nm := [2], obj := some [AObj.vec (ints .i64 (dg 1)) 3 1], view := 4}), (5, {call := some ⟨[1, 2], [jB (decide (n < 0)), AV.dsl 0 (nd n.natAbs), AV.dsl 1 (nd 1)], [AObj.flat false (ints .i64 (dg n.natAbs)), AObj.flat false (ints .i64 (dg 1))], jT [jA [jI p, jI q], jI x], [AObj.flat false (ints .i64 (dg n.natAbs)), AObj.flat false (ints .i64 (dg 1))]⟩}), hhN 9 3, (10, {obj := some [jC [jI p, jI q] 23]})], rG [hhB 1 true], rG [(1, {obj := some [jC [jI 0, jI 0] 23]})]] [{val := some (jA [jI 0, jI 0])}, {}] Try.func16 (by kernel_rfl) Try.call16
    (oA (oS (show [jI n] = renL [1] [jI n] from rfl)) <| oA (oS (show Meets Try.prog 42 [jI n] [] (AV.dsl 0 (nd n.natAbs)) [AObj.flat true (ints .i64 (dg n.natAbs))] from digits_meets n (by omega) (by omega))) <| oA (oS (show AV.ren [1] (AV.dsl 0 (nd n.natAbs)) = AV.dsl 1 (nd n.natAbs) from rfl)) <| oA (oS (show updOf [1] [] [] [AObj.flat true (ints .i64 (dg n.natAbs))] ++ List.map (fun x => x.ren [1]) (List.drop 0 [AObj.flat true (ints .i64 (dg n.natAbs))]) = [AObj.flat true (ints .i64 (dg n.natAbs))] from by simp only [updOf, List.map_cons, List.map_nil, List.drop, AObj.ren, qzu, List.nil_append])) <| oA (oS (show ([jI 1] : List AV).length = 1 from rfl)) <| oA (oS (show 0 + 1 ≤ List.length (List.flatten (List.replicate 1 [jI 0])) from Nat.le_of_ble_eq_true rfl)) <| oA (oS (show List.length (List.take 0 (List.flatten (List.replicate 1 [jI 0])) ++ [jI 1] ++ List.drop 1 (List.flatten (List.replicate 1 [jI 0]))) = 1 * 1 from rfl)) <| oA (oS (show AObj.vec (List.take 0 (List.flatten (List.replicate 1 [jI 0])) ++ [jI 1] ++ List.drop 1 (List.flatten (List.replicate 1 [jI 0]))) 3 1 = AObj.vec (ints .i64 (dg 1)) 3 1 from by rw [dg_one]; rfl)) <| oA (oS (show [jB (decide (n < 0)), AV.dsl 1 (nd n.natAbs), AV.dsl 2 1] = renL [1, 2] [jB (decide (n < 0)), AV.dsl 0 (nd n.natAbs), AV.dsl 1 (nd 1)] from by simp only [renL, AV.ren, nd_one]; rfl)) <| oA (oS (show Meets Try.prog 36 [jB (decide (n < 0)), AV.dsl 0 (nd n.natAbs), AV.dsl 1 (nd 1)] [AObj.flat false (ints .i64 (dg n.natAbs)), AObj.flat false (ints .i64 (dg 1))] (jT [jA [jI p, jI q], jI x]) [AObj.flat false (ints .i64 (dg n.natAbs)), AObj.flat false (ints .i64 (dg 1))] from hc)) <| oA (oS (show Fits (AObj.flat true (ints .i64 (dg n.natAbs))) (AObj.ren [1, 2] (AObj.flat false (ints .i64 (dg n.natAbs)))) from Fits.ints (by simp))) <| oA (oS (show Fits (AObj.flat true (ints .i64 (dg 1))) (AObj.ren [1, 2] (AObj.flat false (ints .i64 (dg 1)))) from Fits.ints (by simp))) <| oA (oSw ([jI p, jI q]) ([jI 0, jI 0]) 23 (rfl) (rfl)) <| oA (oS (show AV.bool (x != 0) = jB true from neT hx)) <| oSw ([jI 0, jI 0]) ([jI 0, jI 0]) 23 (rfl) (rfl))
    (oA (oLw ([jI 0, jI 0]) (rfl)) <| oA (oS (@rfl _ (jT [jA [jI 0, jI 0], jI 10]))) <| oV (D := (fun n => decide (0 ≤ n))) (jT [jA [jI 0, jI 0], jI 10]) rfl) (by kernel_rfl)
theorem of_ok (n : Int) (hn : -9223372036854775808 ≤ n ∧ n < 9223372036854775808) (p q x : Int) (hc : Meets Try.prog 36 [jB (decide (n < 0)), AV.dsl 0 (nd n.natAbs), AV.dsl 1 (nd 1)] [AObj.flat false (ints .i64 (dg n.natAbs)), AObj.flat false (ints .i64 (dg 1))] (jT [jA [jI p, jI q], jI x]) [AObj.flat false (ints .i64 (dg n.natAbs)), AObj.flat false (ints .i64 (dg 1))]) (hp : -999999999999999 ≤ p ∧ p ≤ 999999999999999) (hq : -9 ≤ q ∧ q ≤ 9) (hx : x = 0) (he : p.natAbs * 10 ^ (q + 9).toNat = n.natAbs * 10 ^ 9)  : Meets Try.prog 16 [jI n] [] (jT [jA [jI p, jI q], jI 0]) [] := by
  have na : nd n.natAbs ≤ 20 := nd_small (by omega)
  have np : nd p.natAbs ≤ 20 := nd_small (by omega)
  have n1 := nd_one
  have w1 : nd (n.natAbs * 10 ^ 9) ≤ nd n.natAbs + 9 := nd_pow
  have w2 : nd (p.natAbs * 10 ^ (q + 9).toNat) ≤ nd p.natAbs + (q + 9).toNat := nd_pow
  have hk_0 := (show Meets Try.prog 42 [jI n] [] (AV.dsl 0 (nd n.natAbs)) [AObj.flat true (ints .i64 (dg n.natAbs))] from digits_meets n (by omega) (by omega))
  have hk_1 := (show Meets Try.prog 38 [AV.dsl 0 (nd n.natAbs), jI 9] [AObj.flat false (ints .i64 (dg n.natAbs))] (AV.dsl 1 (nd (n.natAbs * 10 ^ 9))) [AObj.flat false (ints .i64 (dg n.natAbs)), AObj.flat true (ints .i64 (dg (n.natAbs * 10 ^ 9)))] from ten_nat n.natAbs 9 (by omega) (by omega))
  have hk_2 := (show Meets Try.prog 39 [jA [jI p, jI q]] [] (AV.dsl 0 (nd (p.natAbs * 10 ^ (q + 9).toNat))) [AObj.flat true (ints .i64 (dg (p.natAbs * 10 ^ (q + 9).toNat)))] from rwhole_meets p q (by omega) (by omega) (by omega))
  exact qzy (fn := Try.f16) 12 [rG [hhN 0 0], rG [(3, {call := some ⟨[1], [jI n], [], AV.dsl 0 (nd n.natAbs), [AObj.flat true (ints .i64 (dg n.natAbs))]⟩, val := some (AV.dsl 1 (nd n.natAbs)), obj := some [AObj.flat true (ints .i64 (dg n.natAbs))]}), (4, {nm := [2], obj := some [AObj.vec (ints .i64 (dg 1)) 3 1], view := 4}), (5, {call := some ⟨[1, 2], [jB (decide (n < 0)), AV.dsl 0 (nd n.natAbs), AV.dsl 1 (nd 1)], [AObj.flat false (ints .i64 (dg n.natAbs)), AObj.flat false (ints .i64 (dg 1))], jT [jA [jI p, jI q], jI x], [AObj.flat false (ints .i64 (dg n.natAbs)), AObj.flat false (ints .i64 (dg 1))]⟩}), hhN 9 3, (10, {obj := some [jC [jI p, jI q] 23]})], rG [hhB 1 false, hhV 3 (jA [jI p, jI q]), (4, {call := some ⟨[4], [jA [jI p, jI q]], [], AV.dsl 0 (nd (p.natAbs * 10 ^ (q + 9).toNat)), [AObj.flat true (ints .i64 (dg (p.natAbs * 10 ^ (q + 9).toNat)))]⟩, val := some (AV.dsl 4 (nd (p.natAbs * 10 ^ (q + 9).toNat))), obj := some [AObj.flat true (ints .i64 (dg (p.natAbs * 10 ^ (q + 9).toNat)))]}), (6, {call := some ⟨[5], [jI n], [], AV.dsl 0 (nd n.natAbs), [AObj.flat true (ints .i64 (dg n.natAbs))]⟩, val := some (AV.dsl 5 (nd n.natAbs)), obj := some [AObj.flat true (ints .i64 (dg n.natAbs))]}), (7, {call := some ⟨[5, 6], [AV.dsl 0 (nd n.natAbs), jI 9], [AObj.flat false (ints .i64 (dg n.natAbs))], AV.dsl 1 (nd (n.natAbs * 10 ^ 9)), [AObj.flat false (ints .i64 (dg n.natAbs)), AObj.flat true (ints .i64 (dg (n.natAbs * 10 ^ 9)))]⟩, val := some (AV.dsl 6 (nd (n.natAbs * 10 ^ 9))), obj := some [AObj.flat true (ints .i64 (dg n.natAbs)), AObj.flat true (ints .i64 (dg (n.natAbs * 10 ^ 9)))]}), (8, {call := some ⟨[4, 6], [AV.dsl 0 (nd (p.natAbs * 10 ^ (q + 9).toNat)), AV.dsl 1 (nd (n.natAbs * 10 ^ 9))], [AObj.flat false (ints .i64 (dg (p.natAbs * 10 ^ (q + 9).toNat))), AObj.flat false (ints .i64 (dg (n.natAbs * 10 ^ 9)))], jB (decide ((p.natAbs * 10 ^ (q + 9).toNat) < (n.natAbs * 10 ^ 9))), [AObj.flat false (ints .i64 (dg (p.natAbs * 10 ^ (q + 9).toNat))), AObj.flat false (ints .i64 (dg (n.natAbs * 10 ^ 9)))]⟩, val := some (jB false)}), (12, {call := some ⟨[7], [jI n], [], AV.dsl 0 (nd n.natAbs), [AObj.flat true (ints .i64 (dg n.natAbs))]⟩, val := some (AV.dsl 7 (nd n.natAbs)), obj := some [AObj.flat true (ints .i64 (dg n.natAbs))]}), (13, {call := some ⟨[7, 8], [AV.dsl 0 (nd n.natAbs), jI 9], [AObj.flat false (ints .i64 (dg n.natAbs))], AV.dsl 1 (nd (n.natAbs * 10 ^ 9)), [AObj.flat false (ints .i64 (dg n.natAbs)), AObj.flat true (ints .i64 (dg (n.natAbs * 10 ^ 9)))]⟩, val := some (AV.dsl 8 (nd (n.natAbs * 10 ^ 9))), obj := some [AObj.flat true (ints .i64 (dg n.natAbs)), AObj.flat true (ints .i64 (dg (n.natAbs * 10 ^ 9)))]}), hhV 14 (jA [jI p, jI q]), (15, {call := some ⟨[9], [jA [jI p, jI q]], [], AV.dsl 0 (nd (p.natAbs * 10 ^ (q + 9).toNat)), [AObj.flat true (ints .i64 (dg (p.natAbs * 10 ^ (q + 9).toNat)))]⟩, val := some (AV.dsl 9 (nd (p.natAbs * 10 ^ (q + 9).toNat))), obj := some [AObj.flat true (ints .i64 (dg (p.natAbs * 10 ^ (q + 9).toNat)))]}), (16, {call := some ⟨[8, 9], [AV.dsl 0 (nd (n.natAbs * 10 ^ 9)), AV.dsl 1 (nd (p.natAbs * 10 ^ (q + 9).toNat))], [AObj.flat false (ints .i64 (dg (n.natAbs * 10 ^ 9))), AObj.flat false (ints .i64 (dg (p.natAbs * 10 ^ (q + 9).toNat)))], jB (decide ((n.natAbs * 10 ^ 9) < (p.natAbs * 10 ^ (q + 9).toNat))), [AObj.flat false (ints .i64 (dg (n.natAbs * 10 ^ 9))), AObj.flat false (ints .i64 (dg (p.natAbs * 10 ^ (q + 9).toNat)))]⟩, val := some (jB false)})], rG [hhV 0 (jA [jI p, jI q]), (1, {obj := some [jC [jI p, jI q] 23]})]] [{val := some (jA [jI p, jI q])}, {}] Try.func16 (by kernel_rfl) Try.call16
    (oA (oS (show [jI n] = renL [1] [jI n] from rfl)) <| oA (oS hk_0) <| oA (oS (show AV.ren [1] (AV.dsl 0 (nd n.natAbs)) = AV.dsl 1 (nd n.natAbs) from rfl)) <| oA (oS (show updOf [1] [] [] [AObj.flat true (ints .i64 (dg n.natAbs))] ++ List.map (fun x => x.ren [1]) (List.drop 0 [AObj.flat true (ints .i64 (dg n.natAbs))]) = [AObj.flat true (ints .i64 (dg n.natAbs))] from by simp only [updOf, List.map_cons, List.map_nil, List.drop, AObj.ren, qzu, List.nil_append])) <| oA (oS (show ([jI 1] : List AV).length = 1 from rfl)) <| oA (oS (show 0 + 1 ≤ List.length (List.flatten (List.replicate 1 [jI 0])) from Nat.le_of_ble_eq_true rfl)) <| oA (oS (show List.length (List.take 0 (List.flatten (List.replicate 1 [jI 0])) ++ [jI 1] ++ List.drop 1 (List.flatten (List.replicate 1 [jI 0]))) = 1 * 1 from rfl)) <| oA (oS (show AObj.vec (List.take 0 (List.flatten (List.replicate 1 [jI 0])) ++ [jI 1] ++ List.drop 1 (List.flatten (List.replicate 1 [jI 0]))) 3 1 = AObj.vec (ints .i64 (dg 1)) 3 1 from by rw [dg_one]; rfl)) <| oA (oS (show [jB (decide (n < 0)), AV.dsl 1 (nd n.natAbs), AV.dsl 2 1] = renL [1, 2] [jB (decide (n < 0)), AV.dsl 0 (nd n.natAbs), AV.dsl 1 (nd 1)] from by simp only [renL, AV.ren, nd_one]; rfl)) <| oA (oS (show Meets Try.prog 36 [jB (decide (n < 0)), AV.dsl 0 (nd n.natAbs), AV.dsl 1 (nd 1)] [AObj.flat false (ints .i64 (dg n.natAbs)), AObj.flat false (ints .i64 (dg 1))] (jT [jA [jI p, jI q], jI x]) [AObj.flat false (ints .i64 (dg n.natAbs)), AObj.flat false (ints .i64 (dg 1))] from hc)) <| oA (oS (show Fits (AObj.flat true (ints .i64 (dg n.natAbs))) (AObj.ren [1, 2] (AObj.flat false (ints .i64 (dg n.natAbs)))) from Fits.ints (by simp))) <| oA (oS (show Fits (AObj.flat true (ints .i64 (dg 1))) (AObj.ren [1, 2] (AObj.flat false (ints .i64 (dg 1)))) from Fits.ints (by simp))) <| oA (oSw ([jI p, jI q]) ([jI 0, jI 0]) 23 (rfl) (rfl)) <| oA (oS (show AV.bool (x != 0) = jB false from neF hx)) <| oA (oLw ([jI p, jI q]) (rfl)) <| oA (oS (show [jA [jI p, jI q]] = renL [4] [jA [jI p, jI q]] from rfl)) <| oA (oS hk_2) <| oA (oS (show AV.ren [4] (AV.dsl 0 (nd (p.natAbs * 10 ^ (q + 9).toNat))) = AV.dsl 4 (nd (p.natAbs * 10 ^ (q + 9).toNat)) from rfl)) <| oA (oS (show updOf [4] [] [] [AObj.flat true (ints .i64 (dg (p.natAbs * 10 ^ (q + 9).toNat)))] ++ List.map (fun x => x.ren [4]) (List.drop 0 [AObj.flat true (ints .i64 (dg (p.natAbs * 10 ^ (q + 9).toNat)))]) = [AObj.flat true (ints .i64 (dg (p.natAbs * 10 ^ (q + 9).toNat)))] from by simp only [updOf, AObj.owned, List.map_cons, List.map_nil, List.drop, AObj.ren, qzu, List.nil_append, List.cons_append, if_false, Bool.false_eq_true])) <| oA (oS (show [jI n] = renL [5] [jI n] from rfl)) <| oA (oS hk_0) <| oA (oS (show AV.ren [5] (AV.dsl 0 (nd n.natAbs)) = AV.dsl 5 (nd n.natAbs) from rfl)) <| oA (oS (show updOf [5] [] [] [AObj.flat true (ints .i64 (dg n.natAbs))] ++ List.map (fun x => x.ren [5]) (List.drop 0 [AObj.flat true (ints .i64 (dg n.natAbs))]) = [AObj.flat true (ints .i64 (dg n.natAbs))] from by simp only [updOf, List.map_cons, List.map_nil, List.drop, AObj.ren, qzu, List.nil_append])) <| oA (oS (show [AV.dsl 5 (nd n.natAbs), jI 9] = renL [5, 6] [AV.dsl 0 (nd n.natAbs), jI 9] from rfl)) <| oA (oS hk_1) <| oA (oS (show Fits (AObj.flat true (ints .i64 (dg n.natAbs))) (AObj.ren [5, 6] (AObj.flat false (ints .i64 (dg n.natAbs)))) from Fits.ints (by simp))) <| oA (oS (show AV.ren [5, 6] (AV.dsl 1 (nd (n.natAbs * 10 ^ 9))) = AV.dsl 6 (nd (n.natAbs * 10 ^ 9)) from rfl)) <| oA (oS (show updOf [5, 6] [AObj.flat true (ints .i64 (dg n.natAbs))] [AObj.flat false (ints .i64 (dg n.natAbs))] [AObj.flat false (ints .i64 (dg n.natAbs)), AObj.flat true (ints .i64 (dg (n.natAbs * 10 ^ 9)))] ++ List.map (fun x => x.ren [5, 6]) (List.drop 1 [AObj.flat false (ints .i64 (dg n.natAbs)), AObj.flat true (ints .i64 (dg (n.natAbs * 10 ^ 9)))]) = [AObj.flat true (ints .i64 (dg n.natAbs)), AObj.flat true (ints .i64 (dg (n.natAbs * 10 ^ 9)))] from by simp only [updOf, AObj.owned, List.map_cons, List.map_nil, List.drop, AObj.ren, qzu, List.nil_append, List.cons_append, if_false, Bool.false_eq_true])) <| oA (oS (show [AV.dsl 4 (nd (p.natAbs * 10 ^ (q + 9).toNat)), AV.dsl 6 (nd (n.natAbs * 10 ^ 9))] = renL [4, 6] [AV.dsl 0 (nd (p.natAbs * 10 ^ (q + 9).toNat)), AV.dsl 1 (nd (n.natAbs * 10 ^ 9))] from rfl)) <| oA (oS (show Meets Try.prog 40 [AV.dsl 0 (nd (p.natAbs * 10 ^ (q + 9).toNat)), AV.dsl 1 (nd (n.natAbs * 10 ^ 9))] [AObj.flat false (ints .i64 (dg (p.natAbs * 10 ^ (q + 9).toNat))), AObj.flat false (ints .i64 (dg (n.natAbs * 10 ^ 9)))] (jB (decide ((p.natAbs * 10 ^ (q + 9).toNat) < (n.natAbs * 10 ^ 9)))) [AObj.flat false (ints .i64 (dg (p.natAbs * 10 ^ (q + 9).toNat))), AObj.flat false (ints .i64 (dg (n.natAbs * 10 ^ 9)))] from less_meets (p.natAbs * 10 ^ (q + 9).toNat) (n.natAbs * 10 ^ 9) (by omega) (by omega))) <| oA (oS (show Fits (AObj.flat true (ints .i64 (dg (p.natAbs * 10 ^ (q + 9).toNat)))) (AObj.ren [4, 6] (AObj.flat false (ints .i64 (dg (p.natAbs * 10 ^ (q + 9).toNat))))) from Fits.ints (by simp))) <| oA (oS (show Fits (AObj.flat true (ints .i64 (dg (n.natAbs * 10 ^ 9)))) (AObj.ren [4, 6] (AObj.flat false (ints .i64 (dg (n.natAbs * 10 ^ 9))))) from Fits.ints (by simp))) <| oA (oS (show AV.ren [4, 6] (jB (decide ((p.natAbs * 10 ^ (q + 9).toNat) < (n.natAbs * 10 ^ 9)))) = jB false from bF (by omega))) <| oA (oS (show [jI n] = renL [7] [jI n] from rfl)) <| oA (oS hk_0) <| oA (oS (show AV.ren [7] (AV.dsl 0 (nd n.natAbs)) = AV.dsl 7 (nd n.natAbs) from rfl)) <| oA (oS (show updOf [7] [] [] [AObj.flat true (ints .i64 (dg n.natAbs))] ++ List.map (fun x => x.ren [7]) (List.drop 0 [AObj.flat true (ints .i64 (dg n.natAbs))]) = [AObj.flat true (ints .i64 (dg n.natAbs))] from by simp only [updOf, List.map_cons, List.map_nil, List.drop, AObj.ren, qzu, List.nil_append])) <| oA (oS (show [AV.dsl 7 (nd n.natAbs), jI 9] = renL [7, 8] [AV.dsl 0 (nd n.natAbs), jI 9] from rfl)) <| oA (oS hk_1) <| oA (oS (show Fits (AObj.flat true (ints .i64 (dg n.natAbs))) (AObj.ren [7, 8] (AObj.flat false (ints .i64 (dg n.natAbs)))) from Fits.ints (by simp))) <| oA (oS (show AV.ren [7, 8] (AV.dsl 1 (nd (n.natAbs * 10 ^ 9))) = AV.dsl 8 (nd (n.natAbs * 10 ^ 9)) from rfl)) <| oA (oS (show updOf [7, 8] [AObj.flat true (ints .i64 (dg n.natAbs))] [AObj.flat false (ints .i64 (dg n.natAbs))] [AObj.flat false (ints .i64 (dg n.natAbs)), AObj.flat true (ints .i64 (dg (n.natAbs * 10 ^ 9)))] ++ List.map (fun x => x.ren [7, 8]) (List.drop 1 [AObj.flat false (ints .i64 (dg n.natAbs)), AObj.flat true (ints .i64 (dg (n.natAbs * 10 ^ 9)))]) = [AObj.flat true (ints .i64 (dg n.natAbs)), AObj.flat true (ints .i64 (dg (n.natAbs * 10 ^ 9)))] from by simp only [updOf, AObj.owned, List.map_cons, List.map_nil, List.drop, AObj.ren, qzu, List.nil_append, List.cons_append, if_false, Bool.false_eq_true])) <| oA (oLw ([jI p, jI q]) (rfl)) <| oA (oS (show [jA [jI p, jI q]] = renL [9] [jA [jI p, jI q]] from rfl)) <| oA (oS hk_2) <| oA (oS (show AV.ren [9] (AV.dsl 0 (nd (p.natAbs * 10 ^ (q + 9).toNat))) = AV.dsl 9 (nd (p.natAbs * 10 ^ (q + 9).toNat)) from rfl)) <| oA (oS (show updOf [9] [] [] [AObj.flat true (ints .i64 (dg (p.natAbs * 10 ^ (q + 9).toNat)))] ++ List.map (fun x => x.ren [9]) (List.drop 0 [AObj.flat true (ints .i64 (dg (p.natAbs * 10 ^ (q + 9).toNat)))]) = [AObj.flat true (ints .i64 (dg (p.natAbs * 10 ^ (q + 9).toNat)))] from by simp only [updOf, AObj.owned, List.map_cons, List.map_nil, List.drop, AObj.ren, qzu, List.nil_append, List.cons_append, if_false, Bool.false_eq_true])) <| oA (oS (show [AV.dsl 8 (nd (n.natAbs * 10 ^ 9)), AV.dsl 9 (nd (p.natAbs * 10 ^ (q + 9).toNat))] = renL [8, 9] [AV.dsl 0 (nd (n.natAbs * 10 ^ 9)), AV.dsl 1 (nd (p.natAbs * 10 ^ (q + 9).toNat))] from rfl)) <| oA (oS (show Meets Try.prog 40 [AV.dsl 0 (nd (n.natAbs * 10 ^ 9)), AV.dsl 1 (nd (p.natAbs * 10 ^ (q + 9).toNat))] [AObj.flat false (ints .i64 (dg (n.natAbs * 10 ^ 9))), AObj.flat false (ints .i64 (dg (p.natAbs * 10 ^ (q + 9).toNat)))] (jB (decide ((n.natAbs * 10 ^ 9) < (p.natAbs * 10 ^ (q + 9).toNat)))) [AObj.flat false (ints .i64 (dg (n.natAbs * 10 ^ 9))), AObj.flat false (ints .i64 (dg (p.natAbs * 10 ^ (q + 9).toNat)))] from less_meets (n.natAbs * 10 ^ 9) (p.natAbs * 10 ^ (q + 9).toNat) (by omega) (by omega))) <| oA (oS (show Fits (AObj.flat true (ints .i64 (dg (n.natAbs * 10 ^ 9)))) (AObj.ren [8, 9] (AObj.flat false (ints .i64 (dg (n.natAbs * 10 ^ 9))))) from Fits.ints (by simp))) <| oA (oS (show Fits (AObj.flat true (ints .i64 (dg (p.natAbs * 10 ^ (q + 9).toNat)))) (AObj.ren [8, 9] (AObj.flat false (ints .i64 (dg (p.natAbs * 10 ^ (q + 9).toNat))))) from Fits.ints (by simp))) <| oA (oS (show AV.ren [8, 9] (jB (decide ((n.natAbs * 10 ^ 9) < (p.natAbs * 10 ^ (q + 9).toNat)))) = jB false from bF (by omega))) <| oA (oLw ([jI p, jI q]) (rfl)) <| oSw ([jI p, jI q]) ([jI 0, jI 0]) 23 (rfl) (rfl))
    (oA (oLw ([jI p, jI q]) (rfl)) <| oA (oS (@rfl _ (jT [jA [jI p, jI q], jI 0]))) <| oV (D := (fun n => decide (0 ≤ n))) (jT [jA [jI p, jI q], jI 0]) rfl) (by kernel_rfl)
theorem of_far (n : Int) (hn : -9223372036854775808 ≤ n ∧ n < 9223372036854775808) (p q x : Int) (hc : Meets Try.prog 36 [jB (decide (n < 0)), AV.dsl 0 (nd n.natAbs), AV.dsl 1 (nd 1)] [AObj.flat false (ints .i64 (dg n.natAbs)), AObj.flat false (ints .i64 (dg 1))] (jT [jA [jI p, jI q], jI x]) [AObj.flat false (ints .i64 (dg n.natAbs)), AObj.flat false (ints .i64 (dg 1))]) (hp : -999999999999999 ≤ p ∧ p ≤ 999999999999999) (hq : -9 ≤ q ∧ q ≤ 9) (hx : x = 0) (he : ¬ p.natAbs * 10 ^ (q + 9).toNat = n.natAbs * 10 ^ 9)  : Meets Try.prog 16 [jI n] [] (jT [jA [jI 0, jI 0], jI 10]) [] := by
  have na : nd n.natAbs ≤ 20 := nd_small (by omega)
  have np : nd p.natAbs ≤ 20 := nd_small (by omega)
  have n1 := nd_one
  have w1 : nd (n.natAbs * 10 ^ 9) ≤ nd n.natAbs + 9 := nd_pow
  have w2 : nd (p.natAbs * 10 ^ (q + 9).toNat) ≤ nd p.natAbs + (q + 9).toNat := nd_pow
  have hk_0 := (show Meets Try.prog 42 [jI n] [] (AV.dsl 0 (nd n.natAbs)) [AObj.flat true (ints .i64 (dg n.natAbs))] from digits_meets n (by omega) (by omega))
  have hk_1 := (show Meets Try.prog 38 [AV.dsl 0 (nd n.natAbs), jI 9] [AObj.flat false (ints .i64 (dg n.natAbs))] (AV.dsl 1 (nd (n.natAbs * 10 ^ 9))) [AObj.flat false (ints .i64 (dg n.natAbs)), AObj.flat true (ints .i64 (dg (n.natAbs * 10 ^ 9)))] from ten_nat n.natAbs 9 (by omega) (by omega))
  have hk_2 := (show Meets Try.prog 39 [jA [jI p, jI q]] [] (AV.dsl 0 (nd (p.natAbs * 10 ^ (q + 9).toNat))) [AObj.flat true (ints .i64 (dg (p.natAbs * 10 ^ (q + 9).toNat)))] from rwhole_meets p q (by omega) (by omega) (by omega))
  have o1 := oA (oS (show [jI n] = renL [1] [jI n] from rfl)) <| oA (oS hk_0) <| oA (oS (show AV.ren [1] (AV.dsl 0 (nd n.natAbs)) = AV.dsl 1 (nd n.natAbs) from rfl)) <| oA (oS (show updOf [1] [] [] [AObj.flat true (ints .i64 (dg n.natAbs))] ++ List.map (fun x => x.ren [1]) (List.drop 0 [AObj.flat true (ints .i64 (dg n.natAbs))]) = [AObj.flat true (ints .i64 (dg n.natAbs))] from by simp only [updOf, List.map_cons, List.map_nil, List.drop, AObj.ren, qzu, List.nil_append])) <| oA (oS (show ([jI 1] : List AV).length = 1 from rfl)) <| oA (oS (show 0 + 1 ≤ List.length (List.flatten (List.replicate 1 [jI 0])) from Nat.le_of_ble_eq_true rfl)) <| oA (oS (show List.length (List.take 0 (List.flatten (List.replicate 1 [jI 0])) ++ [jI 1] ++ List.drop 1 (List.flatten (List.replicate 1 [jI 0]))) = 1 * 1 from rfl)) <| oA (oS (show AObj.vec (List.take 0 (List.flatten (List.replicate 1 [jI 0])) ++ [jI 1] ++ List.drop 1 (List.flatten (List.replicate 1 [jI 0]))) 3 1 = AObj.vec (ints .i64 (dg 1)) 3 1 from by rw [dg_one]; rfl)) <| oA (oS (show [jB (decide (n < 0)), AV.dsl 1 (nd n.natAbs), AV.dsl 2 1] = renL [1, 2] [jB (decide (n < 0)), AV.dsl 0 (nd n.natAbs), AV.dsl 1 (nd 1)] from by simp only [renL, AV.ren, nd_one]; rfl)) <| oA (oS (show Meets Try.prog 36 [jB (decide (n < 0)), AV.dsl 0 (nd n.natAbs), AV.dsl 1 (nd 1)] [AObj.flat false (ints .i64 (dg n.natAbs)), AObj.flat false (ints .i64 (dg 1))] (jT [jA [jI p, jI q], jI x]) [AObj.flat false (ints .i64 (dg n.natAbs)), AObj.flat false (ints .i64 (dg 1))] from hc)) <| oA (oS (show Fits (AObj.flat true (ints .i64 (dg n.natAbs))) (AObj.ren [1, 2] (AObj.flat false (ints .i64 (dg n.natAbs)))) from Fits.ints (by simp))) <| oA (oS (show Fits (AObj.flat true (ints .i64 (dg 1))) (AObj.ren [1, 2] (AObj.flat false (ints .i64 (dg 1)))) from Fits.ints (by simp))) <| oA (oSw ([jI p, jI q]) ([jI 0, jI 0]) 23 (rfl) (rfl)) <| oA (oS (show AV.bool (x != 0) = jB false from neF hx)) <| oA (oLw ([jI p, jI q]) (rfl)) <| oA (oS (show [jA [jI p, jI q]] = renL [4] [jA [jI p, jI q]] from rfl)) <| oA (oS hk_2) <| oA (oS (show AV.ren [4] (AV.dsl 0 (nd (p.natAbs * 10 ^ (q + 9).toNat))) = AV.dsl 4 (nd (p.natAbs * 10 ^ (q + 9).toNat)) from rfl)) <| oA (oS (show updOf [4] [] [] [AObj.flat true (ints .i64 (dg (p.natAbs * 10 ^ (q + 9).toNat)))] ++ List.map (fun x => x.ren [4]) (List.drop 0 [AObj.flat true (ints .i64 (dg (p.natAbs * 10 ^ (q + 9).toNat)))]) = [AObj.flat true (ints .i64 (dg (p.natAbs * 10 ^ (q + 9).toNat)))] from by simp only [updOf, AObj.owned, List.map_cons, List.map_nil, List.drop, AObj.ren, qzu, List.nil_append, List.cons_append, if_false, Bool.false_eq_true])) <| oA (oS (show [jI n] = renL [5] [jI n] from rfl)) <| oA (oS hk_0) <| oA (oS (show AV.ren [5] (AV.dsl 0 (nd n.natAbs)) = AV.dsl 5 (nd n.natAbs) from rfl)) <| oA (oS (show updOf [5] [] [] [AObj.flat true (ints .i64 (dg n.natAbs))] ++ List.map (fun x => x.ren [5]) (List.drop 0 [AObj.flat true (ints .i64 (dg n.natAbs))]) = [AObj.flat true (ints .i64 (dg n.natAbs))] from by simp only [updOf, List.map_cons, List.map_nil, List.drop, AObj.ren, qzu, List.nil_append])) <| oA (oS (show [AV.dsl 5 (nd n.natAbs), jI 9] = renL [5, 6] [AV.dsl 0 (nd n.natAbs), jI 9] from rfl)) <| oA (oS hk_1) <| oA (oS (show Fits (AObj.flat true (ints .i64 (dg n.natAbs))) (AObj.ren [5, 6] (AObj.flat false (ints .i64 (dg n.natAbs)))) from Fits.ints (by simp))) <| oA (oS (show AV.ren [5, 6] (AV.dsl 1 (nd (n.natAbs * 10 ^ 9))) = AV.dsl 6 (nd (n.natAbs * 10 ^ 9)) from rfl)) <| oA (oS (show updOf [5, 6] [AObj.flat true (ints .i64 (dg n.natAbs))] [AObj.flat false (ints .i64 (dg n.natAbs))] [AObj.flat false (ints .i64 (dg n.natAbs)), AObj.flat true (ints .i64 (dg (n.natAbs * 10 ^ 9)))] ++ List.map (fun x => x.ren [5, 6]) (List.drop 1 [AObj.flat false (ints .i64 (dg n.natAbs)), AObj.flat true (ints .i64 (dg (n.natAbs * 10 ^ 9)))]) = [AObj.flat true (ints .i64 (dg n.natAbs)), AObj.flat true (ints .i64 (dg (n.natAbs * 10 ^ 9)))] from by simp only [updOf, AObj.owned, List.map_cons, List.map_nil, List.drop, AObj.ren, qzu, List.nil_append, List.cons_append, if_false, Bool.false_eq_true])) <| oA (oS (show [AV.dsl 4 (nd (p.natAbs * 10 ^ (q + 9).toNat)), AV.dsl 6 (nd (n.natAbs * 10 ^ 9))] = renL [4, 6] [AV.dsl 0 (nd (p.natAbs * 10 ^ (q + 9).toNat)), AV.dsl 1 (nd (n.natAbs * 10 ^ 9))] from rfl)) <| oA (oS (show Meets Try.prog 40 [AV.dsl 0 (nd (p.natAbs * 10 ^ (q + 9).toNat)), AV.dsl 1 (nd (n.natAbs * 10 ^ 9))] [AObj.flat false (ints .i64 (dg (p.natAbs * 10 ^ (q + 9).toNat))), AObj.flat false (ints .i64 (dg (n.natAbs * 10 ^ 9)))] (jB (decide ((p.natAbs * 10 ^ (q + 9).toNat) < (n.natAbs * 10 ^ 9)))) [AObj.flat false (ints .i64 (dg (p.natAbs * 10 ^ (q + 9).toNat))), AObj.flat false (ints .i64 (dg (n.natAbs * 10 ^ 9)))] from less_meets (p.natAbs * 10 ^ (q + 9).toNat) (n.natAbs * 10 ^ 9) (by omega) (by omega))) <| oA (oS (show Fits (AObj.flat true (ints .i64 (dg (p.natAbs * 10 ^ (q + 9).toNat)))) (AObj.ren [4, 6] (AObj.flat false (ints .i64 (dg (p.natAbs * 10 ^ (q + 9).toNat))))) from Fits.ints (by simp))) <| oS (show Fits (AObj.flat true (ints .i64 (dg (n.natAbs * 10 ^ 9)))) (AObj.ren [4, 6] (AObj.flat false (ints .i64 (dg (n.natAbs * 10 ^ 9))))) from Fits.ints (by simp))
  let q1 : List Orc := [rG [hhN 0 0], rG [(3, {call := some ⟨[1], [jI n], [], AV.dsl 0 (nd n.natAbs), [AObj.flat true (ints .i64 (dg n.natAbs))]⟩, val := some (AV.dsl 1 (nd n.natAbs)), obj := some [AObj.flat true (ints .i64 (dg n.natAbs))]}), (4, {nm := [2], obj := some [AObj.vec (ints .i64 (dg 1)) 3 1], view := 4}), (5, {call := some ⟨[1, 2], [jB (decide (n < 0)), AV.dsl 0 (nd n.natAbs), AV.dsl 1 (nd 1)], [AObj.flat false (ints .i64 (dg n.natAbs)), AObj.flat false (ints .i64 (dg 1))], jT [jA [jI p, jI q], jI x], [AObj.flat false (ints .i64 (dg n.natAbs)), AObj.flat false (ints .i64 (dg 1))]⟩}), hhN 9 3, (10, {obj := some [jC [jI p, jI q] 23]})]]
  by_cases c2 : (p.natAbs * 10 ^ (q + 9).toNat) < (n.natAbs * 10 ^ 9)
  · exact qzy (fn := Try.f16) 12 (q1 ++ [rG [hhB 1 false, hhV 3 (jA [jI p, jI q]), (4, {call := some ⟨[4], [jA [jI p, jI q]], [], AV.dsl 0 (nd (p.natAbs * 10 ^ (q + 9).toNat)), [AObj.flat true (ints .i64 (dg (p.natAbs * 10 ^ (q + 9).toNat)))]⟩, val := some (AV.dsl 4 (nd (p.natAbs * 10 ^ (q + 9).toNat))), obj := some [AObj.flat true (ints .i64 (dg (p.natAbs * 10 ^ (q + 9).toNat)))]}), (6, {call := some ⟨[5], [jI n], [], AV.dsl 0 (nd n.natAbs), [AObj.flat true (ints .i64 (dg n.natAbs))]⟩, val := some (AV.dsl 5 (nd n.natAbs)), obj := some [AObj.flat true (ints .i64 (dg n.natAbs))]}), (7, {call := some ⟨[5, 6], [AV.dsl 0 (nd n.natAbs), jI 9], [AObj.flat false (ints .i64 (dg n.natAbs))], AV.dsl 1 (nd (n.natAbs * 10 ^ 9)), [AObj.flat false (ints .i64 (dg n.natAbs)), AObj.flat true (ints .i64 (dg (n.natAbs * 10 ^ 9)))]⟩, val := some (AV.dsl 6 (nd (n.natAbs * 10 ^ 9))), obj := some [AObj.flat true (ints .i64 (dg n.natAbs)), AObj.flat true (ints .i64 (dg (n.natAbs * 10 ^ 9)))]}), (8, {call := some ⟨[4, 6], [AV.dsl 0 (nd (p.natAbs * 10 ^ (q + 9).toNat)), AV.dsl 1 (nd (n.natAbs * 10 ^ 9))], [AObj.flat false (ints .i64 (dg (p.natAbs * 10 ^ (q + 9).toNat))), AObj.flat false (ints .i64 (dg (n.natAbs * 10 ^ 9)))], jB (decide ((p.natAbs * 10 ^ (q + 9).toNat) < (n.natAbs * 10 ^ 9))), [AObj.flat false (ints .i64 (dg (p.natAbs * 10 ^ (q + 9).toNat))), AObj.flat false (ints .i64 (dg (n.natAbs * 10 ^ 9)))]⟩, val := some (jB true)})], rG [(1, {obj := some [jC [jI 0, jI 0] 23]})]]) [{val := some (jA [jI 0, jI 0])}, {}] Try.func16 (by kernel_rfl) Try.call16
      (oA o1 <| oA (oS (bT c2)) <| oSw ([jI 0, jI 0]) ([jI 0, jI 0]) 23 (rfl) (rfl))
      (oA (oLw ([jI 0, jI 0]) (rfl)) <| oA (oS (@rfl _ (jT [jA [jI 0, jI 0], jI 10]))) <| oV (D := (fun n => decide (0 ≤ n))) (jT [jA [jI 0, jI 0], jI 10]) rfl) (by kernel_rfl)
  · exact qzy (fn := Try.f16) 12 (q1 ++ [rG [hhB 1 false, hhV 3 (jA [jI p, jI q]), (4, {call := some ⟨[4], [jA [jI p, jI q]], [], AV.dsl 0 (nd (p.natAbs * 10 ^ (q + 9).toNat)), [AObj.flat true (ints .i64 (dg (p.natAbs * 10 ^ (q + 9).toNat)))]⟩, val := some (AV.dsl 4 (nd (p.natAbs * 10 ^ (q + 9).toNat))), obj := some [AObj.flat true (ints .i64 (dg (p.natAbs * 10 ^ (q + 9).toNat)))]}), (6, {call := some ⟨[5], [jI n], [], AV.dsl 0 (nd n.natAbs), [AObj.flat true (ints .i64 (dg n.natAbs))]⟩, val := some (AV.dsl 5 (nd n.natAbs)), obj := some [AObj.flat true (ints .i64 (dg n.natAbs))]}), (7, {call := some ⟨[5, 6], [AV.dsl 0 (nd n.natAbs), jI 9], [AObj.flat false (ints .i64 (dg n.natAbs))], AV.dsl 1 (nd (n.natAbs * 10 ^ 9)), [AObj.flat false (ints .i64 (dg n.natAbs)), AObj.flat true (ints .i64 (dg (n.natAbs * 10 ^ 9)))]⟩, val := some (AV.dsl 6 (nd (n.natAbs * 10 ^ 9))), obj := some [AObj.flat true (ints .i64 (dg n.natAbs)), AObj.flat true (ints .i64 (dg (n.natAbs * 10 ^ 9)))]}), (8, {call := some ⟨[4, 6], [AV.dsl 0 (nd (p.natAbs * 10 ^ (q + 9).toNat)), AV.dsl 1 (nd (n.natAbs * 10 ^ 9))], [AObj.flat false (ints .i64 (dg (p.natAbs * 10 ^ (q + 9).toNat))), AObj.flat false (ints .i64 (dg (n.natAbs * 10 ^ 9)))], jB (decide ((p.natAbs * 10 ^ (q + 9).toNat) < (n.natAbs * 10 ^ 9))), [AObj.flat false (ints .i64 (dg (p.natAbs * 10 ^ (q + 9).toNat))), AObj.flat false (ints .i64 (dg (n.natAbs * 10 ^ 9)))]⟩, val := some (jB false)}), (12, {call := some ⟨[7], [jI n], [], AV.dsl 0 (nd n.natAbs), [AObj.flat true (ints .i64 (dg n.natAbs))]⟩, val := some (AV.dsl 7 (nd n.natAbs)), obj := some [AObj.flat true (ints .i64 (dg n.natAbs))]}), (13, {call := some ⟨[7, 8], [AV.dsl 0 (nd n.natAbs), jI 9], [AObj.flat false (ints .i64 (dg n.natAbs))], AV.dsl 1 (nd (n.natAbs * 10 ^ 9)), [AObj.flat false (ints .i64 (dg n.natAbs)), AObj.flat true (ints .i64 (dg (n.natAbs * 10 ^ 9)))]⟩, val := some (AV.dsl 8 (nd (n.natAbs * 10 ^ 9))), obj := some [AObj.flat true (ints .i64 (dg n.natAbs)), AObj.flat true (ints .i64 (dg (n.natAbs * 10 ^ 9)))]}), hhV 14 (jA [jI p, jI q]), (15, {call := some ⟨[9], [jA [jI p, jI q]], [], AV.dsl 0 (nd (p.natAbs * 10 ^ (q + 9).toNat)), [AObj.flat true (ints .i64 (dg (p.natAbs * 10 ^ (q + 9).toNat)))]⟩, val := some (AV.dsl 9 (nd (p.natAbs * 10 ^ (q + 9).toNat))), obj := some [AObj.flat true (ints .i64 (dg (p.natAbs * 10 ^ (q + 9).toNat)))]}), (16, {call := some ⟨[8, 9], [AV.dsl 0 (nd (n.natAbs * 10 ^ 9)), AV.dsl 1 (nd (p.natAbs * 10 ^ (q + 9).toNat))], [AObj.flat false (ints .i64 (dg (n.natAbs * 10 ^ 9))), AObj.flat false (ints .i64 (dg (p.natAbs * 10 ^ (q + 9).toNat)))], jB (decide ((n.natAbs * 10 ^ 9) < (p.natAbs * 10 ^ (q + 9).toNat))), [AObj.flat false (ints .i64 (dg (n.natAbs * 10 ^ 9))), AObj.flat false (ints .i64 (dg (p.natAbs * 10 ^ (q + 9).toNat)))]⟩, val := some (jB true)})], rG [(1, {obj := some [jC [jI 0, jI 0] 23]})]]) [{val := some (jA [jI 0, jI 0])}, {}] Try.func16 (by kernel_rfl) Try.call16
      (oA o1 <| oA (oS (bF c2)) <| oA (oS (show [jI n] = renL [7] [jI n] from rfl)) <| oA (oS hk_0) <| oA (oS (show AV.ren [7] (AV.dsl 0 (nd n.natAbs)) = AV.dsl 7 (nd n.natAbs) from rfl)) <| oA (oS (show updOf [7] [] [] [AObj.flat true (ints .i64 (dg n.natAbs))] ++ List.map (fun x => x.ren [7]) (List.drop 0 [AObj.flat true (ints .i64 (dg n.natAbs))]) = [AObj.flat true (ints .i64 (dg n.natAbs))] from by simp only [updOf, List.map_cons, List.map_nil, List.drop, AObj.ren, qzu, List.nil_append])) <| oA (oS (show [AV.dsl 7 (nd n.natAbs), jI 9] = renL [7, 8] [AV.dsl 0 (nd n.natAbs), jI 9] from rfl)) <| oA (oS hk_1) <| oA (oS (show Fits (AObj.flat true (ints .i64 (dg n.natAbs))) (AObj.ren [7, 8] (AObj.flat false (ints .i64 (dg n.natAbs)))) from Fits.ints (by simp))) <| oA (oS (show AV.ren [7, 8] (AV.dsl 1 (nd (n.natAbs * 10 ^ 9))) = AV.dsl 8 (nd (n.natAbs * 10 ^ 9)) from rfl)) <| oA (oS (show updOf [7, 8] [AObj.flat true (ints .i64 (dg n.natAbs))] [AObj.flat false (ints .i64 (dg n.natAbs))] [AObj.flat false (ints .i64 (dg n.natAbs)), AObj.flat true (ints .i64 (dg (n.natAbs * 10 ^ 9)))] ++ List.map (fun x => x.ren [7, 8]) (List.drop 1 [AObj.flat false (ints .i64 (dg n.natAbs)), AObj.flat true (ints .i64 (dg (n.natAbs * 10 ^ 9)))]) = [AObj.flat true (ints .i64 (dg n.natAbs)), AObj.flat true (ints .i64 (dg (n.natAbs * 10 ^ 9)))] from by simp only [updOf, AObj.owned, List.map_cons, List.map_nil, List.drop, AObj.ren, qzu, List.nil_append, List.cons_append, if_false, Bool.false_eq_true])) <| oA (oLw ([jI p, jI q]) (rfl)) <| oA (oS (show [jA [jI p, jI q]] = renL [9] [jA [jI p, jI q]] from rfl)) <| oA (oS hk_2) <| oA (oS (show AV.ren [9] (AV.dsl 0 (nd (p.natAbs * 10 ^ (q + 9).toNat))) = AV.dsl 9 (nd (p.natAbs * 10 ^ (q + 9).toNat)) from rfl)) <| oA (oS (show updOf [9] [] [] [AObj.flat true (ints .i64 (dg (p.natAbs * 10 ^ (q + 9).toNat)))] ++ List.map (fun x => x.ren [9]) (List.drop 0 [AObj.flat true (ints .i64 (dg (p.natAbs * 10 ^ (q + 9).toNat)))]) = [AObj.flat true (ints .i64 (dg (p.natAbs * 10 ^ (q + 9).toNat)))] from by simp only [updOf, AObj.owned, List.map_cons, List.map_nil, List.drop, AObj.ren, qzu, List.nil_append, List.cons_append, if_false, Bool.false_eq_true])) <| oA (oS (show [AV.dsl 8 (nd (n.natAbs * 10 ^ 9)), AV.dsl 9 (nd (p.natAbs * 10 ^ (q + 9).toNat))] = renL [8, 9] [AV.dsl 0 (nd (n.natAbs * 10 ^ 9)), AV.dsl 1 (nd (p.natAbs * 10 ^ (q + 9).toNat))] from rfl)) <| oA (oS (show Meets Try.prog 40 [AV.dsl 0 (nd (n.natAbs * 10 ^ 9)), AV.dsl 1 (nd (p.natAbs * 10 ^ (q + 9).toNat))] [AObj.flat false (ints .i64 (dg (n.natAbs * 10 ^ 9))), AObj.flat false (ints .i64 (dg (p.natAbs * 10 ^ (q + 9).toNat)))] (jB (decide ((n.natAbs * 10 ^ 9) < (p.natAbs * 10 ^ (q + 9).toNat)))) [AObj.flat false (ints .i64 (dg (n.natAbs * 10 ^ 9))), AObj.flat false (ints .i64 (dg (p.natAbs * 10 ^ (q + 9).toNat)))] from less_meets (n.natAbs * 10 ^ 9) (p.natAbs * 10 ^ (q + 9).toNat) (by omega) (by omega))) <| oA (oS (show Fits (AObj.flat true (ints .i64 (dg (n.natAbs * 10 ^ 9)))) (AObj.ren [8, 9] (AObj.flat false (ints .i64 (dg (n.natAbs * 10 ^ 9))))) from Fits.ints (by simp))) <| oA (oS (show Fits (AObj.flat true (ints .i64 (dg (p.natAbs * 10 ^ (q + 9).toNat)))) (AObj.ren [8, 9] (AObj.flat false (ints .i64 (dg (p.natAbs * 10 ^ (q + 9).toNat))))) from Fits.ints (by simp))) <| oA (oS (show AV.ren [8, 9] (jB (decide ((n.natAbs * 10 ^ 9) < (p.natAbs * 10 ^ (q + 9).toNat)))) = jB true from bT (by omega))) <| oSw ([jI 0, jI 0]) ([jI 0, jI 0]) 23 (rfl) (rfl))
      (oA (oLw ([jI 0, jI 0]) (rfl)) <| oA (oS (@rfl _ (jT [jA [jI 0, jI 0], jI 10]))) <| oV (D := (fun n => decide (0 ≤ n))) (jT [jA [jI 0, jI 0], jI 10]) rfl) (by kernel_rfl)
end Go.Proofs.Ytmgiefeggkikcaa.Rr
namespace Go.Proofs.Ytmgiefeggkikcaa
open Go Sx Rf Dc Rr
theorem near_exact (mx : Bool) {v N M : Nat} (hM : 0 < M) (h : v * M = N * 10 ^ 40) (hv : v < 10 ^ 88) : nearM mx (digs 88 ((v : Nat) : Int)) = nearD mx N M ∧ nearE (digs 88 ((v : Nat) : Int)) = nearX N M :=
  near_bridge mx fun j hj => by
    have := even_rnd (n := v) (b := 1) (T := 31 + j) (g := 1) (by decide) (by omega) (by omega) (Nat.one_dvd _) (Nat.one_dvd _) (by decide) (by rw [Nat.div_one]; exact hv)
    rw [Nat.div_one] at this
    rw [show 57 - j = 88 - (31 + j) by omega, this]
    congr 1
    refine rnd_ratio (by rw [Nat.one_mul]; exact Nat.pow_pos (by decide)) (Nat.mul_pos hM (Nat.pow_pos (by decide))) ?_
    unfold nE dE
    rw [← Nat.mul_assoc, h, Nat.one_mul, Nat.mul_assoc, Nat.mul_assoc, ← Nat.pow_add, ← Nat.pow_add]
    congr 2
    omega
theorem nearV_exact {v : Int} {mx : Bool} {N M : Nat} (hM : 0 < M) (h : v.natAbs * M = N * 10 ^ 40) (hv : v.natAbs < 10 ^ 88) (hs : v ≠ 0 → mx = decide (v < 0)) : nearV v = ((nearD mx N M).1, (nearD mx N M).2, nearX N M) := by
  have k := near_exact mx hM h hv
  unfold nearV
  rw [← near_sign hs, k.1, k.2]
theorem sV31 {m e : Int} (h : qzz m e = true) : ∃ X : Int, sV m e = X * 10 ^ 31 ∧ X.natAbs = m.natAbs * 10 ^ (e + 9).toNat ∧ (X < 0 ↔ m < 0) ∧ (X = 0 ↔ m = 0) ∧ X.natAbs < 10 ^ 33 := by
  obtain ⟨⟨a1, a2⟩, a3, a4⟩ := qyy h
  have hp := pow_pos' (e + 9).toNat
  refine ⟨m * 10 ^ (e + 9).toNat, ?_, ?_, ?_, ?_, ?_⟩
  · unfold sV
    rw [Int.mul_assoc, ← Int.pow_add]
    congr 2; omega
  · rw [Int.natAbs_mul, Int.natAbs_pow]; rfl
  · constructor
    · intro c
      rcases Int.lt_or_le m 0 with k | k
      · exact k
      · have := Int.mul_nonneg k (Int.le_of_lt hp); omega
    · intro c; exact Int.mul_neg_of_neg_of_pos c hp
  · constructor
    · intro c; rcases Int.mul_eq_zero.1 c with k | k
      · exact k
      · omega
    · intro c; rw [c, Int.zero_mul]
  · rw [Int.natAbs_mul, Int.natAbs_pow]
    have y1 : ((10 : Int).natAbs) ^ (e + 9).toNat ≤ 10 ^ 18 := Nat.pow_le_pow_right (by decide) (by omega)
    have x1 : m.natAbs ≤ 10 ^ 15 - 1 := by omega
    have := Nat.mul_le_mul x1 y1
    have e2 : (10 ^ 15 - 1) * 10 ^ 18 < 10 ^ 33 := by decide
    omega
theorem mul31 (Z : Int) : (Z * 10 ^ 31).natAbs * (1 * 10 ^ 9) = Z.natAbs * 10 ^ 40 := by
  rw [Int.natAbs_mul, Int.natAbs_pow, Nat.one_mul, Nat.mul_assoc]; rfl
theorem lt88 {Z : Int} (h : Z.natAbs < 10 ^ 34) : (Z * 10 ^ 31).natAbs < 10 ^ 88 := by
  rw [Int.natAbs_mul, Int.natAbs_pow]
  have : Z.natAbs * (10 : Int).natAbs ^ 31 < 10 ^ 34 * 10 ^ 31 := Nat.mul_lt_mul_of_pos_right h (Nat.pow_pos (by decide))
  have e2 : (10 : Nat) ^ 34 * 10 ^ 31 < 10 ^ 88 := by decide
  omega
theorem neg31 {Z : Int} : (Z * 10 ^ 31 < 0) ↔ Z < 0 := by
  have hp : (0 : Int) < 10 ^ 31 := by decide
  constructor
  · intro c
    rcases Int.lt_or_le Z 0 with k | k
    · exact k
    · have := Int.mul_nonneg k (Int.le_of_lt hp); omega
  · intro c; exact Int.mul_neg_of_neg_of_pos c hp
theorem near31 {Z : Int} {mx : Bool} {N : Nat} (hZ : Z.natAbs < 10 ^ 34) (hN : Z.natAbs = N) (hs : Z ≠ 0 → mx = decide (Z < 0)) : nearV (Z * 10 ^ 31) = ((nearD mx N (1 * 10 ^ 9)).1, (nearD mx N (1 * 10 ^ 9)).2, nearX N (1 * 10 ^ 9)) :=
  nearV_exact (by decide) (by rw [mul31, hN]) (lt88 hZ) (fun h => by rw [hs (fun e => h (by rw [e, Int.zero_mul]))]; exact decide_eq_decide.2 neg31.symm)
theorem r3_eq (x y z : Int) : R3 (x, y, z) = .tuple [.agg [.int .i64 x, .int .i64 y], .int .i64 z] := rfl
theorem radd_any (am ae bm be : Int) : Meets Try.prog 43 [.agg [.int .i64 am, .int .i64 ae], .agg [.int .i64 bm, .int .i64 be]] [] (R3 (addR am ae bm be)) [] := by
  by_cases h : qzz am ae = true ∧ qzz bm be = true
  · obtain ⟨X, x1, x2, x3, x4, x5⟩ := sV31 h.1
    obtain ⟨Y, y1, y2, y3, y4, y5⟩ := sV31 h.2
    have hv : addR am ae bm be = nearV ((X + Y) * 10 ^ 31) := by unfold addR; rw [if_pos h, x1, y1, ← Int.add_mul]
    rw [hv]
    by_cases c1 : am < 0 ↔ bm < 0
    · rw [near31 (mx := decide (am < 0)) (N := (am.natAbs * 10 ^ (ae + 9).toNat) + (bm.natAbs * 10 ^ (be + 9).toNat)) (by omega) (by omega) (fun _ => decide_eq_decide.2 (by omega)), r3_eq]
      exact Rr.add_same am ae bm be h.1 h.2 c1
    · have c2 : am < 0 ↔ ¬ bm < 0 := by
        constructor
        · intro a b; exact c1 ⟨fun _ => b, fun _ => a⟩
        · intro b
          rcases Int.lt_or_le am 0 with k | k
          · exact k
          · exact absurd ⟨fun a => by omega, fun a => absurd a b⟩ c1
      by_cases c3 : (am.natAbs * 10 ^ (ae + 9).toNat) < (bm.natAbs * 10 ^ (be + 9).toNat)
      · rw [near31 (mx := decide (bm < 0)) (N := (bm.natAbs * 10 ^ (be + 9).toNat) - (am.natAbs * 10 ^ (ae + 9).toNat)) (by omega) (by omega) (fun _ => decide_eq_decide.2 (by omega)), r3_eq]
        exact Rr.add_less am ae bm be h.1 h.2 c2 c3
      · rw [near31 (mx := decide (am < 0)) (N := (am.natAbs * 10 ^ (ae + 9).toNat) - (bm.natAbs * 10 ^ (be + 9).toNat)) (by omega) (by omega) (fun _ => decide_eq_decide.2 (by omega)), r3_eq]
        exact Rr.add_more am ae bm be h.1 h.2 c2 c3
  · unfold addR; rw [if_neg h, bad3, r3_eq]; exact Rr.add_bad am ae bm be h
theorem right_opp {m e : Int} : qzz (-m) e = qzz m e := by
  unfold qzz
  rw [Int.neg_tmod]
  exact decide_eq_decide.2 (by omega)
theorem rsub_any (am ae bm be : Int) : Meets Try.prog 44 [.agg [.int .i64 am, .int .i64 ae], .agg [.int .i64 bm, .int .i64 be]] [] (R3 (subR am ae bm be)) [] := by
  by_cases hB : qzz bm be = true
  · have e : subR am ae bm be = addR am ae (-bm) be := by
      unfold subR addR; rw [right_opp, sV_neg', ← Int.sub_eq_add_neg]
    rw [e]
    have := radd_any am ae (-bm) be
    generalize addR am ae (-bm) be = t at this
    obtain ⟨p, q, x⟩ := t
    exact Rr.sub_ok am ae bm be hB p q x this
  · unfold subR; rw [if_neg (fun h => hB h.2), bad3, r3_eq]; exact Rr.sub_bad am ae bm be hB
theorem rev_dN : ∀ (n : Nat) (l : List Int), l.length = n → Dig l → l.reverse = dN n (val l).toNat
  | 0, l, hl, hd => by
    cases l with
    | nil => rfl
    | cons a l => simp at hl
  | n + 1, l, hl, hd => by
    obtain ⟨l', d, rfl⟩ : ∃ l' d, l = l' ++ [d] := by
      have hne : l ≠ [] := by intro e; subst e; simp at hl
      exact ⟨l.dropLast, l.getLast hne, (List.dropLast_concat_getLast hne).symm⟩
    have h9 : 0 ≤ d ∧ d ≤ 9 := hd d (by simp)
    have hv := val_bounds l' hd.left
    rw [List.reverse_append, val_snoc, dN_cons, rev_dN n l' (by simpa using hl) hd.left]
    have e1 : (val l' * 10 + d).toNat % 10 = d.toNat := by omega
    have e2 : (val l' * 10 + d).toNat / 10 = (val l').toNat := by omega
    rw [e1, e2]
    simp only [List.reverse_cons, List.reverse_nil, List.nil_append, List.singleton_append, List.cons.injEq, and_true]
    omega
theorem near_read {s : List UInt8} (h : okW s = true) (mx : Bool) : nearM mx (digs 88 (wrS s)) = nearD mx (rdN (bodyS s)) (1 * 10 ^ frcN (bodyS s)) ∧ nearE (digs 88 (wrS s)) = nearX (rdN (bodyS s)) (1 * 10 ^ frcN (bodyS s)) ∧ 0 ≤ wrS s ∧ wrS s < 10 ^ 88 := by
  have hr : refOK (bodyS s) = true := by rw [refOK_eq]; exact h
  obtain ⟨h1, h2, h3, h4, h5, h6, h7⟩ := rd_spec hr
  have hv : wrS s = wrV (wholeS (bodyS s)) (partS (bodyS s)) := rfl
  rw [← hv] at h2
  have hp := pow_pos' (frcN (bodyS s))
  have h0 : 0 ≤ wrS s := by
    rcases Int.lt_or_le (wrS s) 0 with c | c
    · have := Int.mul_neg_of_neg_of_pos c hp
      have h8 : (0 : Int) ≤ ((rdN (bodyS s) : Nat) : Int) * 10 ^ 40 := Int.mul_nonneg (by omega) (by decide)
      omega
    · exact c
  obtain ⟨v, hvv⟩ : ∃ v : Nat, wrS s = (v : Int) := ⟨(wrS s).toNat, by omega⟩
  have hN : v * (1 * 10 ^ frcN (bodyS s)) = rdN (bodyS s) * 10 ^ 40 := by
    rw [hvv] at h2
    rw [Nat.one_mul]
    have : ((v * 10 ^ frcN (bodyS s) : Nat) : Int) = ((rdN (bodyS s) * 10 ^ 40 : Nat) : Int) := by
      rw [Int.natCast_mul, Int.natCast_mul, Int.natCast_pow, Int.natCast_pow]; exact h2
    exact Int.ofNat.inj this
  have h88 : v < 10 ^ 88 := by
    have hw := text_forms hr
    have : wrS s < 10 ^ 88 := by
      rcases hw with hw | ⟨w, p, e, g1, g2⟩
      · obtain ⟨w1, w2, w3⟩ := isDigs_iff.1 hw
        obtain ⟨e1, e2, e3⟩ := whole_plain w3
        rw [hv, e1, e2]
        unfold wrV
        have hb := (val_bounds _ (bytesD_dig w3)).2
        rw [bytesD_length] at hb
        have hb2 : val (bytesD (bodyS s)) < 10 ^ 40 := Int.lt_of_lt_of_le hb (pow_mono w2)
        have : val (bytesD []) = 0 := by simp [bytesD, val]
        rw [this, Int.zero_mul]
        omega
      · obtain ⟨w1, w2, w3⟩ := isDigs_iff.1 g1
        obtain ⟨p1, p2, p3⟩ := isDigs_iff.1 g2
        obtain ⟨e1, e2⟩ := whole_point (p := p) w3
        rw [hv, e, e1, e2]
        unfold wrV
        have hb := (val_bounds _ (bytesD_dig w3)).2
        have hc := (val_bounds _ (bytesD_dig p3)).2
        rw [bytesD_length] at hb hc
        have hb2 : val (bytesD w) < 10 ^ 40 := Int.lt_of_lt_of_le hb (pow_mono w2)
        have hc2 : val (bytesD p) * 10 ^ (40 - p.length) < 10 ^ p.length * 10 ^ (40 - p.length) := Int.mul_lt_mul_of_pos_right hc (pow_pos' _)
        rw [← Int.pow_add, show p.length + (40 - p.length) = 40 by omega] at hc2
        omega
    rw [hvv] at this
    refine Int.ofNat_lt.1 ?_
    rw [Int.natCast_pow]
    exact this
  have key := near_exact mx (N := rdN (bodyS s)) (M := 1 * 10 ^ frcN (bodyS s)) (by rw [Nat.one_mul]; exact Nat.pow_pos (by decide)) hN h88
  rw [hvv]
  have h88' := Int.ofNat_lt.2 h88
  rw [Int.natCast_pow] at h88'
  exact ⟨key.1, key.2, by omega, h88'⟩
theorem digs_inj {a b : Int} (ha : 0 ≤ a ∧ a < 10 ^ 88) (hb : 0 ≤ b ∧ b < 10 ^ 88) : digs 88 a = digs 88 b ↔ a = b :=
  ⟨fun h => by rw [← val_digs 88 a ha.1 ha.2, h, val_digs 88 b hb.1 hb.2], fun h => by rw [h]⟩
theorem aV_nat {m e : Int} (he : -9 ≤ e) : aV m e = ((m.natAbs * 10 ^ (e + 9).toNat * 10 ^ 31 : Nat) : Int) := by
  unfold aV
  rw [show (e + 40).toNat = (e + 9).toNat + 31 by omega, Int.pow_add, ← Int.mul_assoc, Int.natCast_mul, Int.natCast_mul, Int.natCast_pow, Int.natCast_pow]
  rfl
theorem read_exact {s : List UInt8} (h : okW s = true) {p q : Int} (hp : -1000000000000000 < p ∧ p < 1000000000000000) (hq : -9 ≤ q ∧ q ≤ 9) :
    digs 88 (aV p q) = digs 88 (wrS s) ↔ p.natAbs * 10 ^ (q + 9).toNat * 10 ^ frcN (bodyS s) = rdN (bodyS s) * 10 ^ 9 := by
  obtain ⟨_, _, n0, n88⟩ := near_read h false
  have hr : refOK (bodyS s) = true := by rw [refOK_eq]; exact h
  obtain ⟨h1, h2, h3, h4, h5, h6, h7⟩ := rd_spec hr
  have hv : wrS s = wrV (wholeS (bodyS s)) (partS (bodyS s)) := rfl
  rw [← hv] at h2
  have ha := aV_nat (m := p) (e := q) hq.1
  generalize hX : p.natAbs * 10 ^ (q + 9).toNat = X at *
  have hX88 : X * 10 ^ 31 < 10 ^ 88 := by
    have y1 : 10 ^ (q + 9).toNat ≤ 10 ^ 18 := Nat.pow_le_pow_right (by decide) (by omega)
    have x1 : p.natAbs ≤ 10 ^ 15 := by omega
    have := Nat.mul_le_mul x1 y1
    have e2 : 10 ^ 15 * 10 ^ 18 * 10 ^ 31 < 10 ^ 88 := by decide
    have := Nat.mul_le_mul_right (10 ^ 31) this
    rw [hX] at this
    exact Nat.lt_of_le_of_lt this e2
  have a0 : 0 ≤ aV p q := by rw [ha]; omega
  have a88 : aV p q < 10 ^ 88 := by
    rw [ha]
    have := Int.ofNat_lt.2 hX88
    rw [Int.natCast_pow] at this
    exact this
  rw [digs_inj ⟨a0, a88⟩ ⟨n0, n88⟩]
  obtain ⟨v, hvv⟩ : ∃ v : Nat, wrS s = (v : Int) := ⟨(wrS s).toNat, by omega⟩
  generalize frcN (bodyS s) = m at *
  generalize rdN (bodyS s) = N at *
  have hN : v * 10 ^ m = N * 10 ^ 40 := by
    rw [hvv] at h2
    have : ((v * 10 ^ m : Nat) : Int) = ((N * 10 ^ 40 : Nat) : Int) := by
      rw [Int.natCast_mul, Int.natCast_mul, Int.natCast_pow, Int.natCast_pow]; exact h2
    exact Int.ofNat.inj this
  rw [ha, hvv]
  have p31 : 0 < 10 ^ 31 := by decide
  have pm : 0 < 10 ^ m := Nat.pow_pos (by decide)
  have e40 : N * 10 ^ 40 = N * 10 ^ 9 * 10 ^ 31 := by rw [Nat.mul_assoc]
  constructor
  · intro e
    have e : X * 10 ^ 31 = v := Int.ofNat.inj e
    rw [← e, e40, Nat.mul_right_comm] at hN
    exact Nat.eq_of_mul_eq_mul_right p31 hN
  · intro e
    have : X * 10 ^ 31 * 10 ^ m = v * 10 ^ m := by rw [hN, e40, ← e, Nat.mul_right_comm]
    rw [Nat.eq_of_mul_eq_mul_right pm this]
def rdRef (s : List UInt8) : Int × Int × Int :=
  if refOK (bodyS s) = true then
    (if nearX (rdN (bodyS s)) (1 * 10 ^ frcN (bodyS s)) = 0 ∧ (nearD (qzv s) (rdN (bodyS s)) (1 * 10 ^ frcN (bodyS s))).1.natAbs * 10 ^ ((nearD (qzv s) (rdN (bodyS s)) (1 * 10 ^ frcN (bodyS s))).2 + 9).toNat * 10 ^ frcN (bodyS s) = rdN (bodyS s) * 10 ^ 9
      then ((nearD (qzv s) (rdN (bodyS s)) (1 * 10 ^ frcN (bodyS s))).1, (nearD (qzv s) (rdN (bodyS s)) (1 * 10 ^ frcN (bodyS s))).2, 0) else bad3)
  else (0, 0, 12)
theorem rdRef_eq (s : List UInt8) : rdRef s = readR s := by
  unfold rdRef readR
  by_cases h : okW s = true
  · have hr : refOK (bodyS s) = true := by rw [refOK_eq]; exact h
    obtain ⟨g1, g2, _, _⟩ := near_read h (qzv s)
    have hb := nearM_bounds (digs_dig 88 (wrS s)) (qzv s)
    rw [if_pos hr, if_pos h, ← g1, ← g2]
    have := read_exact h (p := (nearM (qzv s) (digs 88 (wrS s))).1) (q := (nearM (qzv s) (digs 88 (wrS s))).2) hb.1 hb.2
    simp only [this]
  · have hr : ¬ refOK (bodyS s) = true := by rw [refOK_eq]; exact h
    rw [if_neg hr, if_neg h]
def rdf (mx : Bool) (N K m : Nat) (p q x : Int) : RdF where
  TR := fun l k => nd N
  okTR := fun l k => decide (k = K ∧ l = dN K N)
  UN := fun n => dg (1 * 10 ^ m)
  kUN := fun n => nd (1 * 10 ^ m)
  okUN := fun n => decide (n = (m : Int))
  NE := fun b l k l1 k1 => (p, q, x)
  okNE := fun b l k l1 k1 => decide (b = mx ∧ l = dN K N ∧ k = nd N ∧ l1 = dg (1 * 10 ^ m) ∧ k1 = nd (1 * 10 ^ m))
  WH := fun a b => dg (p.natAbs * 10 ^ (q + 9).toNat)
  kWH := fun a b => nd (p.natAbs * 10 ^ (q + 9).toNat)
  okWH := fun a b => decide (a = p ∧ b = q)
  TE := fun l k n => dg (numL (l.take k) * 10 ^ n.toNat)
  kTE := fun l k n => nd (numL (l.take k) * 10 ^ n.toNat)
  okTE := fun l k n => decide (l.take k = dg (numL (l.take k)) ∧ k = nd (numL (l.take k)) ∧ k ≤ 1000 ∧ -1000 ≤ n ∧ n ≤ 1000)
  LT := fun l k l1 k1 => decide (numL l < numL l1)
  okLT := fun l k l1 k1 => decide (l = dg (numL l) ∧ k = nd (numL l) ∧ l1 = dg (numL l1) ∧ k1 = nd (numL l1) ∧ k ≤ 10000 ∧ k1 ≤ 10000)
theorem trO_ok (mx : Bool) (N K m : Nat) (p q x : Int) (hK : K < 1000000) (hN : nd N ≤ K) : EntOK Try.prog 35 (eTrO (rdf mx N K m p q x)) := fun args pre => by
  unfold eTrO; split
  · rename_i k l t
    refine ⟨fun hb => ?_, fun _ => trivial⟩
    obtain ⟨e1, e2⟩ := of_decide_eq_true hb
    subst e2; subst e1
    have h := meets_fitV (l := dN k N) (t := t) (rtrim_meets k N hK hN) (j := 0) rfl (by rw [List.take_length])
    exact meets_args h fun E xs hx => by
      obtain ⟨a, zs, ha, hz, rfl⟩ := denL_cons.1 hx
      exact denL_cons.2 ⟨a, zs, den_asD ha, hz, rfl⟩
  · trivial
theorem unO_ok (mx : Bool) (N K m : Nat) (p q x : Int) (hm : m < 1000000) : EntOK Try.prog 37 (eUnO (rdf mx N K m p q x)) := fun args pre => by
  unfold eUnO; split
  · rename_i n
    refine ⟨fun hb => ?_, fun _ => trivial⟩
    obtain rfl := of_decide_eq_true hb
    exact unit_meets m hm
  · trivial
theorem neO_ok (mx : Bool) (N K m : Nat) (p q x : Int) (hN : nd N ≤ K) (hnr : Meets Try.prog 36 [.bool mx, .dsl 0 (nd N), .dsl 1 (nd (1 * 10 ^ m))] [FL N, FL (1 * 10 ^ m)] (.tuple [.agg [.int .i64 p, .int .i64 q], .int .i64 x]) [FL N, FL (1 * 10 ^ m)]) : EntOK Try.prog 36 (eNeO (rdf mx N K m p q x)) := fun args pre => by
  unfold eNeO; split
  · rename_i b k k1 l t f l1
    refine ⟨fun hb => ?_, fun _ => trivial⟩
    obtain ⟨rfl, rfl, rfl, rfl, rfl⟩ := of_decide_eq_true hb
    have h := meets_fitV (l := dN K N) (t := t) hnr (j := 0) rfl (by rw [qxu]; exact dN_take hN)
    exact meets_fitF (m' := f) (l := dg (1 * 10 ^ m)) h (j := 1) rfl (by rw [List.take_length])
  · trivial
theorem whO_ok (mx : Bool) (N K m : Nat) (p q x : Int) (hp : -1000000000000000 < p ∧ p < 1000000000000000) (hq : -9 ≤ q ∧ q ≤ 9) : EntOK Try.prog 39 (eWhO (rdf mx N K m p q x)) := fun args pre => by
  unfold eWhO; split
  · rename_i a b
    refine ⟨fun hb => ?_, fun _ => trivial⟩
    obtain ⟨e1, e2⟩ := of_decide_eq_true hb
    subst e1; subst e2
    have h20 := nd_small (n := a.natAbs) (by omega)
    exact rwhole_meets a b (by omega) (by omega) (by omega)
  · trivial
theorem teO_ok (mx : Bool) (N K m : Nat) (p q x : Int) : EntOK Try.prog 38 (eTeO (rdf mx N K m p q x)) := fun args pre => by
  unfold eTeO; split
  · rename_i k n f l
    refine ⟨fun hb => ?_, fun _ => trivial⟩
    obtain ⟨h1, h2, h3, h4, h5⟩ := of_decide_eq_true hb
    have h := meets_fitF (m' := f) (l := l) (ten_meets (numL (l.take k)) n (by omega) (by omega)) (j := 0) rfl (by rw [← h1, List.length_take, ← List.take_take, List.take_length])
    rw [← h2] at h
    exact h
  · rename_i k n l t
    refine ⟨fun hb => ?_, fun _ => trivial⟩
    obtain ⟨h1, h2, h3, h4, h5⟩ := of_decide_eq_true hb
    have h := meets_fitV (l := l) (t := t) (ten_meets (numL (l.take k)) n (by omega) (by omega)) (j := 0) rfl (by rw [← h1, List.length_take, ← List.take_take, List.take_length])
    rw [← h2] at h
    exact h
  · trivial
theorem ltO_ok (mx : Bool) (N K m : Nat) (p q x : Int) : EntOK Try.prog 40 (eLtO (rdf mx N K m p q x)) := fun args pre => by
  unfold eLtO; split
  · rename_i k k1 f l f1 l1
    refine ⟨fun hb => ?_, fun _ => trivial⟩
    obtain ⟨h1, h2, h3, h4, h5, h6⟩ := of_decide_eq_true hb
    have h := less_meets (numL l) (numL l1) (by omega) (by omega)
    have h := meets_fitF (m' := f) (l := l) h (j := 0) rfl (by rw [← h1, List.take_length])
    have h := meets_fitF (m' := f1) (l := l1) h (j := 1) rfl (by rw [← h3, List.take_length])
    rw [← h2, ← h4] at h
    exact h
  · trivial
end Go.Proofs.Ytmgiefeggkikcaa
