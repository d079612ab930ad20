/- Law 3: arrays of raw numbers. -/
import Derived.Test.YtdomenmfkbfakaaGreatDoorGr08
set_option linter.unusedVariables false
set_option linter.unusedSimpArgs false
namespace Go.Proofs.YtdomenmfkbfakaaGreatDoor
open Go Sx
/-- The cells of raw numbers: kind, number, text, truth. -/
def shW : List CK := [.int .i64, .int .i64, .int .i64, .str, .bool]
abbrev fW (R : List (List CV)) : PObj := .raw (.flatR false shW R)
abbrev FV := Int → Int → Int → List UInt8 → Bool → List CV
abbrev rvF (f : FV) (x : List CV) : List CV := f (rowCV x 0).n (rowCV x 1).n (rowCV x 2).n (rowCV x 3).s (rowCV x 4).b
def zR : List CV := mkR 0 0 0 [] false 0 0 0 0
/-- Raw numbers that a program can hold. -/
def okC (x : List CV) : List Bool := [inI (rowCV x 0).n, inI (rowCV x 1).n, inI (rowCV x 2).n, decide ((rowCV x 3).s.length ≤ 9223372036854775807)]
section
variable (f : FV) (H W : Int) (a : Nat) (R : List (List CV))
def sA (l : AV) (t : List (Option PObj)) (i : Int) : PState := ⟨none :: none :: some (.dsl 0 a) :: none :: none :: none :: some (.ptr 1 0) :: some (.ptr 2 0) :: some (.int .i64 i) :: nn 39, some (fW R) :: some (vCells 0 0 0 [] false 0 0 0 0 .nilslice) :: some (vCells 5 0 0 [] false 0 H W 0 l) :: (t ++ nn 64)⟩
def sAX (l : AV) (t : List (Option PObj)) : PState := ⟨nn 6 ++ some (.ptr 1 0) :: some (.ptr 2 0) :: nn 40, some (fW R) :: some (vCells 0 0 0 [] false 0 0 0 0 .nilslice) :: some (vCells 5 0 0 [] false 0 H W 0 l) :: (t ++ nn 64)⟩
noncomputable abbrev loopA1 : Code := (loopBodies (bodyOf Tryz.f13)).headD .skip
def tAr : Tab := [(24, ePick), (12, eVal f)]
def rI (i : Int) : Int := Int.tmod i a
theorem rA0 : code (ent Tryz.prog (tAr f) nolv 64 1 20) Tryz.prog {} 1 64 1 loopA1 (sA H W a R .nilslice [] 0) (endK 1 64 (fun n => hasN [2, 6, 7, 8] n) (fun n => hasN [6, 7] n))
  = bcond (decide (0 < w64 (H * W))) (bcond ((a : Int) == 0) (some (.normal, sA H W a R (.vec 3 1) [some (vR34 [zR])] 1))
      (chks (chks (some (.normal, sA H W a R (.vec 3 1) [some (vR34 [nrm (rvF f (Sx.rowAt R (rI a 0).toNat))])] 1)) (okC (Sx.rowAt R (rI a 0).toNat))) [(a : Int) != 0, ixN (rI a 0) a, inR (rI a 0) R])) (some (.exit 0, sAX H W R .nilslice [])) := by kernel_rfl
theorem rA1 (n : Nat) (L : List (List CV)) (i : Int) : code (ent Tryz.prog (tAr f) nolv 64 1 20) Tryz.prog {} 1 64 1 loopA1 (sA H W a R (.vec 3 n) [some (vR34 L)] i) (endK 1 64 (fun n => hasN [2, 6, 7, 8] n) (fun n => hasN [6, 7] n))
  = bcond (decide (i < w64 (H * W))) (bcond ((a : Int) == 0) (chks (some (.normal, sA H W a R (.vec 3 (n + 1)) [some (vR34 (L ++ [zR]))] (up1 i))) [bV n L])
      (chks (chks (chks (some (.normal, sA H W a R (.vec 3 (n + 1)) [some (vR34 (L ++ [nrm (rvF f (Sx.rowAt R (rI a i).toNat))]))] (up1 i))) [bV n L]) (okC (Sx.rowAt R (rI a i).toNat))) [(a : Int) != 0, ixN (rI a i) a, inR (rI a i) R])) (some (.exit 0, sAX H W R (.vec 3 n) [some (vR34 L)])) := by kernel_rfl
def outA (N : Nat) (c : Bool) (L : List (List CV)) : LAns := .chk c (.out (.exit 0) (sAX H W R (.vec 3 N) [some (vR34 L)]))
noncomputable def lvA (N : Nat) (c : Bool) (L : List (List CV)) : FuncId → Lv := lvOf 13 (fun _ => some [2, 6, 7, 8]) (oneL 3 (eAt 1 (sA H W a R .nilslice [] 0) (outA H W R N c L)))
theorem ar_comes (h w : Int) (N : Nat) (c : Bool) (L : List (List CV)) : Comes [(24, ePick)] (lvA (w64 (1 + pickS h 5)) (w64 (1 + pickS w 5)) a R N c L) 13 [.int .i64 h, .int .i64 w, .dsl 0 a] [fW R]
  (.chk (inI h) (.chk (inI w) (.chk (eqSt (sA (w64 (1 + pickS h 5)) (w64 (1 + pickS w 5)) a R .nilslice [] 0) (sA (w64 (1 + pickS h 5)) (w64 (1 + pickS w 5)) a R .nilslice [] 0)) (.chk c (.ret (vL 5 0 0 [] false 0 (w64 (1 + pickS h 5)) (w64 (1 + pickS w 5)) (.vec 1 N) 0) [fW R, vR34 L]))))) := by unfold Comes; kernel_rfl
end
/-- The row of an array at a place, and so many of them. -/
def arJ (f : FV) (a : Nat) (R : List (List CV)) (i : Nat) : List CV := bcond (Nat.beq a 0) zR (nrm (rvF f (Sx.rowAt R (i % a))))
def arL (f : FV) (a : Nat) (R : List (List CV)) (n : Nat) : List (List CV) := (List.range n).map (arJ f a R)
theorem arL_succ (f : FV) (a : Nat) (R : List (List CV)) (n : Nat) : arL f a R n ++ [arJ f a R n] = arL f a R (n + 1) := by unfold arL; rw [List.range_succ, List.map_append]; rfl
theorem arL_len (f : FV) (a : Nat) (R : List (List CV)) (n : Nat) : (arL f a R n).length = n := by simp [arL]
theorem arL_at {f : FV} {a : Nat} {R : List (List CV)} {n i : Nat} (h : i < n) : Sx.rowAt (arL f a R n) i = arJ f a R i := by simp [arL, Sx.rowAt, h]
def okW (a : Nat) (R : List (List CV)) : Prop := a ≤ R.length ∧ a < 9223372036854775808 ∧ ∀ i, i < a → ∀ c ∈ okC (Sx.rowAt R i), c = true
section
variable {f : FV} {H W : Int} {a N : Nat} {R : List (List CV)}
def sAj (f : FV) (H W : Int) (a : Nat) (R : List (List CV)) : Nat → PState
  | 0 => sA H W a R .nilslice [] 0
  | n + 1 => sA H W a R (.vec 3 (n + 1)) [some (vR34 (arL f a R (n + 1)))] ((n + 1 : Nat) : Int)
theorem rI_nat (j : Nat) : rI a (j : Int) = ((j % a : Nat) : Int) := rfl
theorem roundA (hR : okW a R) (hN : w64 (H * W) = (N : Int)) (h1 : N ≤ 1000) (j : Nat) (hj : j < N) : code (ent Tryz.prog (tAr f) nolv 64 1 20) Tryz.prog {} 1 64 1 loopA1 (sAj f H W a R j) (endK 1 64 (fun n => hasN [2, 6, 7, 8] n) (fun n => hasN [6, 7] n)) = some (.normal, sAj f H W a R (j + 1)) := by
  obtain ⟨hl, hs, hc⟩ := hR
  have hb : ∀ n, n ≤ 1000 → bV n (arL f a R n) = true := fun n hn => by unfold bV roomB; rw [arL_len]; simp; omega
  have h3 : ∀ j : Nat, 0 < a → ∀ x ∈ [(a : Int) != 0, ixN (rI a j) a, inR (rI a j) R], x = true := fun j h0 => by
    have := Nat.mod_lt j h0
    rw [rI_nat]
    exact all3' (bne_iff_ne.2 (by omega)) (ixN_nat this) (inR_nat (by omega))
  by_cases h0 : a = 0
  · subst h0
    have z0 : (((0 : Nat) : Int) == 0) = true := rfl
    cases j with
    | zero =>
      rw [sAj, rA0, hN, bcT (decide_eq_true (by omega)), bcT z0]; rfl
    | succ j =>
      rw [sAj, rA1, hN, bcT (decide_eq_true (by omega)), bcT z0, chks_true (by simpa using hb (j + 1) (by omega)), up1_nat (by omega)]
      rw [show zR = arJ f 0 R (j + 1) from rfl, arL_succ]; rfl
  · have ha : 0 < a := by omega
    have eJ : ∀ i, nrm (rvF f (Sx.rowAt R (i % a))) = arJ f a R i := fun i => by unfold arJ; rw [show Nat.beq a 0 = false from Bool.eq_false_iff.2 fun e => h0 (beqT.1 e)]; rfl
    cases j with
    | zero =>
      have h3' := h3 0 ha
      rw [sAj, rA0, hN, bcT (decide_eq_true (by omega)), bcF (beq_eq_false_iff_ne.2 (by omega))]
      rw [show rI a ((0 : Nat) : Int) = ((0 % a : Nat) : Int) from rfl] at h3'
      rw [show rI a 0 = ((0 % a : Nat) : Int) from rfl, chks_true h3', Int.toNat_natCast, chks_true (hc _ (Nat.mod_lt _ ha)), eJ 0]; rfl
    | succ j =>
      rw [sAj, rA1, hN, bcT (decide_eq_true (by omega)), bcF (beq_eq_false_iff_ne.2 (by omega)), chks_true (h3 (j + 1) ha), rI_nat, Int.toNat_natCast, chks_true (hc _ (Nat.mod_lt _ ha)), chks_true (by simpa using hb (j + 1) (by omega)), up1_nat (by omega), eJ (j + 1), arL_succ]; rfl
theorem loopA (hf : EntOK Tryz.prog 12 (eVal f)) (hR : okW a R) (hN : w64 (H * W) = (N : Int)) (h1 : 1 ≤ N ∧ N ≤ 1000) : Tri Tryz.prog (.loop loopA1) (sA H W a R .nilslice [] 0).toA (.exit 0) (sAX H W R (.vec 3 N) [some (vR34 (arL f a R N))]).toA 1 := by
  have key := loop_rounds (ent_sound (T := tAr f) (.cons ePick_ok (.cons hf .nil)) host nolv_ok (NF := 64) (m := 1) 20) (NF := 64) (m := 1) (x := loopA1) (K := 1) loops_none (fun n => hasN [2, 6, 7, 8] n) (fun n => hasN [6, 7] n) (ι := { j : Nat // j ≤ N }) (fun j => sAj f H W a R j.1) (fun j => N - j.1) (fun j => (.exit 0, sAX H W R (.vec 3 N) [some (vR34 (arL f a R N))])) ?_ (fun j => by simp) ⟨0, Nat.zero_le _⟩
  · exact key
  rintro ⟨j, hj⟩
  simp only
  by_cases hl : j < N
  · exact .inl ⟨⟨j + 1, hl⟩, by simp only; omega, trivial, roundA hR hN h1.2 j hl⟩
  · obtain rfl : j = N := by omega
    cases j with
    | zero => omega
    | succ j =>
      right
      rw [sAj, rA1, hN, bcF (decide_eq_false (by omega))]
end
/-- How many rows, or columns, are asked for. -/
abbrev sz5 (h : Int) : Int := 1 + pickS h 5
def nA (h w : Int) : Nat := (sz5 h * sz5 w).toNat
open Classical in
noncomputable def eArr (f : FV) : Ent := fun args pre => match args, pre with
  | [.int .i64 h, .int .i64 w, .dsl j a], [.raw (.flatR m sh R)] => .chk (Nat.beq j 0 && shEq sh shW && !m) (.chk (inI h) (.chk (inI w) (.chk (decide (okW a R)) (.ret (vL 5 0 0 [] false 0 (sz5 h) (sz5 w) (.vec 1 (nA h w)) 0) [.raw (.flatR m sh R), vR34 (arL f a R (nA h w))]))))
  | _, _ => .fail
theorem nA_bd (h w : Int) : ((nA h w : Nat) : Int) = sz5 h * sz5 w ∧ 1 ≤ nA h w ∧ nA h w ≤ 25 := by
  have h1 := pickS_bd (a := h) (n := 5) (by decide)
  have h2 := pickS_bd (a := w) (n := 5) (by decide)
  have a1 : 1 ≤ sz5 h * sz5 w := Int.mul_pos (a := sz5 h) (by unfold sz5; omega) (by unfold sz5; omega)
  have a2 : sz5 h * sz5 w ≤ 5 * 5 := Int.mul_le_mul (by unfold sz5; omega) (by unfold sz5; omega) (by unfold sz5; omega) (by omega)
  unfold nA
  omega
open Classical in
theorem eArr_ok {f : FV} (hf : EntOK Tryz.prog 12 (eVal f)) : EntOK Tryz.prog 13 (eArr f) := fun args pre => by
  unfold eArr
  split
  · rename_i h w j a m sh R
    refine ⟨fun g0 => ⟨fun g1 => ⟨fun g2 => ⟨fun g3 => ?_, fun _ => trivial⟩, fun _ => trivial⟩, fun _ => trivial⟩, fun _ => trivial⟩
    rw [Bool.and_eq_true, Bool.and_eq_true, beqT] at g0
    obtain ⟨⟨rfl, g⟩, gm⟩ := g0
    obtain rfl := shEq_of g
    cases m with
    | true => cases gm
    | false =>
    have g3 := of_decide_eq_true g3
    obtain ⟨n1, n2, n3⟩ := nA_bd h w
    have h1 := pickS_bd (a := h) (n := 5) (by decide)
    have h2 := pickS_bd (a := w) (n := 5) (by decide)
    have e1 : w64 (1 + pickS h 5) = sz5 h := w64_of (inI_iff.2 ⟨by omega, by omega⟩)
    have e2 : w64 (1 + pickS w 5) = sz5 w := w64_of (inI_iff.2 ⟨by omega, by omega⟩)
    have key := ar_comes a R h w (nA h w) true (arL f a R (nA h w))
    rw [e1, e2] at key
    refine meets_ent (T := [(24, ePick)]) (pre := [fW R]) (post := [fW R, vR34 (arL f a R (nA h w))]) (.cons ePick_ok .nil) host (key.trans (by rw [chkT g1, chkT g2, chkT (eqSt_refl _), chkT rfl]; rfl)) (lvOne_ok (x := loopA1) Tryz.func13 (by kernel_rfl) fun K t => eAt_ok (a := outA (sz5 h) (sz5 w) R (nA h w) true (arL f a R (nA h w))) ⟨fun _ => loopA hf g3 (by rw [w64_of (inI_iff.2 ⟨by omega, by omega⟩), n1]) ⟨n2, by omega⟩, fun _ => trivial⟩ K t)
  · trivial
end Go.Proofs.YtdomenmfkbfakaaGreatDoor

/- Law 3: what is made of an array (ValMade): the rounds. -/
set_option linter.unusedVariables false
set_option linter.unusedSimpArgs false
namespace Go.Proofs.YtdomenmfkbfakaaGreatDoor
open Go Sx
section
variable (tx : List UInt8 → Bool) (H W n : Int) (N : Nat) (R L M : List (List CV))
def sM (i : Int) : PState := ⟨nn 3 ++ some (.int .i64 n) :: (nn 5 ++ some (.bool true) :: some (.ptr 1 0) :: some (.ptr 2 0) :: none :: some (.int .i64 i) :: nn 128), some (fW R) :: some (vCells 5 0 0 [] false 0 H W 0 (.vec 3 N)) :: some (vCells 5 0 0 [] false 0 H W 0 (.vec 4 N)) :: some (vR34 L) :: some (vR34 M) :: nn 64⟩
def sMX : PState := ⟨nn 3 ++ some (.int .i64 n) :: (nn 5 ++ some (.bool true) :: some (.ptr 1 0) :: some (.ptr 2 0) :: nn 130), some (fW R) :: some (vCells 5 0 0 [] false 0 H W 0 (.vec 3 N)) :: some (vCells 5 0 0 [] false 0 H W 0 (.vec 4 N)) :: some (vR34 L) :: some (vR34 M) :: nn 64⟩
noncomputable abbrev loopMd1 : Code := (loopBodies (bodyOf Tryz.f9)).headD .skip
noncomputable def tMd (f : FV) : Tab := [(11, eTrue), (13, eArr f), (19, eMak tx), (26, eSam), (22, eGet tx), (24, ePick)]
def gM (i : Int) : List CV := getA tx 0 0 [] false 0 H W 0 N M (w64 (Int.tdiv i W)) (Int.tmod i W)
open Classical in
theorem rM (f : FV) (i : Int) : code (ent Tryz.prog (tMd tx f) nolv 64 1 20) Tryz.prog {} 1 64 1 loopMd1 (sM H W n N R L M i) (endK 1 64 (fun n => hasN [3, 9, 10, 11, 13] n) (fun n => hasN [3, 9, 10, 11] n))
  = bcond (decide (i < (N : Int))) (chks (bcond (!(samR (gM tx H W N M i) (Sx.rowAt L i.toNat))) (some (.ret, sMX H W n N R L M)) (some (.normal, sM H W n N R L M (up1 i)))) [W != 0, W != 0, decide (okRows N M), ixN i N, inR i L]) (some (.exit 0, sMX H W n N R L M)) := by kernel_rfl
end
end Go.Proofs.YtdomenmfkbfakaaGreatDoor

/- Law 3: what is made of an array (ValMade): the law. -/
set_option linter.unusedVariables false
set_option linter.unusedSimpArgs false
namespace Go.Proofs.YtdomenmfkbfakaaGreatDoor
open Go Sx
section
variable (tx : List UInt8 → Bool) (H W n : Int) (N : Nat) (R L M : List (List CV))
def outMd (c : Bool) : LAns := .chk c (.out (.exit 0) (sMX H W n N R L M))
noncomputable def lvMd (c : Bool) : FuncId → Lv := lvOf 9 (fun _ => some [3, 9, 10, 11, 13]) (oneL 7 (eAt 1 (sM H W n N R L M 0) (outMd H W n N R L M c)))
def fwB (b : Bool) : Ans := .ret (.bool b) [fW R]
def rwM (i j : Int) : List CV := getA tx 0 0 [] false 0 H W 0 N M i j
/-- One of the two ends: its number is one, and the first stands there; or more, and there is #N/A. -/
def endT (G : Int) (g : List CV) (X Y : Ans) (Z : Ans) : Ans := .br (G == 1) (.chk (ixN 0 N) (.chk (inR 0 L) (.br (samR g (Sx.rowAt L 0)) X (.br (decide (G > 1)) Y Z)))) (.br (decide (G > 1)) Y Z)
open Classical in
noncomputable def tailT : Ans := .chk (inI n) (.chk (decide (okRows N M)) (.chk (decide (okRows N M)) (.chk (decide (okRows N L)) (.br (rightA tx 0 0 [] false 0 (w64 (H + 1)) W 0 N L) (fwB R false)
  (let g1 := rwM tx H W N M (w64 (H + pickS n 1000)) 0
   let g2 := rwM tx H W N M 0 (w64 (W + pickS n 1000))
   let X := endT N L W g2 (fwB R true) (fwB R (rr g2 == 7)) (fwB R false)
   endT N L H g1 X (.br (rr g1 == 7) X (fwB R false)) (fwB R false))))))
end
open Classical in
theorem md_comes (tx : List UInt8 → Bool) (f : FV) (h w n : Int) (a : Nat) (R : List (List CV)) (c : Bool) : Comes (tMd tx f) (lvMd (sz5 h) (sz5 w) n (nA h w) R (arL f a R (nA h w)) (cpR (arL f a R (nA h w)) (nA h w)) c) 9 [.int .i64 h, .int .i64 w, .dsl 0 a, .int .i64 n] [fW R]
  (.chk (inI h) (.chk (inI w) (.chk (decide (okW a R)) (.chk (decide (okRows (nA h w) (arL f a R (nA h w)))) (.br (rightA tx 0 0 [] false 0 (sz5 h) (sz5 w) 0 (nA h w) (arL f a R (nA h w)))
    (.chk (decide (nA h w ≤ (cpR (arL f a R (nA h w)) (nA h w)).length ∧ nA h w ≤ (arL f a R (nA h w)).length ∧ nA h w < 1000000000))
      (.br (!(sameF 5 0 0 [] false 0 (sz5 h) (sz5 w) 0 5 0 0 [] false 0 (sz5 h) (sz5 w) 0 && eqRows (nA h w) (nA h w) (cpR (arL f a R (nA h w)) (nA h w)) (arL f a R (nA h w)))) (fwB R false)
        (.chk (eqSt (sM (sz5 h) (sz5 w) n (nA h w) R (arL f a R (nA h w)) (cpR (arL f a R (nA h w)) (nA h w)) 0) (sM (sz5 h) (sz5 w) n (nA h w) R (arL f a R (nA h w)) (cpR (arL f a R (nA h w)) (nA h w)) 0))
          (.chk c (tailT tx (sz5 h) (sz5 w) n (nA h w) R (arL f a R (nA h w)) (cpR (arL f a R (nA h w)) (nA h w)))))))
    (fwB R false)))))) := by unfold Comes; kernel_rfl
end Go.Proofs.YtdomenmfkbfakaaGreatDoor

/- Law 3: what is made of an array (ValMade): it is so. -/
set_option linter.unusedVariables false
set_option linter.unusedSimpArgs false
namespace Go.Proofs.YtdomenmfkbfakaaGreatDoor
open Go Sx
theorem sameF_refl (k m e : Int) (s : List UInt8) (b : Bool) (r h w f : Int) : sameF k m e s b r h w f k m e s b r h w f = true := by unfold sameF; simp
theorem samR_nrm (x : List CV) : samR (nrm x) x = true := sameF_refl ..
theorem eqFrom_of {R S : List (List CV)} : ∀ (n i : Nat), (∀ j, i ≤ j → j < i + n → samR (Sx.rowAt R j) (Sx.rowAt S j) = true) → eqFrom R S n i = true
  | 0, _, _ => rfl
  | n + 1, i, h => by rw [eqFrom, h i (Nat.le_refl _) (by omega), eqFrom_of n (i + 1) fun j h1 h2 => h j (by omega) (by omega)]; rfl
theorem rigFrom_of {tx : List UInt8 → Bool} {R : List (List CV)} : ∀ (n i : Nat), (∀ j, i ≤ j → j < i + n → rigR tx (Sx.rowAt R j) = true) → rigFrom tx R n i = true
  | 0, _, _ => rfl
  | n + 1, i, h => by rw [rigFrom, h i (Nat.le_refl _) (by omega), rigFrom_of n (i + 1) fun j h1 h2 => h j (by omega) (by omega)]; rfl
theorem zR_ok : plR zR = true ∧ rigR isTx zR = true := ⟨by kernel_rfl, by kernel_rfl⟩
theorem arJ_ok (a : Nat) (R : List (List CV)) (i : Nat) : plR (arJ valR a R i) = true ∧ rigR isTx (arJ valR a R i) = true := by
  unfold arJ
  cases Nat.beq a 0 with
  | true => exact zR_ok
  | false => exact valR_ok _ _ _ _ _
section
variable {a : Nat} {R : List (List CV)} {N : Nat}
theorem okRows_ar (hN : N ≤ 25) : okRows N (arL valR a R N) := ⟨by rw [arL_len]; omega, by omega, fun i hi => by rw [arL_at hi]; exact (arJ_ok a R i).1⟩
theorem okRows_cp (hN : N ≤ 25) : okRows N (cpR (arL valR a R N) N) := ⟨by rw [cpR_len]; omega, by omega, fun i hi => by rw [cpR_at hi, arL_at hi]; exact (arJ_ok a R i).1⟩
theorem rig_ar : rigFrom isTx (arL valR a R N) N 0 = true := rigFrom_of N 0 fun j _ h => by rw [arL_at (by omega)]; exact (arJ_ok a R j).2
theorem rig_cp : rigFrom isTx (cpR (arL valR a R N) N) N 0 = true := rigFrom_of N 0 fun j _ h => by rw [cpR_at (by omega), arL_at (by omega)]; exact (arJ_ok a R j).2
theorem eq_cp : eqFrom (cpR (arL valR a R N) N) (arL valR a R N) N 0 = true := eqFrom_of N 0 fun j _ h => by rw [cpR_at (by omega)]; exact samR_nrm _
end
theorem sz5_bd (h : Int) : 1 ≤ sz5 h ∧ sz5 h ≤ 5 := by have := pickS_bd (a := h) (n := 5) (by decide); unfold sz5; omega
theorem div_400 {h w : Int} (h1 : 1 ≤ h ∧ h ≤ 5) (h2 : 1 ≤ w ∧ w ≤ 5) : w ≤ 400 / h := by
  have : h = 1 ∨ h = 2 ∨ h = 3 ∨ h = 4 ∨ h = 5 := by omega
  rcases this with rfl | rfl | rfl | rfl | rfl <;> omega
theorem grid_ok {h w : Int} {N : Nat} {L : List (List CV)} (h1 : 1 ≤ h ∧ h ≤ 5) (h2 : 1 ≤ w ∧ w ≤ 5) (hN : (N : Int) = h * w) (hr : rigFrom isTx L N 0 = true) : rightA isTx 0 0 [] false 0 h w 0 N L = true := by
  unfold rightA gridB
  rw [decide_eq_true ⟨h1.1, h2.1, div_400 h1 h2, hN⟩, hr]; rfl
/-- What stands at a place of an array. -/
theorem atG_at {H W : Int} {N : Nat} {M : List (List CV)} (h1 : 1 ≤ H) (h2 : 1 ≤ W) (hN : (N : Int) = H * W) (h25 : N ≤ 25) {j : Nat} (hj : j < N) : atG H W M (w64 (Int.tdiv (j : Int) W)) (Int.tmod (j : Int) W) = Sx.rowAt M j := by
  obtain ⟨v, rfl⟩ : ∃ v : Nat, W = (v : Int) := ⟨W.toNat, by omega⟩
  obtain ⟨u, rfl⟩ : ∃ u : Nat, H = (u : Int) := ⟨H.toNat, by omega⟩
  have hN : N = u * v := by exact_mod_cast hN
  have e1 : Int.tdiv (j : Int) (v : Int) = ((j / v : Nat) : Int) := rfl
  have e2 : Int.tmod (j : Int) (v : Int) = ((j % v : Nat) : Int) := rfl
  have d1 : j / v < u := (Nat.div_lt_iff_lt_mul (by omega)).2 (by rw [← hN]; exact hj)
  have d2 : j % v < v := Nat.mod_lt _ (by omega)
  have d3 : v * (j / v) + j % v = j := Nat.div_add_mod j v
  have d4 : j / v ≤ j := Nat.div_le_self ..
  rw [e1, e2]
  generalize j / v = q at *
  generalize j % v = r at *
  rw [w64_of (inI_iff.2 ⟨by omega, by omega⟩)]
  have c1 : (if (u : Int) = 1 then (0 : Int) else (q : Int)) = (q : Int) := by
    split
    · rename_i h; have : q = 0 := by omega
      rw [this]; rfl
    · rfl
  have c2 : (if (v : Int) = 1 then (0 : Int) else (r : Int)) = (r : Int) := by
    split
    · rename_i h; have : r = 0 := by omega
      rw [this]; rfl
    · rfl
  unfold atG
  simp only [c1, c2]
  rw [if_neg (by omega)]
  have : (q : Int) * (v : Int) + (r : Int) = (j : Int) := by
    rw [Int.mul_comm]; exact_mod_cast d3
  rw [this, Int.toNat_natCast]
/-- Beyond an array there is an error, where it has more than one. -/
theorem atG_end {H W : Int} {M : List (List CV)} {i : Int} (h1 : 1 ≤ H) (h2 : 1 ≤ W) (hi : H ≤ i) : (H = 1 → atG H W M i 0 = Sx.rowAt M 0) ∧ (1 < H → atG H W M i 0 = errR 7) := by
  have c2 : (if W = 1 then (0 : Int) else 0) = 0 := by split <;> rfl
  refine ⟨fun e => ?_, fun e => ?_⟩
  · unfold atG; simp only [c2, if_pos e]; rw [if_neg (by omega), Int.zero_mul]; rfl
  · unfold atG; simp only [c2, if_neg (show H ≠ 1 by omega)]; rw [if_pos (by omega)]
theorem atG_end' {H W : Int} {M : List (List CV)} {j : Int} (h1 : 1 ≤ H) (h2 : 1 ≤ W) (hj : W ≤ j) : (W = 1 → atG H W M 0 j = Sx.rowAt M 0) ∧ (1 < W → atG H W M 0 j = errR 7) := by
  have c2 : (if H = 1 then (0 : Int) else 0) = 0 := by split <;> rfl
  refine ⟨fun e => ?_, fun e => ?_⟩
  · unfold atG; simp only [c2, if_pos e]; rw [if_neg (by omega), Int.zero_mul]; rfl
  · unfold atG; simp only [c2, if_neg (show W ≠ 1 by omega)]; rw [if_pos (by omega)]
theorem endT_run {N : Nat} {L : List (List CV)} {G : Int} {g : List CV} {X Y Z : Ans} {r : Option (AV × List PObj)} (hN : 0 < N) (hL : N ≤ L.length) (h1 : 1 ≤ G) (ha : G = 1 → samR g (Sx.rowAt L 0) = true) (hX : X.run pure2 = r) (hb : 1 < G → Y.run pure2 = r) : (endT N L G g X Y Z).run pure2 = r := by
  unfold endT
  by_cases h : G = 1
  · rw [brT (beq_iff_eq.2 h), chkT (show ixN (0 : Int) N = true from ixN_nat hN), chkT (show inR (0 : Int) L = true from inR_nat (j := 0) (by omega)), brT (ha h)]; exact hX
  · rw [brF (beq_eq_false_iff_ne.2 h), brT (decide_eq_true (by omega))]; exact hb (by omega)
section
variable {H W n : Int} {N : Nat} {R L M : List (List CV)} (h1 : 1 ≤ H ∧ H ≤ 5) (h2 : 1 ≤ W ∧ W ≤ 5) (hN : (N : Int) = H * W) (h25 : N ≤ 25) (h0 : 1 ≤ N) (hL : okRows N L) (hM : okRows N M) (rL : rigFrom isTx L N 0 = true) (rM' : rigFrom isTx M N 0 = true) (hs : ∀ i, i < N → samR (Sx.rowAt M i) (Sx.rowAt L i) = true)
include h1 h2 hN h25 h0 hL hM rL rM' hs
set_option linter.unusedSectionVars false in
theorem rwM_of (i j : Int) : rwM isTx H W N M i j = atG H W M i j := by
  unfold rwM getA; rw [grid_ok h1 h2 hN rM']; rfl
open Classical in
theorem tail_true (hn : inI n = true) : (tailT isTx H W n N R L M).run pure2 = pure2 (.bool true) [fW R] := by
  have bp := pickS_bd (a := n) (n := 1000) (by decide)
  unfold tailT
  rw [chkT hn, chkT (decide_eq_true hM), chkT (decide_eq_true hM), chkT (decide_eq_true hL), brF (by
    unfold rightA gridB
    rw [w64_of (inI_iff.2 ⟨by omega, by omega⟩), decide_eq_false (fun c => ?_)]; rfl
    have := c.2.2.2
    rw [Int.add_mul, Int.one_mul, ← hN] at this
    omega)]
  simp only [rwM_of h1 h2 hN h25 h0 hL hM rL rM' hs]
  rw [w64_of (a := H + pickS n 1000) (inI_iff.2 ⟨by omega, by omega⟩), w64_of (a := W + pickS n 1000) (inI_iff.2 ⟨by omega, by omega⟩)]
  have g1 := atG_end (M := M) h1.1 h2.1 (i := H + pickS n 1000) (by omega)
  have g2 := atG_end' (M := M) h1.1 h2.1 (j := W + pickS n 1000) (by omega)
  have hX : (endT N L W (atG H W M 0 (W + pickS n 1000)) (fwB R true) (fwB R (rr (atG H W M 0 (W + pickS n 1000)) == 7)) (fwB R false)).run pure2 = pure2 (.bool true) [fW R] :=
    endT_run h0 hL.1 h2.1 (fun e => by rw [g2.1 e]; exact hs 0 h0) rfl fun e => by rw [g2.2 e]; rfl
  exact endT_run h0 hL.1 h1.1 (fun e => by rw [g1.1 e]; exact hs 0 h0) hX fun e => by rw [g1.2 e, brT (show (rr (errR 7) == 7) = true from rfl)]; exact hX
set_option linter.unusedSectionVars false in
open Classical in
theorem loopMd (f : FV) (hf : EntOK Tryz.prog 12 (eVal f)) (ha : EntOK Tryz.prog 11 eTrue) : Tri Tryz.prog (.loop loopMd1) (sM H W n N R L M 0).toA (.exit 0) (sMX H W n N R L M).toA 1 := by
  have key := loop_rounds (ent_sound (T := tMd isTx f) (.cons ha (.cons (eArr_ok hf) (.cons (eMak_ok eIsT_ok) (.cons eSam_ok (.cons (eGet_ok eIsT_ok) (.cons ePick_ok .nil)))))) host nolv_ok (NF := 64) (m := 1) 20) (NF := 64) (m := 1) (x := loopMd1) (K := 1) loops_none (fun n => hasN [3, 9, 10, 11, 13] n) (fun n => hasN [3, 9, 10, 11] n) (ι := { j : Nat // j ≤ N }) (fun j => sM H W n N R L M (j.1 : Int)) (fun j => N - j.1) (fun j => (.exit 0, sMX H W n N R L M)) ?_ (fun j => by simp) ⟨0, Nat.zero_le _⟩
  · exact key
  rintro ⟨j, hj⟩
  simp only
  have rd := rM isTx H W n N R L M f (j : Int)
  by_cases hl : j < N
  · rw [bcT (decide_eq_true (by omega)), chks_true (by
      have a1 : (W != 0) = true := bne_iff_ne.2 (by omega)
      simp only [List.mem_cons, List.not_mem_nil, or_false]
      rintro c (rfl | rfl | rfl | rfl | rfl)
      · exact a1
      · exact a1
      · exact decide_eq_true hM
      · exact ixN_nat hl
      · exact inR_nat (by have := hL.1; omega)), up1_nat (by omega), Int.toNat_natCast] at rd
    have e : gM isTx H W N M (j : Int) = Sx.rowAt M j := by
      unfold gM getA; rw [grid_ok h1 h2 hN rM']; exact atG_at h1.1 h2.1 hN h25 hl
    rw [e, hs j hl] at rd
    exact .inl ⟨⟨j + 1, hl⟩, by simp only; omega, trivial, rd⟩
  · rw [bcF (decide_eq_false (by omega))] at rd
    exact .inr rd
end
open Classical in
theorem md_meets {h w n : Int} {a : Nat} {R : List (List CV)} (hh : inI h = true) (hw : inI w = true) (hn : inI n = true) (hR : okW a R) (hf : EntOK Tryz.prog 12 (eVal valR)) (ha : EntOK Tryz.prog 11 eTrue) :
    Meets Tryz.prog 9 [.int .i64 h, .int .i64 w, .dsl 0 a, .int .i64 n] [.flatR false shW R] (.bool true) [.flatR false shW R] := by
  have b1 := sz5_bd h
  have b2 := sz5_bd w
  obtain ⟨n1, n2, n3⟩ := nA_bd h w
  have key := md_comes isTx valR h w n a R true
  have rl := rig_ar (a := a) (R := R) (N := nA h w)
  have rc := rig_cp (a := a) (R := R) (N := nA h w)
  have ol := okRows_ar (a := a) (R := R) n3
  have oc := okRows_cp (a := a) (R := R) n3
  have ec := eq_cp (a := a) (R := R) (N := nA h w)
  have hs : ∀ i, i < nA h w → samR (Sx.rowAt (cpR (arL valR a R (nA h w)) (nA h w)) i) (Sx.rowAt (arL valR a R (nA h w)) i) = true := fun i hi => by rw [cpR_at hi]; exact samR_nrm _
  generalize cpR (arL valR a R (nA h w)) (nA h w) = M at *
  generalize arL valR a R (nA h w) = L at *
  refine meets_ent (pre := [fW R]) (post := [fW R]) (.cons ha (.cons (eArr_ok hf) (.cons (eMak_ok eIsT_ok) (.cons eSam_ok (.cons (eGet_ok eIsT_ok) (.cons ePick_ok .nil)))))) host (key.trans ?_) (lvOne_ok (x := loopMd1) Tryz.func9 (by kernel_rfl) fun K t => eAt_ok (a := outMd (sz5 h) (sz5 w) n (nA h w) R L M true) ⟨fun _ => loopMd b1 b2 n1 n3 n2 ol oc rl rc hs valR hf ha, fun _ => trivial⟩ K t)
  rw [chkT hh, chkT hw, chkT (decide_eq_true hR), chkT (decide_eq_true ol), brT (grid_ok b1 b2 n1 rl), chkT (decide_eq_true ⟨oc.1, ol.1, by omega⟩), brF (by unfold eqRows; rw [sameF_refl, Nat.beq_refl, ec]; rfl), chkT (eqSt_refl _), chkT rfl]
  exact tail_true b1 b2 n1 n3 n2 ol oc rl rc hs hn
end Go.Proofs.YtdomenmfkbfakaaGreatDoor
