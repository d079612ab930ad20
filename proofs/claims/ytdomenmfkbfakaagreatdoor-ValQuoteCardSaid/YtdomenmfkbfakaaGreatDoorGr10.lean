/- The document's quotients of whole numbers by their digits. -/
import Derived.Test.YtdomenmfkbfakaaGreatDoorGr09
import Derived.Test.YtdomenmfkbfakaaGreatDoorGr08
set_option linter.unusedVariables false
set_option linter.unusedSimpArgs false
namespace Go.Proofs.YtdomenmfkbfakaaGreatDoor
open Go Sx Rf Dc Rr Dq
/-- trim, of a slice that is handed over. -/
def eTrH : Ent := fun args pre => match args, pre with
  | [.nilslice], [] => .ret .nilslice []
  | [.vec 0 k], [.vecI .i64 l t] => .chk (Nat.beq t 3) (.chk (decide (k ≤ l.length ∧ l.length < 1099511627776)) (.ret (.dsl 1 (trimN l k)) [.raw .dead, .flatI true (l.take (trimN l k))]))
  | _, _ => .fail
theorem eTrH_ok : EntOK Tryz.prog 101 eTrH := fun args pre => by
  unfold eTrH
  split
  · exact ans_comes .nil trim_nil
  · rename_i k l t
    refine ⟨fun g1 => ⟨fun g2 => ?_, fun _ => trivial⟩, fun _ => trivial⟩
    have h := ((eTrim_ok [.vec 0 k] [.vecI .i64 l t]).1 g1).1 g2
    obtain rfl := Nat.eq_of_beq_eq_true g1
    have h3 := trimN_le l k
    exact meets_hand (m := true) (l' := l.take (trimN l k)) h rfl rfl (Nat.le_refl _) (by rw [List.length_take, Nat.min_eq_left (by have := of_decide_eq_true g2; omega)])
  · trivial
def tBy (x : NumF) : Tab := [(101, eTrH), (83, gL x), (136, gD x 1)]
noncomputable abbrev loopB1 : Code := (loopBodies (bodyOf Tryz.f113)).headD .skip
noncomputable abbrev loopB2 : Code := (loopBodies loopB1).headD .skip
def slB (a b : Nat) (q r : AV) (i : Int) (d : Option AV) : List (Option AV) := some (.dsl 0 (nd a)) :: some (.dsl 1 (nd b)) :: none :: none :: none :: none :: some q :: some r :: some (.int .i64 i) :: d :: nn 31
def sB0 (a b : Nat) (i : Int) : PState := ⟨slB a b .nilslice .nilslice i none, mem2 a b none⟩
def memB (a b : Nat) (lq lr : List Int) : List (Option PObj) := some (.flatI false (dg a)) :: some (.flatI false (dg b)) :: some (.vecI .i64 lq 3) :: some (.flatI true lr) :: nn 64
def sBV (a b kq kr : Nat) (lq lr : List Int) (i : Int) : PState := ⟨slB a b (.vec 2 kq) (.dsl 3 kr) i none, memB a b lq lr⟩
def sI0 (a b kr : Nat) (lr : List Int) (i d : Int) : PState := ⟨slB a b .nilslice (.dsl 2 kr) i (some (.int .i64 d)), mem2 a b (some (.flatI true lr))⟩
def sIV (a b kq kr : Nat) (lq lr : List Int) (i d : Int) : PState := ⟨slB a b (.vec 2 kq) (.dsl 3 kr) i (some (.int .i64 d)), memB a b lq lr⟩
abbrev kI : Nat → Bool := fun n => hasN [0, 1, 6, 7, 8, 9] n
abbrev kB : Nat → Bool := fun n => hasN [0, 1, 6, 7, 8] n
abbrev kBx : Nat → Bool := fun n => hasN [6, 7] n
def roundI {α : Type} (x : NumF) (b kr : Nat) (lr : List Int) (d : Int) (nx : List Int → Nat → Int → Option α) (ex : Option α) : Option α :=
  bcond (x.okL lr kr (dg b) (nd b)) (bcond (!(x.L lr kr (dg b) (nd b))) (bcond (x.okD 1 lr kr (dg b) (nd b)) (nx (x.D 1 lr kr (dg b) (nd b)) (x.kD 1 lr kr (dg b) (nd b)) (up1 d)) none) ex) none
theorem rI0 (x : NumF) (a b kr : Nat) (lr : List Int) (i d : Int) : code (ent Tryz.prog (tBy x) nolv 64 1 20) Tryz.prog {} 2 64 1 loopB2 (sI0 a b kr lr i d) (endK 2 64 kI kI)
  = roundI x b kr lr d (fun l k d => some (.normal, sI0 a b k l i d)) (some (.exit 2, sI0 a b kr lr i d)) := by kernel_rfl
theorem rIV (x : NumF) (a b kq kr : Nat) (lq lr : List Int) (i d : Int) : code (ent Tryz.prog (tBy x) nolv 64 1 20) Tryz.prog {} 2 64 1 loopB2 (sIV a b kq kr lq lr i d) (endK 2 64 kI kI)
  = roundI x b kr lr d (fun l k d => some (.normal, sIV a b kq k lq l i d)) (some (.exit 2, sIV a b kq kr lq lr i d)) := by kernel_rfl
variable {NR : Bool → Nat → Nat → Int × Int × Int}
theorem tBy_ok : TabOK Tryz.prog (tBy (numF NR)) := .cons eTrH_ok (.cons gL_ok (.cons (gD_ok fun a b ha hb hs => minus_meets a b (by omega) (of_decide_eq_true hs)) .nil))
theorem roundI_ok {α : Type} {b y d : Nat} {nx : List Int → Nat → Int → Option α} {ex : Option α} (hy : nd y ≤ 200000) (hb : nd b ≤ 200000) (hd : d < 1000000) : roundI (numF NR) b (nd y) (dg y) (d : Int) nx ex = if b ≤ y then nx (dg (y - b)) (nd (y - b)) ((d + 1 : Nat) : Int) else ex := by
  unfold roundI
  rw [bcT (okL_dg hy hb), L_dg]
  by_cases h : b ≤ y
  · rw [decide_eq_false (by omega), bcT (b := !false) rfl, bcT (okD_dg (o := 1) hy hb (decide_eq_true h)), D_dg, kD_dg, up1_nat (by omega), if_pos h]; rfl
  · rw [decide_eq_true (by omega), bcF (b := !true) rfl, if_neg h]
theorem loopI {b y : Nat} {S : Nat → List Int → Int → PState} (hS : ∀ (x : NumF) (k : Nat) (l : List Int) (d : Int), code (ent Tryz.prog (tBy x) nolv 64 1 20) Tryz.prog {} 2 64 1 loopB2 (S k l d) (endK 2 64 kI kI) = roundI x b k l d (fun l k d => some (.normal, S k l d)) (some (.exit 2, S k l d)))
    (hy : nd y ≤ 200000) (hb : nd b ≤ 200000) (h0 : 0 < b) (h10 : y < 10 * b) : Tri Tryz.prog (.loop loopB2) (S (nd y) (dg y) 0).toA (.exit 2) (S (nd (y % b)) (dg (y % b)) ((y / b : Nat) : Int)).toA 2 := by
  have key := loop_rounds (ent_sound (T := tBy (numF fun _ _ _ => (0, 0, 0))) tBy_ok host nolv_ok (NF := 64) (m := 1) 20) (NF := 64) (m := 1) (x := loopB2) (K := 2) loops_none kI kI (ι := { d : Nat // d ≤ y / b }) (fun d => S (nd (y - d.1 * b)) (dg (y - d.1 * b)) (d.1 : Int)) (fun d => y / b - d.1) (fun _ => (.exit 2, S (nd (y % b)) (dg (y % b)) ((y / b : Nat) : Int))) ?_ (fun _ => by simp) ⟨0, Nat.zero_le _⟩
  · simpa using key
  rintro ⟨d, hd⟩
  simp only
  have hq : y / b < 10 := Nat.div_lt_of_lt_mul (by rw [Nat.mul_comm]; exact h10)
  have hm : nd (y - d * b) ≤ 200000 := Nat.le_trans (nd_mono (Nat.sub_le _ _)) hy
  refine (Classical.em (d < y / b)).elim (fun h => .inl ⟨⟨d + 1, h⟩, by simp only; omega, trivial, ?_⟩) (fun h => .inr ?_)
  · refine (hS _ _ _ _).trans ((roundI_ok hm hb (by omega)).trans ?_)
    have := by_go h0 h
    rw [if_pos (by omega), by_sub]
  · have e : d = y / b := by omega
    subst e
    refine (hS _ _ _ _).trans ((roundI_ok hm hb (by omega)).trans ?_)
    have h1 := by_stop (y := y) h0
    rw [h1, if_neg (by have := Nat.mod_lt y h0; omega)]
/-- What the inner loop comes to. -/
def aI (S : Nat → List Int → Int → PState) (b y : Nat) : LAns := .chk (decide (nd y ≤ 200000 ∧ nd b ≤ 200000 ∧ 0 < b ∧ y < 10 * b)) (.out (.exit 2) (S (nd (y % b)) (dg (y % b)) ((y / b : Nat) : Int)))
noncomputable def lvI (S : Nat → List Int → Int → PState) (b y : Nat) : Lv := { keep := fun _ => some [0, 1, 6, 7, 8, 9], ent := oneL 8 (eAt 2 (S (nd y) (dg y) 0) (aI S b y)) }
theorem lvI_ok {S : Nat → List Int → Int → PState} {b y : Nat} (hS : ∀ (x : NumF) (k : Nat) (l : List Int) (d : Int), code (ent Tryz.prog (tBy x) nolv 64 1 20) Tryz.prog {} 2 64 1 loopB2 (S k l d) (endK 2 64 kI kI) = roundI x b k l d (fun l k d => some (.normal, S k l d)) (some (.exit 2, S k l d))) : LoopsOK Tryz.prog (lvI S b y) 2 loopB1 := fun x hx id e hid he t => by
  have h1 : loopBodies loopB1 = [loopB2] := by kernel_rfl
  rw [h1] at hx
  obtain rfl := List.mem_singleton.1 hx
  obtain ⟨rfl, _⟩ := oneL_some he
  have h2 : LAnsOK Tryz.prog loopB2 2 (S (nd y) (dg y) 0) (aI S b y) := ⟨fun g => let g := of_decide_eq_true g; loopI hS g.1 g.2.1 g.2.2.1 g.2.2.2, fun _ => trivial⟩
  exact eAt_ok h2 2 t
-- the rounds of the outer loop
def rT0 (a : Nat) (i : Int) : List Int := ([gN (dg a) i] ++ []).take (trimN ([gN (dg a) i] ++ []) (1 + 0))
def lT (a kr : Nat) (lr : List Int) (i : Int) : List Int := [gN (dg a) i] ++ lr.take kr
theorem rB0 (x : NumF) (a b y : Nat) (i : Int) : code (ent Tryz.prog (tBy x) nolv 64 1 20) Tryz.prog (lvI (fun k l d => sI0 a b k l i d) b y) 2 64 1 loopB1 (sB0 a b i) (endK 2 64 kB kBx)
  = bcond (decide (i ≥ 0)) (chks (some (.normal, sBV a b (1 + 0) (nd (y % b)) ([((y / b : Nat) : Int)] ++ []) (dg (y % b)) (dwn i)))
    [ixN i (nd a), lnN i (dg a), eqSt (sI0 a b (trimN ([gN (dg a) i] ++ []) (1 + 0)) (rT0 a i) i 0) (sI0 a b (nd y) (dg y) i 0), decide (nd y ≤ 200000 ∧ nd b ≤ 200000 ∧ 0 < b ∧ y < 10 * b)]) (some (.exit 0, ⟨none :: none :: none :: none :: none :: none :: some .nilslice :: some .nilslice :: nn 33, mem2 a b none⟩)) := by kernel_rfl
theorem rBV (x : NumF) (a b y kq kr : Nat) (lq lr : List Int) (i : Int) : code (ent Tryz.prog (tBy x) nolv 64 1 20) Tryz.prog (lvI (fun k l d => sIV a b kq k lq l i d) b y) 2 64 1 loopB1 (sBV a b kq kr lq lr i) (endK 2 64 kB kBx)
  = bcond (decide (i ≥ 0)) (chks (some (.normal, sBV a b (1 + kq) (nd (y % b)) ([((y / b : Nat) : Int)] ++ lq.take kq) (dg (y % b)) (dwn i)))
    [ixN i (nd a), lnN i (dg a), decide (kr ≤ lr.length) && true && roomB (1 + kr) 8, decide (1 + kr ≤ (lT a kr lr i).length ∧ (lT a kr lr i).length < 1099511627776), eqSt (sIV a b kq (trimN (lT a kr lr i) (1 + kr)) lq ((lT a kr lr i).take (trimN (lT a kr lr i) (1 + kr))) i 0) (sIV a b kq (nd y) lq (dg y) i 0), decide (nd y ≤ 200000 ∧ nd b ≤ 200000 ∧ 0 < b ∧ y < 10 * b), decide (kq ≤ lq.length) && true && roomB (1 + kq) 8])
    (some (.exit 0, ⟨none :: none :: none :: none :: none :: none :: some (.vec 2 kq) :: some (.dsl 3 kr) :: nn 33, memB a b lq lr⟩)) := by kernel_rfl
def stB (a b j : Nat) : PState := if j = nd a then sB0 a b ((j : Int) - 1) else sBV a b (nd a - j) (nd (a / 10 ^ j % b)) (dN (nd a - j) (a / 10 ^ j / b)) (dg (a / 10 ^ j % b)) ((j : Int) - 1)
def exB (a b : Nat) : PState := if nd a = 0 then ⟨none :: none :: none :: none :: none :: none :: some .nilslice :: some .nilslice :: nn 33, mem2 a b none⟩ else ⟨none :: none :: none :: none :: none :: none :: some (.vec 2 (nd a)) :: some (.dsl 3 (nd (a % b))) :: nn 33, memB a b (dN (nd a) (a / b)) (dg (a % b))⟩
theorem all7 {a b c d e f g : Bool} (h : a = true ∧ b = true ∧ c = true ∧ d = true ∧ e = true ∧ f = true ∧ g = true) : ∀ x ∈ [a, b, c, d, e, f, g], x = true := by
  intro x hx
  simp only [List.mem_cons, List.not_mem_nil, or_false] at hx
  rcases hx with rfl | rfl | rfl | rfl | rfl | rfl | rfl
  · exact h.1
  · exact h.2.1
  · exact h.2.2.1
  · exact h.2.2.2.1
  · exact h.2.2.2.2.1
  · exact h.2.2.2.2.2.1
  · exact h.2.2.2.2.2.2
theorem trim_y {k y : Nat} (h : nd y ≤ k) : trimN (dN k y) k = nd y ∧ (dN k y).take (trimN (dN k y) k) = dg y := by
  have := trimN_dN (N := y) k (Nat.le_refl _) h
  rw [this, dN_take h]; exact ⟨rfl, rfl⟩
theorem loopB {a b : Nat} (ha : nd a ≤ 190000) (hb : nd b ≤ 190000) (h0 : 0 < b) : Tri Tryz.prog (.loop loopB1) (stB a b (nd a)).toA (.exit 0) (exB a b).toA 2 := by
  refine tri_loop (ι := { j : Nat // j ≤ nd a }) (fun j => (stB a b j.1).toA) (fun j => j.1) (by simp) ?_ ⟨nd a, Nat.le_refl _⟩
  rintro ⟨j, hj⟩
  simp only
  have H : ∀ NR, HOK Tryz.prog (ent (R := Ex × PState) Tryz.prog (tBy (numF NR)) nolv 64 1 20) := fun NR => ent_sound (T := tBy (numF NR)) tBy_ok host nolv_ok (NF := 64) (m := 1) 20
  cases j with
  | zero =>
    right
    unfold stB exB
    by_cases e : nd a = 0
    · rw [if_pos e.symm, if_pos e]
      have key := rB0 (numF fun _ _ _ => (0, 0, 0)) a b 0 (((0 : Nat) : Int) - 1)
      rw [bcF (decide_eq_false (by omega))] at key
      exact round_sound (H fun _ _ _ => (0, 0, 0)) (lvI_ok fun x k l d => rI0 x a b k l _ d) key
    · rw [if_neg (by omega), if_neg e, Nat.pow_zero, Nat.div_one, Nat.sub_zero]
      have key := rBV (numF fun _ _ _ => (0, 0, 0)) a b 0 (nd a) (nd (a % b)) (dN (nd a) (a / b)) (dg (a % b)) (((0 : Nat) : Int) - 1)
      rw [bcF (decide_eq_false (by omega))] at key
      exact round_sound (H fun _ _ _ => (0, 0, 0)) (lvI_ok fun x k l d => rIV x a b _ k _ l _ d) key
  | succ j =>
    refine .inl ⟨⟨j, by omega⟩, by simp only; omega, ?_⟩
    have e : ((j + 1 : Nat) : Int) - 1 = (j : Int) := by omega
    have hd : dwn (j : Int) = (j : Int) - 1 := by unfold dwn; exact i64_in (by omega) (by omega)
    have hg : gN (dg a) (j : Int) = ((a / 10 ^ j % 10 : Nat) : Int) := by rw [gN_nat, dg_getD]
    have h10 : a / 10 ^ j % 10 < 10 := Nat.mod_lt _ (by decide)
    have hy := byY_lt (a := a) (k := j) h0
    have hyn : nd (byY a b j) ≤ nd b + 1 := byY_nd h0
    have ix := ixN_nat (j := j) (k := nd a) (by omega)
    have ln := lnN_nat (j := j) (l := dg a) (by rw [dg_length]; omega)
    have g : decide (nd (byY a b j) ≤ 200000 ∧ nd b ≤ 200000 ∧ 0 < b ∧ byY a b j < 10 * b) = true := decide_eq_true ⟨by omega, by omega, h0, hy⟩
    have nx : stB a b j = sBV a b (nd a - j) (nd (byY a b j % b)) (dN (nd a - j) (a / 10 ^ j / b)) (dg (byY a b j % b)) ((j : Int) - 1) := by
      unfold stB; rw [if_neg (by omega), byY_mod h0]
    have hqd := byY_ten (a := a) (k := j) h0
    have hq := by_q (a := a) (k := j) h0 (by omega)
    rw [nx]
    unfold stB
    rw [e]
    by_cases e2 : j + 1 = nd a
    · rw [if_pos e2]
      have key := rB0 (numF fun _ _ _ => (0, 0, 0)) a b (byY a b j) (j : Int)
      have z : a / 10 ^ (j + 1) = 0 := by rw [e2]; exact nd_div
      have hyd : byY a b j = 10 * 0 + a / 10 ^ j % 10 := by unfold byY; rw [z, Nat.zero_mod]
      have hl : [gN (dg a) (j : Int)] ++ [] = dN 1 (byY a b j) := by rw [hg, hyd, ← Rr.dN_cons (j := 0) (x := 0) h10]; rfl
      have ht := trim_y (k := 1) (y := byY a b j) (by rw [hyd]; have := by_nd (x := 0) h10; rw [nd_zero] at this; exact this)
      rw [bcT (decide_eq_true (by omega)), chks_true (all4 ix ln (by unfold rT0; rw [hl, show 1 + 0 = 1 from rfl, ht.2, ht.1]; exact eqSt_refl _) g), hd] at key
      have hq' : [((byY a b j / b : Nat) : Int)] ++ [] = dN (nd a - j) (a / 10 ^ j / b) := by
        rw [← hq, show nd a - (j + 1) = 0 by omega, z, Nat.zero_div, ← Rr.dN_cons hqd]; rfl
      rw [hq', show 1 + 0 = nd a - j by omega] at key
      exact round_sound (H fun _ _ _ => (0, 0, 0)) (lvI_ok fun x k l d => rI0 x a b k l _ d) key
    · rw [if_neg e2]
      have key := rBV (numF fun _ _ _ => (0, 0, 0)) a b (byY a b j) (nd a - (j + 1)) (nd (a / 10 ^ (j + 1) % b)) (dN (nd a - (j + 1)) (a / 10 ^ (j + 1) / b)) (dg (a / 10 ^ (j + 1) % b)) (j : Int)
      have hr : nd (a / 10 ^ (j + 1) % b) ≤ nd b := nd_mono (Nat.le_of_lt (Nat.mod_lt _ h0))
      have hl : lT a (nd (a / 10 ^ (j + 1) % b)) (dg (a / 10 ^ (j + 1) % b)) (j : Int) = dN (1 + nd (a / 10 ^ (j + 1) % b)) (byY a b j) := by
        unfold lT
        rw [hg, List.take_of_length_le (by rw [dg_length]; exact Nat.le_refl _), Nat.add_comm 1]
        exact Rr.dN_cons h10
      have ht := trim_y (k := 1 + nd (a / 10 ^ (j + 1) % b)) (y := byY a b j) (by_nd h10)
      have c1 : (decide (nd (a / 10 ^ (j + 1) % b) ≤ (dg (a / 10 ^ (j + 1) % b)).length) && true && roomB (1 + nd (a / 10 ^ (j + 1) % b)) 8) = true := by rw [decide_eq_true (show nd (a / 10 ^ (j + 1) % b) ≤ (dg (a / 10 ^ (j + 1) % b)).length by rw [dg_length]; exact Nat.le_refl _), roomB_small (by omega)]; rfl
      have c4 : (decide (nd a - (j + 1) ≤ (dN (nd a - (j + 1)) (a / 10 ^ (j + 1) / b)).length) && true && roomB (1 + (nd a - (j + 1))) 8) = true := by rw [dN_length, decide_eq_true (Nat.le_refl _), roomB_small (by omega)]; rfl
      have hq' : [((byY a b j / b : Nat) : Int)] ++ (dN (nd a - (j + 1)) (a / 10 ^ (j + 1) / b)).take (nd a - (j + 1)) = dN (nd a - j) (a / 10 ^ j / b) := by
        rw [← hq, List.take_of_length_le (by rw [dN_length]; exact Nat.le_refl _), ← Rr.dN_cons hqd]; rfl
      rw [bcT (decide_eq_true (by omega)), hl, ht.2, ht.1, hq', show 1 + (nd a - (j + 1)) = nd a - j by omega, hd] at key
      rw [show 1 + (nd a - (j + 1)) = nd a - j by omega] at c4
      rw [chks_true (all7 ⟨ix, ln, c1, decide_eq_true ⟨by rw [dN_length]; exact Nat.le_refl _, by rw [dN_length]; omega⟩, eqSt_refl _, g, c4⟩)] at key
      exact round_sound (H fun _ _ _ => (0, 0, 0)) (lvI_ok fun x k l d => rIV x a b _ k _ l _ d) key
def aB (a b : Nat) (z : Bool) (kq kr : Nat) (lq lr : List Int) : LAns := .chk (decide (nd a ≤ 190000 ∧ nd b ≤ 190000 ∧ 0 < b)) (.chk (decide (z = decide (nd a = 0) ∧ kq = nd a ∧ kr = nd (a % b) ∧ lq = dN (nd a) (a / b) ∧ lr = dg (a % b)))
  (.out (.exit 0) (bcond z ⟨none :: none :: none :: none :: none :: none :: some .nilslice :: some .nilslice :: nn 33, mem2 a b none⟩ ⟨none :: none :: none :: none :: none :: none :: some (.vec 2 kq) :: some (.dsl 3 kr) :: nn 33, memB a b lq lr⟩)))
theorem aB_ok (a b : Nat) (z : Bool) (kq kr : Nat) (lq lr : List Int) : LAnsOK Tryz.prog loopB1 2 (sB0 a b ((nd a : Int) - 1)) (aB a b z kq kr lq lr) := ⟨fun g => ⟨fun g2 => by
  have g := of_decide_eq_true g
  obtain ⟨rfl, rfl, rfl, rfl, rfl⟩ := of_decide_eq_true g2
  have key := loopB g.1 g.2.1 g.2.2
  unfold stB exB at key
  rw [if_pos rfl] at key
  by_cases h : nd a = 0
  · rw [if_pos h] at key; rw [decide_eq_true h]; exact key
  · rw [if_neg h] at key; rw [decide_eq_false h]; exact key, fun _ => trivial⟩, fun _ => trivial⟩
noncomputable def lvB (a b : Nat) (z : Bool) (kq kr : Nat) (lq lr : List Int) : FuncId → Lv := lvOf 113 (fun i => match i with | 4 => some [0, 1, 6, 7, 8] | _ => some [0, 1, 6, 7, 8, 9]) (oneL 4 (eAt 2 (sB0 a b ((nd a : Int) - 1)) (aB a b z kq kr lq lr)))
theorem lvB_ok (a b : Nat) (z : Bool) (kq kr : Nat) (lq lr : List Int) : LvOK Tryz.prog (lvB a b z kq kr lq lr) := lvOf_ok Tryz.func113 fun y hy id e' hid he K t => by
  have h1 : loopBodies (bodyOf Tryz.f113) = [loopB1, loopB2] := by kernel_rfl
  rw [h1] at hy
  obtain ⟨rfl, h4⟩ := oneL_some he
  rcases List.mem_cons.1 hy with rfl | hy
  · exact eAt_ok (aB_ok a b z kq kr lq lr) K t
  · obtain rfl := List.mem_singleton.1 hy
    have h2 : headReg loopB2 = some 8 := by kernel_rfl
    rw [h2, h4] at hid; cases hid
def tTr : Tab := [(101, eTrH)]
theorem by_0 (a b kq kr : Nat) (lq lr : List Int) : Comes tTr (lvB a b true kq kr lq lr) 113 [.dsl 0 (nd a), .dsl 1 (nd b)] (two a b) (.chk (eqSt (sB0 a b (dwn (nd a))) (sB0 a b ((nd a : Int) - 1))) (.chk (decide (nd a ≤ 190000 ∧ nd b ≤ 190000 ∧ 0 < b)) (.chk (decide (true = decide (nd a = 0) ∧ kq = nd a ∧ kr = nd (a % b) ∧ lq = dN (nd a) (a / b) ∧ lr = dg (a % b)))
  (.ret (.tuple [.nilslice, .nilslice]) (two a b))))) := by unfold Comes; kernel_rfl
theorem by_V (a b kq kr : Nat) (lq lr : List Int) : Comes tTr (lvB a b false kq kr lq lr) 113 [.dsl 0 (nd a), .dsl 1 (nd b)] (two a b) (.chk (eqSt (sB0 a b (dwn (nd a))) (sB0 a b ((nd a : Int) - 1))) (.chk (decide (nd a ≤ 190000 ∧ nd b ≤ 190000 ∧ 0 < b)) (.chk (decide (false = decide (nd a = 0) ∧ kq = nd a ∧ kr = nd (a % b) ∧ lq = dN (nd a) (a / b) ∧ lr = dg (a % b)))
  (.chk (decide (kq ≤ lq.length ∧ lq.length < 1099511627776)) (.ret (.tuple [.dsl 2 (trimN lq kq), .dsl 3 kr]) (two a b ++ [.flatI true (lq.take (trimN lq kq)), .flatI true lr])))))) := by unfold Comes; kernel_rfl
theorem by_meets (a b : Nat) (ha : nd a ≤ 190000) (hb : nd b ≤ 190000) (h0 : 0 < b) : Meets Tryz.prog 113 [.dsl 0 (nd a), .dsl 1 (nd b)] [FL a, FL b] (.tuple [.dsl 2 (nd (a / b)), .dsl 3 (nd (a % b))]) [FL a, FL b, FT (a / b), FT (a % b)] := by
  have ed : dwn (nd a) = (nd a : Int) - 1 := i64_in (by omega) (by omega)
  by_cases h : nd a = 0
  · have ez : a = 0 := nd_eq_zero h
    have k := meets_ent (T := tTr) (pre := two a b) (post := two a b) (res := .tuple [.nilslice, .nilslice]) (.cons eTrH_ok .nil) host ((by_0 a b (nd a) (nd (a % b)) (dN (nd a) (a / b)) (dg (a % b))).trans (by
      rw [chkT (by rw [ed]; exact eqSt_refl _), chkT (decide_eq_true ⟨ha, hb, h0⟩), chkT (decide_eq_true ⟨(decide_eq_true h).symm, rfl, rfl, rfl, rfl⟩)]; rfl)) (lvB_ok _ _ _ _ _ _ _)
    have e1 : a / b = 0 := by rw [ez, Nat.zero_div]
    have e2 : a % b = 0 := by rw [ez, Nat.zero_mod]
    rw [e1, e2, FT, dg_zero, nd_zero]
    have k2 := meets_sealNil (res' := .tuple [.dsl 2 0, .nilslice]) k (by simp [two]) fun E E' x hx hle h2 => by
      simp only [den, denL] at hx ⊢
      rw [show (List.map PObj.toA (two a b)).length = 2 from rfl] at h2
      rw [h2]; simpa using hx
    exact meets_sealNil (res' := .tuple [.dsl 2 0, .dsl 3 0]) k2 (by simp [two]) fun E E' x hx hle h2 => by
      simp only [den, denL] at hx ⊢
      rw [show (List.map PObj.toA (two a b) ++ [AObj.flat true []]).length = 3 from rfl] at h2
      rw [h2]
      cases hE : E 2 with
      | none => rw [hE] at hx; simp at hx
      | some p => rw [hle _ _ hE]; rw [hE] at hx; simpa using hx
  · have ht := trim_y (k := nd a) (y := a / b) by_fit
    have k := meets_ent (T := tTr) (pre := two a b) (post := two a b ++ [.flatI true (dg (a / b)), .flatI true (dg (a % b))]) (res := .tuple [.dsl 2 (nd (a / b)), .dsl 3 (nd (a % b))]) (.cons eTrH_ok .nil) host ((by_V a b (nd a) (nd (a % b)) (dN (nd a) (a / b)) (dg (a % b))).trans (by
      rw [chkT (by rw [ed]; exact eqSt_refl _), chkT (decide_eq_true ⟨ha, hb, h0⟩), chkT (decide_eq_true ⟨(decide_eq_false h).symm, rfl, rfl, rfl, rfl⟩), chkT (decide_eq_true ⟨by rw [dN_length]; exact Nat.le_refl _, by rw [dN_length]; omega⟩), ht.2, ht.1]; rfl)) (lvB_ok _ _ _ _ _ _ _)
    exact k
theorem gBy_ok : EntOK Tryz.prog 113 (gBy (numF NR)) := fun args pre => by
  unfold gBy; split
  · rename_i k k1 m l m1 l1
    refine ⟨fun hb => ?_, fun _ => trivial⟩
    obtain ⟨h1, h2⟩ := Bool.and_eq_true_iff.1 hb
    obtain ⟨g2, h3⟩ := Bool.and_eq_true_iff.1 h2
    obtain ⟨a, ea, ta, rfl, na⟩ := isD_get h1
    obtain ⟨b, eb, tb, rfl, nb⟩ := isD_get g2
    rw [ea, eb] at h3
    show Meets _ _ _ _ (.tuple [.dsl 2 (nd (nT l _ / nT l1 _)), .dsl 3 (nd (nT l _ % nT l1 _))]) [_, _, AObj.flat true (ints .i64 (dg (nT l _ / nT l1 _))), AObj.flat true (ints .i64 (dg (nT l _ % nT l1 _)))]
    rw [ea, eb]
    exact meets_fitF (m' := m1) (l := l1) (meets_fitF (m' := m) (l := l) (let h4 := of_decide_eq_true h3; by_meets a b h4.2.1 h4.2.2 h4.1) (j := 0) rfl ta) (j := 1) rfl tb
  · trivial
end Go.Proofs.YtdomenmfkbfakaaGreatDoor

/- The document's rounding of a quotient to a decimal. -/
set_option linter.unusedVariables false
set_option linter.unusedSimpArgs false
namespace Go.Proofs.YtdomenmfkbfakaaGreatDoor
open Go Sx Rf Dc Rr Dq
def nearDo (b : Bool) : Option (Nat × Int) → Int × Int
  | none => (0, 0)
  | some (q, e) => (sgn b (trimmedS q e).1, (trimmedS q e).2)
def nearXo : Option (Nat × Int) → Int
  | none => 10
  | some _ => 0
def nearD (b : Bool) (N M : Nat) : Int × Int := nearDo b (nearG N M 19 0)
def nearX (N M : Nat) : Int := nearXo (nearG N M 19 0)
theorem trimD_le : ∀ (n : Nat) (m e : Int), ((trimD n m e).1.natAbs ≤ m.natAbs)
  | 0, m, e => by simp [trimD]
  | n + 1, m, e => by
    rw [trimD]
    split
    · have ih := trimD_le n (m.tdiv 10) (e + 1)
      have h : (m.tdiv 10).natAbs ≤ m.natAbs := by rw [Int.natAbs_tdiv]; exact Nat.div_le_self _ _
      omega
    · simp only []; omega
theorem low_le (m e : Int) : (trimmedS m e).1.natAbs ≤ m.natAbs := by
  unfold trimmedS
  split
  · simp
  · exact trimD_le _ _ _
noncomputable abbrev loopNr : Code := (loopBodies (bodyOf Tryz.f81)).headD .skip
def tabNr (x : NumF) : Tab := [(85, gT x), (82, gE x 0), (83, gL x), (114, gD x 0), (113, gBy x), (115, gA x), (116, gO x), (117, gV x)]
def nrS (b : Bool) (l l1 : List Int) (k k1 : Nat) (e : Int) : PState := ⟨some (.bool b) :: some (.dsl 0 k) :: some (.dsl 1 k1) :: none :: none :: none :: some (.ptr 2 0) :: some (.int .i64 0) :: some (.int .i64 e) :: List.replicate 56 none, some (.flatI false l) :: some (.flatI false l1) :: some (.raw (.cells [.int .i64 0, .int .i64 0] 23)) :: List.replicate 64 none⟩
def nrF (l l1 : List Int) (t : Int × Int) : PState := ⟨none :: none :: none :: none :: none :: none :: some (.ptr 2 0) :: some (.int .i64 0) :: List.replicate 57 none, some (.flatI false l) :: some (.flatI false l1) :: some (.raw (.cells [.int .i64 t.1, .int .i64 t.2] 23)) :: List.replicate 64 none⟩
def wrN (a : Int) : Int := IntKind.i64.wrap a
abbrev kN : Nat → Bool := fun n => hasN [0, 1, 2, 6, 7, 8] n
abbrev kNx : Nat → Bool := fun n => hasN [6, 7] n
def ck2 {α : Type} (b : Bool) (y : Option α) : Option α := bcond b y none
def finQ (x : NumF) (b : Bool) (l l1 : List Int) (k k1 : Nat) (e : Int) (u : List Int) (ku : Nat) : OX :=
  ck2 (x.okE 0 999999999999999 0) (ck2 (x.okL (x.E 0 999999999999999 0) (x.kE 0 999999999999999 0) u ku) (bcond (x.L (x.E 0 999999999999999 0) (x.kE 0 999999999999999 0) u ku) (some (.normal, nrS b l l1 k k1 (wrN (e + 1))))
    (ck2 (x.okV u ku) (ck2 (x.okO (x.V u ku) e) (bcond b (some (.ret, nrF l l1 (wrN (0 - (x.O (x.V u ku) e).1), (x.O (x.V u ku) e).2))) (some (.ret, nrF l l1 ((x.O (x.V u ku) e).1, (x.O (x.V u ku) e).2))))))))
def upQ (x : NumF) (b : Bool) (l l1 : List Int) (k k1 : Nat) (e : Int) (q : List Int) (kq : Nat) : OX := ck2 (x.okD 0 q kq [1] 1) (finQ x b l l1 k k1 e (x.D 0 q kq [1] 1) (x.kD 0 q kq [1] 1))
def rndQ (x : NumF) (b : Bool) (l l1 : List Int) (k k1 : Nat) (e : Int) (d : List Int) (kd : Nat) (q : List Int) (kq : Nat) (t : List Int) (kt : Nat) : OX :=
  ck2 (x.okL d kd t kt) (bcond (x.L d kd t kt) (upQ x b l l1 k k1 e q kq) (ck2 (x.okL t kt d kd) (bcond (!(x.L t kt d kd)) (ck2 (x.okA q kq 0) (bcond ((x.A q kq 0).tmod 2 == 1) (upQ x b l l1 k k1 e q kq) (finQ x b l l1 k k1 e q kq))) (finQ x b l l1 k k1 e q kq))))
def divQ (x : NumF) (b : Bool) (l l1 : List Int) (k k1 : Nat) (e : Int) (n : List Int) (kn : Nat) (d : List Int) (kd : Nat) : OX :=
  ck2 (x.okD 3 n kn d kd) (ck2 (x.okD 0 (x.D 4 n kn d kd) (x.kD 4 n kn d kd) (x.D 4 n kn d kd) (x.kD 4 n kn d kd)) (rndQ x b l l1 k k1 e d kd (x.D 3 n kn d kd) (x.kD 3 n kn d kd)
    (x.D 0 (x.D 4 n kn d kd) (x.kD 4 n kn d kd) (x.D 4 n kn d kd) (x.kD 4 n kn d kd)) (x.kD 0 (x.D 4 n kn d kd) (x.kD 4 n kn d kd) (x.D 4 n kn d kd) (x.kD 4 n kn d kd))))
theorem roundN (x : NumF) (b : Bool) (l l1 : List Int) (k k1 : Nat) (e : Int) : code (ent (R := Ex × PState) Tryz.prog (tabNr x) nolv 64 18446744073709551616 30) Tryz.prog {} 2 64 18446744073709551616 loopNr (nrS b l l1 k k1 e) (endK 2 64 kN kNx) =
    bcond (decide (e ≤ 9)) (ck2 (x.okT l1 k1 e) (ck2 (x.okT l k (wrN (0 - e))) (divQ x b l l1 k k1 e (x.T l k (wrN (0 - e))) (x.kT l k (wrN (0 - e))) (x.T l1 k1 e) (x.kT l1 k1 e)))) (some (.exit 0, nrF l l1 (0, 0))) := by kernel_rfl
variable {NR : Bool → Nat → Nat → Int × Int × Int}

theorem finQ_dg {b : Bool} {N M : Nat} {e : Int} {u : Nat} (hu : nd u ≤ 200000) (he : -9 ≤ e ∧ e ≤ 9) : finQ (numF NR) b (dg N) (dg M) (nd N) (nd M) e (dg u) (nd u) =
    if u ≤ 999999999999999 then some (.ret, nrF (dg N) (dg M) (nearDo b (some (u, e)))) else some (.normal, nrS b (dg N) (dg M) (nd N) (nd M) (e + 1)) := by
  obtain ⟨C, hC, hv⟩ : ∃ C, (999999999999999 : Int).natAbs = C ∧ C = 999999999999999 := ⟨_, rfl, rfl⟩
  have c1 : nd C ≤ 20 := nd_small (by omega)
  unfold finQ ck2
  rw [bcT (okE0 (by decide)), E0, kE0, hC, bcT (okL_dg (by omega) hu), L_dg]
  by_cases h : u ≤ 999999999999999
  · have hl := low_le (u : Int) e
    have w : wrN (0 - (trimmedS (u : Int) e).1) = -(trimmedS (u : Int) e).1 := by unfold wrN; rw [i64_in (by omega) (by omega)]; omega
    rw [bcF (b := decide _) (decide_eq_false (by omega)), if_pos h, bcT (okV_dg hu (by omega)), V_dg, bcT (okO_of ⟨by omega, by omega⟩), O_eq, w]
    cases b <;> rfl
  · have w : wrN (e + 1) = e + 1 := by unfold wrN; rw [i64_in (by omega) (by omega)]
    rw [bcT (b := decide _) (decide_eq_true (by omega)), if_neg h, w]
theorem divQ_dg {b : Bool} {N M : Nat} {e : Int} {n d : Nat} (hn : nd n ≤ 150000) (hd : nd d ≤ 150000) (h0 : 0 < d) (he : -9 ≤ e ∧ e ≤ 9) : divQ (numF NR) b (dg N) (dg M) (nd N) (nd M) e (dg n) (nd n) (dg d) (nd d) =
    if rndE n d ≤ 999999999999999 then some (.ret, nrF (dg N) (dg M) (nearDo b (some (rndE n d, e)))) else some (.normal, nrS b (dg N) (dg M) (nd N) (nd M) (e + 1)) := by
  have q1 : nd (n / d) ≤ nd n := nd_mono (Nat.div_le_self n d)
  have r1 : nd (n % d) ≤ nd d := nd_mono (Nat.le_of_lt (Nat.mod_lt n h0))
  have t1 := nd_add (a := n % d) (b := n % d)
  have u1 := nd_add (a := n / d) (b := 1)
  rw [nd_one] at u1
  have up : upQ (numF NR) b (dg N) (dg M) (nd N) (nd M) e (dg (n / d)) (nd (n / d)) = if n / d + 1 ≤ 999999999999999 then some (.ret, nrF (dg N) (dg M) (nearDo b (some (n / d + 1, e)))) else some (.normal, nrS b (dg N) (dg M) (nd N) (nd M) (e + 1)) := by
    unfold upQ ck2
    rw [bcT (okD1 (by omega)), D1, kD1]
    exact finQ_dg (by omega) he
  have fin := finQ_dg (NR := NR) (b := b) (N := N) (M := M) (u := n / d) (by omega) he
  have a3 : (numF NR).D 3 (dg n) (nd n) (dg d) (nd d) = dg (n / d) := D_dg
  have a4 : (numF NR).D 4 (dg n) (nd n) (dg d) (nd d) = dg (n % d) := D_dg
  have b3 : (numF NR).kD 3 (dg n) (nd n) (dg d) (nd d) = nd (n / d) := kD_dg
  have b4 : (numF NR).kD 4 (dg n) (nd n) (dg d) (nd d) = nd (n % d) := kD_dg
  have a0 : (numF NR).D 0 (dg (n % d)) (nd (n % d)) (dg (n % d)) (nd (n % d)) = dg (n % d + n % d) := D_dg
  have b0 : (numF NR).kD 0 (dg (n % d)) (nd (n % d)) (dg (n % d)) (nd (n % d)) = nd (n % d + n % d) := kD_dg
  unfold divQ ck2
  rw [bcT (okD_dg (o := 3) (by omega) (by omega) (decide_eq_true ⟨h0, by omega, by omega⟩)), a3, a4, b3, b4, bcT (okD_dg (o := 0) (by omega) (by omega) rfl), a0, b0]
  unfold rndQ ck2
  rw [bcT (okL_dg (by omega) (by omega)), L_dg, up, fin]
  by_cases c1 : d < n % d + n % d
  · rw [bcT (decide_eq_true c1), rnd_up (.inl c1)]
  · rw [bcF (decide_eq_false c1), bcT (okL_dg (by omega) (by omega)), L_dg]
    by_cases c2 : n % d + n % d < d
    · rw [bcF (b := !_) (by rw [decide_eq_true c2]; rfl), rnd_dn (fun h => h.elim c1 fun k => k.1 c2)]
    · rw [bcT (b := !_) (by rw [decide_eq_false c2]; rfl), bcT (okA_dg (by omega) (by omega)), A_dg]
      have ev : (((n / d / 10 ^ (0 : Int).toNat % 10 : Nat) : Int).tmod 2 == 1) = decide (n / d / 10 ^ 0 % 10 % 2 = 1) := by
        rw [show (0 : Int).toNat = 0 from rfl, Bool.eq_iff_iff, beq_iff_eq, decide_eq_true_eq, Int.tmod_eq_emod_of_nonneg (by omega)]
        omega
      rw [ev]
      by_cases c3 : n / d / 10 ^ 0 % 10 % 2 = 1
      · rw [bcT (decide_eq_true c3), rnd_up (.inr ⟨c2, c3⟩)]
      · rw [bcF (decide_eq_false c3), rnd_dn (fun h => h.elim c1 fun k => c3 k.2)]
theorem round_dg {b : Bool} {N M : Nat} {e : Int} (hN : nd N < 100000) (hM : nd M < 100000) (hM0 : 0 < M) (he : -9 ≤ e ∧ e ≤ 9) : code (ent (R := Ex × PState) Tryz.prog (tabNr (numF NR)) nolv 64 18446744073709551616 30) Tryz.prog {} 2 64 18446744073709551616 loopNr (nrS b (dg N) (dg M) (nd N) (nd M) e) (endK 2 64 kN kNx) =
    if rndE (nE N e) (dE M e) ≤ 999999999999999 then some (.ret, nrF (dg N) (dg M) (nearDo b (some (rndE (nE N e) (dE M e), e)))) else some (.normal, nrS b (dg N) (dg M) (nd N) (nd M) (e + 1)) := by
  have w : wrN (0 - e) = -e := by unfold wrN; rw [i64_in (by omega) (by omega)]; omega
  have n1 := nd_pow (x := N) (k := (-e).toNat)
  have d1 := nd_pow (x := M) (k := e.toNat)
  rw [roundN, bcT (decide_eq_true he.2), w]
  unfold ck2
  rw [bcT (okT_dg (by omega) (by omega)), bcT (okT_dg (by omega) (by omega)), T_dg, T_dg, kT_dg, kT_dg]
  exact divQ_dg (by omega) (by omega) (Nat.mul_pos hM0 (Nat.pow_pos (by decide))) he
theorem tabNr_ok : TabOK Tryz.prog (tabNr (numF NR)) := .cons gT_ok (.cons g42_ok (.cons gL_ok (.cons (gD_ok fun a b ha hb _ => plus_meets a b (by omega) (by omega)) (.cons gBy_ok (.cons gA_ok (.cons gO_ok (.cons gV_ok .nil)))))))
def exO : Option (Nat × Int) → Ex
  | none => .exit 0
  | some _ => .ret
theorem loopN_dg (b : Bool) (N M : Nat) (hN : nd N < 100000) (hM : nd M < 100000) (hM0 : 0 < M) (o : Option (Nat × Int)) (h : nearG N M 19 0 = o) :
    Tri Tryz.prog (.loop loopNr) (nrS b (dg N) (dg M) (nd N) (nd M) (-9)).toA (exO o) (nrF (dg N) (dg M) (nearDo b o)).toA 2 := by
  refine loop_rounds (P := Tryz.prog) (H := ent (R := Ex × PState) Tryz.prog (tabNr (numF fun _ _ _ => (0, 0, 0))) nolv 64 18446744073709551616 30) (ι := { q : Nat × Nat // q.1 + q.2 = 19 ∧ nearG N M q.1 q.2 = o }) (NF := 64) (m := 18446744073709551616) (lv := {}) (ent_sound (tabNr_ok (NR := fun _ _ _ => (0, 0, 0))) host nolv_ok 30) (x := loopNr) (K := 2) (fun x hx id e h1 h2 => by cases h2) kN kNx (fun q => nrS b (dg N) (dg M) (nd N) (nd M) ((q.1.2 : Int) - 9)) (fun q => q.1.1) (fun _ => (exO o, nrF (dg N) (dg M) (nearDo b o))) ?_ (fun _ => by cases o <;> simp [exO]) ⟨(19, 0), rfl, h⟩
  rintro ⟨⟨n, j⟩, hj, h⟩
  simp only at hj h ⊢
  cases n with
  | zero =>
    right
    have : o = none := h.symm
    subst this
    rw [roundN, bcF (decide_eq_false (by omega))]; rfl
  | succ n =>
    rw [round_dg hN hM hM0 (by omega)]
    rw [nearG] at h
    by_cases c : rndE (nE N ((j : Int) - 9)) (dE M ((j : Int) - 9)) ≤ 999999999999999
    · rw [if_pos c] at h ⊢
      right; subst h; rfl
    · rw [if_neg c] at h ⊢
      exact .inl ⟨⟨(n, j + 1), by simp only; omega, h⟩, Nat.lt_succ_self n, trivial, by rw [show (j : Int) - 9 + 1 = ((j + 1 : Nat) : Int) - 9 by omega]⟩
noncomputable def aN (b : Bool) (N M : Nat) (o : Option (Nat × Int)) (ex : Ex) (t : Int × Int) : LAns := .chk (clB (nd N < 100000 ∧ nd M < 100000 ∧ 0 < M ∧ nearG N M 19 0 = o ∧ ex = exO o ∧ t = nearDo b o)) (.out ex (nrF (dg N) (dg M) t))
theorem aN_ok (b : Bool) (N M : Nat) (o : Option (Nat × Int)) (ex : Ex) (t : Int × Int) : LAnsOK Tryz.prog loopNr 2 (nrS b (dg N) (dg M) (nd N) (nd M) (-9)) (aN b N M o ex t) := ⟨fun g => by
  obtain ⟨h1, h2, h3, h4, rfl, rfl⟩ := clB_of g
  exact loopN_dg b N M h1 h2 h3 o h4, fun _ => trivial⟩
noncomputable def lvN (b : Bool) (N M : Nat) (o : Option (Nat × Int)) (ex : Ex) (t : Int × Int) : FuncId → Lv := lvOf 81 (fun _ => some [0, 1, 2, 6, 7, 8]) (oneL 2 (eAt 2 (nrS b (dg N) (dg M) (nd N) (nd M) (-9)) (aN b N M o ex t)))
theorem lvN_ok (b : Bool) (N M : Nat) (o : Option (Nat × Int)) (ex : Ex) (t : Int × Int) : LvOK Tryz.prog (lvN b N M o ex t) := lvOne_ok (x := loopNr) Tryz.func81 (by kernel_rfl) fun K u => eAt_ok (aN_ok b N M o ex t) K u
theorem near_none (b : Bool) (N M : Nat) (o : Option (Nat × Int)) (t : Int × Int) : Comes [] (lvN b N M o (.exit 0) t) 81 [.bool b, .dsl 0 (nd N), .dsl 1 (nd M)] (two N M)
  (.chk (eqSt (nrS b (dg N) (dg M) (nd N) (nd M) (-9)) (nrS b (dg N) (dg M) (nd N) (nd M) (-9))) (.chk (clB (nd N < 100000 ∧ nd M < 100000 ∧ 0 < M ∧ nearG N M 19 0 = o ∧ Ex.exit 0 = exO o ∧ t = nearDo b o)) (.ret (R3 (0, 0, 10)) (two N M)))) := by unfold Comes; kernel_rfl
theorem near_some (b : Bool) (N M : Nat) (o : Option (Nat × Int)) (t : Int × Int) : Comes [] (lvN b N M o .ret t) 81 [.bool b, .dsl 0 (nd N), .dsl 1 (nd M)] (two N M)
  (.chk (eqSt (nrS b (dg N) (dg M) (nd N) (nd M) (-9)) (nrS b (dg N) (dg M) (nd N) (nd M) (-9))) (.chk (clB (nd N < 100000 ∧ nd M < 100000 ∧ 0 < M ∧ nearG N M 19 0 = o ∧ Ex.ret = exO o ∧ t = nearDo b o)) (.ret (R3 (t.1, t.2, 0)) (two N M)))) := by unfold Comes; kernel_rfl
theorem near_core (b : Bool) (N M : Nat) (hN : nd N < 100000) (hM : nd M < 100000) (hM0 : 0 < M) (o : Option (Nat × Int)) (h : nearG N M 19 0 = o) :
    Meets Tryz.prog 81 [.bool b, .dsl 0 (nd N), .dsl 1 (nd M)] [FL N, FL M] (R3 ((nearDo b o).1, (nearDo b o).2, nearXo o)) [FL N, FL M] := by
  cases o with
  | none => exact meets_ent (T := []) (pre := two N M) (post := two N M) .nil host ((near_none b N M none (nearDo b none)).trans (by rw [chkT (eqSt_refl _), chkT (clB_to ⟨hN, hM, hM0, h, rfl, rfl⟩)]; rfl)) (lvN_ok _ _ _ _ _ _)
  | some p => exact meets_ent (T := []) (pre := two N M) (post := two N M) .nil host ((near_some b N M (some p) (nearDo b (some p))).trans (by rw [chkT (eqSt_refl _), chkT (clB_to ⟨hN, hM, hM0, h, rfl, rfl⟩)]; rfl)) (lvN_ok _ _ _ _ _ _)
def nrR (b : Bool) (N M : Nat) : Int × Int × Int := ((nearD b N M).1, (nearD b N M).2, nearX N M)
theorem nrR_ok (b : Bool) (N M : Nat) (hN : nd N < 100000) (hM : nd M < 100000) (h0 : 0 < M) : Meets Tryz.prog 81 [.bool b, .dsl 0 (nd N), .dsl 1 (nd M)] [FL N, FL M] (R3 (nrR b N M)) [FL N, FL M] := by
  unfold nrR nearD nearX
  exact near_core b N M hN hM h0 _ rfl
end Go.Proofs.YtdomenmfkbfakaaGreatDoor

/- The document's decimals: which are right, of whole numbers, quotients. -/
set_option linter.unusedVariables false
set_option linter.unusedSimpArgs false
namespace Go.Proofs.YtdomenmfkbfakaaGreatDoor
open Go Sx Rf Dc Rr Dq
abbrev dcA (a b : Int) : AV := .agg [.int .i64 a, .int .i64 b]
def rtT (a b : Int) (x y : Bool) (z : Bool → Bool → Bool) : Ans := .br (decide (a < -999999999999999)) (.ret (.bool false) []) (.br (decide (a > 999999999999999)) (.ret (.bool false) []) (.br (decide (b < -9)) (.ret (.bool false) []) (.br (decide (b > 9)) (.ret (.bool false) []) (.br (a == 0) (.ret (.bool (b == 0)) []) (.br x (.ret (.bool true) []) (.ret (.bool y) []))))))
theorem rt_doc (a b : Int) : Comes [] nolv 86 [dcA a b] [] (rtT a b (a.tmod 10 != 0) (b == 9) fun x y => x) := by unfold Comes; kernel_rfl
theorem rt_run {a b : Int} {x y : Bool} {z : Bool → Bool → Bool} (h : (x || y) = ((b == 9) || (a.tmod 10 != 0))) : (rtT a b x y z).run pure2 = pure2 (.bool (rightB a b)) [] := by
  unfold rtT
  by_cases h1 : a < -999999999999999
  · rw [brT (decide_eq_true h1), show rightB a b = false from decide_eq_false (by omega)]; rfl
  by_cases h2 : a > 999999999999999
  · rw [brF (decide_eq_false h1), brT (decide_eq_true h2), show rightB a b = false from decide_eq_false (by omega)]; rfl
  by_cases h3 : b < -9
  · rw [brF (decide_eq_false h1), brF (decide_eq_false h2), brT (decide_eq_true h3), show rightB a b = false from decide_eq_false (by omega)]; rfl
  by_cases h4 : b > 9
  · rw [brF (decide_eq_false h1), brF (decide_eq_false h2), brF (decide_eq_false h3), brT (decide_eq_true h4), show rightB a b = false from decide_eq_false (by omega)]; rfl
  rw [brF (decide_eq_false h1), brF (decide_eq_false h2), brF (decide_eq_false h3), brF (decide_eq_false h4)]
  by_cases h5 : a = 0
  · rw [brT (beq_iff_eq.2 h5)]
    have : rightB a b = (b == 0) := by
      unfold rightB
      by_cases h6 : b = 0
      · rw [decide_eq_true (by omega), beq_iff_eq.2 h6]
      · rw [decide_eq_false (by omega), beq_eq_false_iff_ne.2 h6]
    rw [this]; rfl
  · rw [brF (beq_eq_false_iff_ne.2 h5)]
    have : rightB a b = (x || y) := by
      rw [h]
      unfold rightB
      by_cases h6 : b = 9
      · rw [decide_eq_true (by omega), beq_iff_eq.2 h6]; rfl
      · rw [beq_eq_false_iff_ne.2 h6, Bool.false_or]
        by_cases h7 : a.tmod 10 = 0
        · rw [decide_eq_false (by omega), bne_eq_false_iff_eq.2 h7]
        · rw [decide_eq_true (by omega), bne_iff_ne.2 h7]
    rw [this]
    cases x <;> rfl
def eRt : Ent := fun args pre => match args, pre with
  | [.agg [.int .i64 a, .int .i64 b]], [] => .ret (.bool (rightB a b)) []
  | _, _ => .fail
theorem eRtR_ok : EntOK Tryz.prog 86 eRt := fun args pre => by
  unfold eRt; split
  · exact of_run (ans_comes .nil (rt_doc _ _)) fun r hr => (rt_run (Bool.or_comm _ _)).trans hr
  · trivial
-- whole
variable {NR : Bool → Nat → Nat → Int × Int × Int}
theorem wh_comes (x : NumF) (a b : Int) : Comes (tabNr x) nolv 84 [dcA a b] [] (.chk (x.okE 0 a 0) (.chk (x.okT (x.E 0 a 0) (x.kE 0 a 0) (wrN (b + 9))) (.ret (.dsl 0 (x.kT (x.E 0 a 0) (x.kE 0 a 0) (wrN (b + 9)))) [.flatI true (x.T (x.E 0 a 0) (x.kE 0 a 0) (wrN (b + 9)))]))) := by unfold Comes; kernel_rfl
theorem gW_ok : EntOK Tryz.prog 84 (gW (numF NR)) := fun args pre => by
  unfold gW; split
  · rename_i n m
    refine ⟨fun hb => ?_, fun _ => trivial⟩
    have hb := of_decide_eq_true hb
    have w : wrN (m + 9) = m + 9 := by unfold wrN; exact i64_in (by omega) (by omega)
    have h20 := nd_small (n := n.natAbs) (by omega)
    exact meets_ent (pre := []) (tabNr_ok (NR := NR)) host ((wh_comes (numF NR) n m).trans (by
      rw [chkT (okE0 (inI_iff.2 ⟨by omega, by omega⟩)), E0, kE0, w, chkT (okT_dg (by omega) (by omega)), T_dg, kT_dg]; rfl))
  · trivial
theorem gN1_ok (h : ∀ b N M, nd N < 100000 → nd M < 100000 → 0 < M → Meets Tryz.prog 81 [.bool b, .dsl 0 (nd N), .dsl 1 (nd M)] [FL N, FL M] (R3 (NR b N M)) [FL N, FL M]) : EntOK Tryz.prog 81 (gN1 (numF NR)) := fun args pre => by
  unfold gN1; split
  · rename_i b k k1 m l l1 t
    refine ⟨fun hb => ?_, fun _ => trivial⟩
    obtain ⟨h1, g2⟩ := Bool.and_eq_true_iff.1 hb
    obtain ⟨g3, h3⟩ := Bool.and_eq_true_iff.1 g2
    have h3 := of_decide_eq_true h3
    obtain ⟨a, ea, ta, rfl, na⟩ := isD_get h1
    obtain ⟨c, ec, tc, rfl, nc⟩ := isD_get g3
    rw [ec] at h3
    show Meets _ _ _ _ (R3 (NR b (nT l _) (nT l1 _))) _
    rw [ea, ec]
    exact meets_args (meets_fitV (l := l1) (t := t) (meets_fitF (m' := m) (l := l) (h b a c (by omega) (by omega) h3.2.2) (j := 0) rfl ta) (j := 1) rfl tc) fun E xs hx => by
      obtain ⟨a, zs, ha, hz, rfl⟩ := denL_cons.1 hx
      obtain ⟨b, ys, hb, hy, rfl⟩ := denL_cons.1 hz
      obtain ⟨c, us, hc, hu, rfl⟩ := denL_cons.1 hy
      exact denL_cons.2 ⟨a, _, ha, denL_cons.2 ⟨b, _, hb, denL_cons.2 ⟨c, us, den_asD hc, hu, rfl⟩, rfl⟩, rfl⟩
  · rename_i b k k1 m l m1 l1
    refine ⟨fun hb => ?_, fun _ => trivial⟩
    obtain ⟨h1, g2⟩ := Bool.and_eq_true_iff.1 hb
    obtain ⟨g3, h3⟩ := Bool.and_eq_true_iff.1 g2
    have h3 := of_decide_eq_true h3
    obtain ⟨a, ea, ta, rfl, na⟩ := isD_get h1
    obtain ⟨c, ec, tc, rfl, nc⟩ := isD_get g3
    rw [ec] at h3
    show Meets _ _ _ _ (R3 (NR b (nT l _) (nT l1 _))) _
    rw [ea, ec]
    exact meets_fitF (m' := m1) (l := l1) (meets_fitF (m' := m) (l := l) (h b a c (by omega) (by omega) h3.2.2) (j := 0) rfl ta) (j := 1) rfl tc
  · trivial
def tOf (x : NumF) : Tab := (84, gW x) :: (81, gN1 x) :: (86, eRt) :: tabNr x
theorem tOf_ok (h : ∀ b N M, nd N < 100000 → nd M < 100000 → 0 < M → Meets Tryz.prog 81 [.bool b, .dsl 0 (nd N), .dsl 1 (nd M)] [FL N, FL M] (R3 (NR b N M)) [FL N, FL M]) : TabOK Tryz.prog (tOf (numF NR)) := .cons gW_ok (.cons (gN1_ok h) (.cons eRtR_ok tabNr_ok))
/-- A decimal as a whole number of billionths, without its sign. -/
def wN (m e : Int) : Nat := m.natAbs * 10 ^ (e + 9).toNat
def badA : Ans := .ret (R3 (0, 0, 10)) []
def ofT (x : NumF) (a : Int) (r : Int × Int × Int) : Ans :=
  .chk (x.okE 0 a 0) (.chk (x.okN (decide (a < 0)) (x.E 0 a 0) (x.kE 0 a 0) [1] 1) (.br (r.2.2 != 0) badA (.chk (x.okE 2 r.1 r.2.1) (.chk (x.okE 0 a 0) (.chk (x.okT (x.E 0 a 0) (x.kE 0 a 0) 9)
    (.chk (x.okL (x.E 2 r.1 r.2.1) (x.kE 2 r.1 r.2.1) (x.T (x.E 0 a 0) (x.kE 0 a 0) 9) (x.kT (x.E 0 a 0) (x.kE 0 a 0) 9)) (.br (x.L (x.E 2 r.1 r.2.1) (x.kE 2 r.1 r.2.1) (x.T (x.E 0 a 0) (x.kE 0 a 0) 9) (x.kT (x.E 0 a 0) (x.kE 0 a 0) 9)) badA
    (.chk (x.okE 0 a 0) (.chk (x.okT (x.E 0 a 0) (x.kE 0 a 0) 9) (.chk (x.okE 2 r.1 r.2.1) (.chk (x.okL (x.T (x.E 0 a 0) (x.kE 0 a 0) 9) (x.kT (x.E 0 a 0) (x.kE 0 a 0) 9) (x.E 2 r.1 r.2.1) (x.kE 2 r.1 r.2.1))
    (.br (x.L (x.T (x.E 0 a 0) (x.kE 0 a 0) 9) (x.kT (x.E 0 a 0) (x.kE 0 a 0) 9) (x.E 2 r.1 r.2.1) (x.kE 2 r.1 r.2.1)) badA (.ret (R3 (r.1, r.2.1, 0)) [])))))))))))))
theorem of_comes (x : NumF) (a : Int) : Comes (tOf x) nolv 35 [.int .i64 a] [] (ofT x a (x.N (decide (a < 0)) (x.E 0 a 0) (x.kE 0 a 0) [1] 1)) := by unfold Comes; kernel_rfl
def ofV (a : Int) (r : Int × Int × Int) : Int × Int × Int := if r.2.2 = 0 ∧ wN r.1 r.2.1 = a.natAbs * 10 ^ 9 then (r.1, r.2.1, 0) else (0, 0, 10)
theorem of_run' {a : Int} {r : Int × Int × Int} (ha : inI a = true) (hr : r.2.2 = 0 → rightB r.1 r.2.1 = true) (hN : NR (decide (a < 0)) a.natAbs 1 = r) : (ofT (numF NR) a r).run pure2 = pure2 (R3 (ofV a r)) [] := by
  have hi := inI_iff.1 ha
  have h20 := nd_small (n := a.natAbs) (by omega)
  have oE : (numF NR).okE 0 a 0 = true := okE0 ha
  have oN : (numF NR).okN (decide (a < 0)) (dg a.natAbs) (nd a.natAbs) [1] 1 = true := by
    show (isD _ _ && (isD _ _ && decide _)) = true
    rw [isD_dg (by omega), Bool.true_and]
    have e1 : isD [1] 1 = true := by have := isD_dg (a := 1) (by rw [nd_one]; omega); rwa [dg_one, nd_one] at this
    have e2 : nT [1] 1 = 1 := by have := nT_dg 1; rwa [dg_one, nd_one] at this
    rw [e1, e2, Bool.true_and]; exact decide_eq_true (by omega)
  unfold ofT ofV
  rw [chkT oE, E0, kE0, chkT oN]
  by_cases h : r.2.2 = 0
  · have hR := of_decide_eq_true (hr h)
    have oE2 : (numF NR).okE 2 r.1 r.2.1 = true := decide_eq_true (by omega)
    have e2 : (numF NR).E 2 r.1 r.2.1 = dg (wN r.1 r.2.1) := rfl
    have k2 : (numF NR).kE 2 r.1 r.2.1 = nd (wN r.1 r.2.1) := rfl
    have w20 : nd (wN r.1 r.2.1) ≤ 100 := by
      have h1 := nd_pow (x := r.1.natAbs) (k := (r.2.1 + 9).toNat)
      have h2 := nd_small (n := r.1.natAbs) (by omega)
      unfold wN; omega
    have t9 := nd_pow (x := a.natAbs) (k := (9 : Int).toNat)
    have t9' : nd (a.natAbs * 10 ^ (9 : Int).toNat) ≤ 100 := by omega
    rw [brF (bne_eq_false_iff_eq.2 h), chkT oE2, chkT oE, chkT (okT_dg (by omega) (by omega)), e2, k2, T_dg, kT_dg, chkT (okL_dg (by omega) (by omega)), L_dg]
    by_cases h3 : wN r.1 r.2.1 < a.natAbs * 10 ^ (9 : Int).toNat
    · rw [brT (decide_eq_true h3), if_neg (fun hh => by rw [hh.2] at h3; exact absurd h3 (Nat.lt_irrefl _))]; rfl
    · rw [brF (decide_eq_false h3), chkT oE, chkT (okT_dg (by omega) (by omega)), chkT oE2, chkT (okL_dg (by omega) (by omega)), L_dg]
      by_cases h4 : a.natAbs * 10 ^ (9 : Int).toNat < wN r.1 r.2.1
      · rw [brT (decide_eq_true h4), if_neg (fun hh => by rw [hh.2] at h4; exact absurd h4 (Nat.lt_irrefl _))]; rfl
      · rw [brF (decide_eq_false h4), if_pos ⟨h, by rw [show (9 : Int).toNat = 9 from rfl] at h3 h4; omega⟩]; rfl
  · rw [brT (bne_iff_ne.2 h), if_neg (fun hh => h hh.1)]; rfl
-- quotients
def divT (x : NumF) (a b c d : Int) (A : List Int) (k : Nat) (C : List Int) (j : Nat) : Ans :=
  .br (!rightB a b) badA (.br (!rightB c d) badA (.br (c == 0) (.ret (R3 (0, 0, 11)) []) (.chk (x.okE 2 a b) (.chk (x.okE 2 c d) (.chk (x.okN (decide (a < 0) != decide (c < 0)) A k C j) (.ret (R3 (x.N (decide (a < 0) != decide (c < 0)) A k C j)) []))))))
theorem div_comes (x : NumF) (a b c d : Int) : Comes (tOf x) nolv 36 [dcA a b, dcA c d] [] (divT x a b c d (x.E 2 a b) (x.kE 2 a b) (x.E 2 c d) (x.kE 2 c d)) := by unfold Comes; kernel_rfl
theorem w_nd {a b : Int} (h : rightB a b = true) : nd (wN a b) ≤ 100 := by
  have hR := of_decide_eq_true h
  have h1 := nd_pow (x := a.natAbs) (k := (b + 9).toNat)
  have h2 := nd_small (n := a.natAbs) (by omega)
  unfold wN; omega
theorem div_run' {a b c d : Int} {r : Int × Int × Int} (hA : rightB a b = true) (hC : rightB c d = true) (h0 : c ≠ 0) (hN : NR (decide (a < 0) != decide (c < 0)) (wN a b) (wN c d) = r) : (divT (numF NR) a b c d ((numF NR).E 2 a b) ((numF NR).kE 2 a b) ((numF NR).E 2 c d) ((numF NR).kE 2 c d)).run pure2 = pure2 (R3 r) [] := by
  have hR := of_decide_eq_true hA
  have hS := of_decide_eq_true hC
  have wa := w_nd hA
  have wc := w_nd hC
  have hp : 0 < wN c d := Nat.mul_pos (by omega) (Nat.pow_pos (by decide))
  have e : ∀ a b, (numF NR).E 2 a b = dg (wN a b) := fun _ _ => rfl
  have k : ∀ a b, (numF NR).kE 2 a b = nd (wN a b) := fun _ _ => rfl
  have o1 : (numF NR).okE 2 a b = true := decide_eq_true (by omega)
  have o2 : (numF NR).okE 2 c d = true := decide_eq_true (by omega)
  have oN : (numF NR).okN (decide (a < 0) != decide (c < 0)) (dg (wN a b)) (nd (wN a b)) (dg (wN c d)) (nd (wN c d)) = true := by
    show (isD _ _ && (isD _ _ && decide _)) = true
    rw [isD_dg (by omega), isD_dg (by omega), nT_dg, Bool.true_and, Bool.true_and]; exact decide_eq_true (by omega)
  have eN : (numF NR).N (decide (a < 0) != decide (c < 0)) (dg (wN a b)) (nd (wN a b)) (dg (wN c d)) (nd (wN c d)) = r := by
    show NR _ (nT _ _) (nT _ _) = r
    rw [nT_dg, nT_dg]; exact hN
  unfold divT
  rw [brF (b := !rightB a b) (by rw [hA]; rfl), brF (b := !rightB c d) (by rw [hC]; rfl), brF (beq_eq_false_iff_ne.2 h0), chkT o1, chkT o2, e, e, k, k, chkT oN, eN]; rfl
/-- What is rounded is right. -/
theorem nearG_in {N M : Nat} {p : Nat × Int} : ∀ (f j : Nat), j + f = 19 → nearG N M f j = some p → p.1 ≤ 999999999999999 ∧ -9 ≤ p.2 ∧ p.2 ≤ 9
  | 0, j, h, hp => by simp [nearG] at hp
  | f + 1, j, h, hp => by
    rw [nearG] at hp
    split at hp
    · rename_i hc; cases hp; exact ⟨hc, by simp only; omega, by simp only; omega⟩
    · exact nearG_in f (j + 1) (by omega) hp
theorem trimD_right : ∀ (n : Nat) (m e : Int), e + n = 9 → -9 ≤ e → m.natAbs ≤ 999999999999999 → m ≠ 0 → rightB (trimD n m e).1 (trimD n m e).2 = true
  | 0, m, e, h, h1, h2, h3 => by unfold trimD; exact decide_eq_true ⟨by omega, by omega, by omega, by omega, fun e => absurd e h3, fun _ => .inl (by omega)⟩
  | n + 1, m, e, h, h1, h2, h3 => by
    unfold trimD
    split
    · rename_i hq
      have h4 : (m.tdiv 10).natAbs = m.natAbs / 10 := Int.natAbs_tdiv m 10
      have h5 : (m.tmod 10).natAbs = m.natAbs % 10 := Int.natAbs_tmod m 10
      rw [hq] at h5
      have h6 : (0 : Int).natAbs = 0 := rfl
      exact trimD_right n _ _ (by omega) (by omega) (by omega) (by omega)
    · rename_i hq
      exact decide_eq_true ⟨by omega, by omega, by omega, by omega, fun e => absurd e h3, fun _ => .inr hq⟩
theorem trimmedS_right {m e : Int} (h : -9 ≤ e ∧ e ≤ 9) (hm : m.natAbs ≤ 999999999999999) : rightB (trimmedS m e).1 (trimmedS m e).2 = true := by
  unfold trimmedS
  split
  · rfl
  · rename_i h0; exact trimD_right _ _ _ (by omega) h.1 hm h0
theorem rightB_neg {m e : Int} (h : rightB m e = true) : rightB (-m) e = true := by
  have h := of_decide_eq_true h
  refine decide_eq_true ⟨by omega, by omega, by omega, by omega, fun h0 => h.2.2.2.2.1 (by omega), fun h0 => ?_⟩
  rcases h.2.2.2.2.2 (by omega) with h1 | h1
  · exact .inl h1
  · exact .inr (by rw [Int.neg_tmod]; omega)
theorem nrR_right (b : Bool) (N M : Nat) : (nrR b N M).2.2 = 0 → rightB (nrR b N M).1 (nrR b N M).2.1 = true := by
  unfold nrR nearD nearX
  cases h : nearG N M 19 0 with
  | none => intro e; exact absurd e (by simp [nearXo])
  | some p =>
    intro _
    obtain ⟨h1, h2⟩ := nearG_in 19 0 rfl h
    have key := trimmedS_right (m := (p.1 : Int)) h2 (by omega)
    show rightB (nearDo b (some p)).1 (nearDo b (some p)).2 = true
    cases b with
    | false => exact key
    | true => exact rightB_neg key
theorem ofV_right (a : Int) (r : Int × Int × Int) (hr : r.2.2 = 0 → rightB r.1 r.2.1 = true) : rightB (ofV a r).1 (ofV a r).2.1 = true := by
  unfold ofV; split
  · rename_i h; exact hr h.1
  · rfl
def ofR (a : Int) : Int × Int × Int := ofV a (nrR (decide (a < 0)) a.natAbs 1)
theorem of_meets (a : Int) (ha : inI a = true) : Meets Tryz.prog 35 [.int .i64 a] [] (R3 (ofR a)) [] := by
  unfold ofR
  have key : ∀ (NR : Bool → Nat → Nat → Int × Int × Int) (r : Int × Int × Int), (∀ b N M, nd N < 100000 → nd M < 100000 → 0 < M → Meets Tryz.prog 81 [.bool b, .dsl 0 (nd N), .dsl 1 (nd M)] [FL N, FL M] (R3 (NR b N M)) [FL N, FL M]) → NR (decide (a < 0)) a.natAbs 1 = r → (r.2.2 = 0 → rightB r.1 r.2.1 = true) → Meets Tryz.prog 35 [.int .i64 a] [] (R3 (ofV a r)) [] := fun NR r h hr hR => by
    have hN : (numF NR).N (decide (a < 0)) ((numF NR).E 0 a 0) ((numF NR).kE 0 a 0) [1] 1 = r := by
      have e2 : nT [1] 1 = 1 := by have := nT_dg 1; rwa [dg_one, nd_one] at this
      show NR _ (nT (dg a.natAbs) (nd a.natAbs)) (nT [1] 1) = r
      rw [nT_dg, e2]; exact hr
    exact meets_ent (pre := []) (post := []) (tOf_ok h) host ((of_comes (numF NR) a).trans (by rw [hN]; exact of_run' ha hR hr))
  exact key nrR _ nrR_ok rfl (nrR_right _ _ _)
theorem div_meets (a b c d : Int) (hA : rightB a b = true) (hC : rightB c d = true) (h0 : c ≠ 0) : Meets Tryz.prog 36 [dcA a b, dcA c d] [] (R3 (nrR (decide (a < 0) != decide (c < 0)) (wN a b) (wN c d))) [] := by
  have key : ∀ (NR : Bool → Nat → Nat → Int × Int × Int) (r : Int × Int × Int), (∀ b N M, nd N < 100000 → nd M < 100000 → 0 < M → Meets Tryz.prog 81 [.bool b, .dsl 0 (nd N), .dsl 1 (nd M)] [FL N, FL M] (R3 (NR b N M)) [FL N, FL M]) → NR (decide (a < 0) != decide (c < 0)) (wN a b) (wN c d) = r → Meets Tryz.prog 36 [dcA a b, dcA c d] [] (R3 r) [] := fun NR r h hr =>
    meets_ent (pre := []) (post := []) (tOf_ok h) host ((div_comes (numF NR) a b c d).trans (div_run' hA hC h0 hr))
  exact key nrR _ nrR_ok rfl
end Go.Proofs.YtdomenmfkbfakaaGreatDoor

/- Layer 3: plain values as rows; which are the same, which are right. -/
set_option linter.unusedVariables false
set_option linter.unusedSimpArgs false
namespace Go.Proofs.YtdomenmfkbfakaaGreatDoor
open Go Sx
/-- The cells of a value: kind, number, text, truth, error, rows, columns, list, function, code. -/
def shV : List CK := [.int .i64, .int .i64, .int .i64, .str, .bool, .int .i64, .int .i64, .int .i64, .nils, .int .i64, .nils, .nils]
abbrev vL (k m e : Int) (s : List UInt8) (b : Bool) (r h w : Int) (l : AV) (f : Int) : AV := .agg [.int .i64 k, .int .i64 m, .int .i64 e, .str s, .bool b, .int .i64 r, .int .i64 h, .int .i64 w, l, .int .i64 f, .nilslice, .nilslice]
abbrev rk (r : List CV) : Int := (rowCV r 0).n
abbrev rm (r : List CV) : Int := (rowCV r 1).n
abbrev re (r : List CV) : Int := (rowCV r 2).n
abbrev rs (r : List CV) : List UInt8 := (rowCV r 3).s
abbrev rb (r : List CV) : Bool := (rowCV r 4).b
abbrev rr (r : List CV) : Int := (rowCV r 5).n
abbrev rh (r : List CV) : Int := (rowCV r 6).n
abbrev rw_ (r : List CV) : Int := (rowCV r 7).n
abbrev rf (r : List CV) : Int := (rowCV r 9).n
/-- A row as a value; fields as a row. -/
abbrev vR (r : List CV) : AV := vL (rk r) (rm r) (re r) (rs r) (rb r) (rr r) (rh r) (rw_ r) .nilslice (rf r)
def mkR (k m e : Int) (s : List UInt8) (b : Bool) (r h w f : Int) : List CV := [.mk k [] false [], .mk m [] false [], .mk e [] false [], .mk 0 s false [], .mk 0 [] b [], .mk r [] false [], .mk h [] false [], .mk w [] false [], .mk 0 [] false [], .mk f [] false [], .mk 0 [] false [], .mk 0 [] false []]
/-- Are fields the same? -/
def sameF (k m e : Int) (s : List UInt8) (b : Bool) (r h w f k' m' e' : Int) (s' : List UInt8) (b' : Bool) (r' h' w' f' : Int) : Bool :=
  k == k' && (m == m' && (e == e' && (s == s' && (b == b' && (r == r' && (h == h' && (w == w' && f == f')))))))
abbrev samR (x y : List CV) : Bool := sameF (rk x) (rm x) (re x) (rs x) (rb x) (rr x) (rh x) (rw_ x) (rf x) (rk y) (rm y) (re y) (rs y) (rb y) (rr y) (rh y) (rw_ y) (rf y)
def sameT (k m e : Int) (s : List UInt8) (b : Bool) (r h w f k' m' e' : Int) (s' : List UInt8) (b' : Bool) (r' h' w' f' : Int) (pre : List PObj) (x : Ans) : Ans :=
  let n : Ans := .ret (.bool false) pre
  .br (k != k') n (.br (!(m == m' && (e == e' && true))) n (.br (!(s == s')) n (.br (!(b == b')) n (.br (r != r') n (.br (h != h') n (.br (w != w') n (.br (f != f') n x)))))))
theorem sameT_run {k m e : Int} {s : List UInt8} {b : Bool} {r h w f k' m' e' : Int} {s' : List UInt8} {b' : Bool} {r' h' w' f' : Int} {pre : List PObj} {x : Ans} :
    (sameT k m e s b r h w f k' m' e' s' b' r' h' w' f' pre x).run pure2 = (Ans.br (sameF k m e s b r h w f k' m' e' s' b' r' h' w' f') x (.ret (.bool false) pre)).run pure2 := by
  unfold sameT sameF
  simp only [Ans.run, bne]
  cases k == k' <;> cases m == m' <;> cases e == e' <;> cases s == s' <;> try rfl
  cases b == b' <;> cases r == r' <;> cases h == h' <;> cases w == w' <;> try rfl
  cases f == f' <;> rfl
theorem same_pp (k m e : Int) (s : List UInt8) (b : Bool) (r h w f k' m' e' : Int) (s' : List UInt8) (b' : Bool) (r' h' w' f' : Int) : Comes [] nolv 26 [vL k m e s b r h w .nilslice f, vL k' m' e' s' b' r' h' w' .nilslice f'] [] (sameT k m e s b r h w f k' m' e' s' b' r' h' w' f' [] (.ret (.bool true) [])) := by unfold Comes; kernel_rfl
def eSamP : Ent := fun args pre => match args, pre with
  | [.agg [.int .i64 k, .int .i64 m, .int .i64 e, .str s, .bool b, .int .i64 r, .int .i64 h, .int .i64 w, .nilslice, .int .i64 f, .nilslice, .nilslice], .agg [.int .i64 k', .int .i64 m', .int .i64 e', .str s', .bool b', .int .i64 r', .int .i64 h', .int .i64 w', .nilslice, .int .i64 f', .nilslice, .nilslice]], [] =>
    .ret (.bool (sameF k m e s b r h w f k' m' e' s' b' r' h' w' f')) []
  | _, _ => .fail
theorem eSamP_ok : EntOK Tryz.prog 26 eSamP := fun args pre => by
  unfold eSamP
  split
  · exact of_run (ans_comes .nil (same_pp ..)) fun x hx => by
      rw [sameT_run, ← hx]
      simp only [Ans.run]
      generalize sameF _ _ _ _ _ _ _ _ _ _ _ _ _ _ _ _ _ _ = q
      cases q <;> rfl
  · trivial
-- which are right
def eIsT (tx : List UInt8 → Bool) : Ent := fun args pre => match args, pre with
  | [.str l], [] => .chk (decide (l.length ≤ 1000000)) (.ret (.bool (tx l)) [])
  | _, _ => .fail
def zF (m e : Int) (s : List UInt8) (b : Bool) (r h w f : Int) : Bool := sameF 0 m e s b r h w f 0 0 0 [] false 0 0 0 0
def rightF (tx : List UInt8 → Bool) (k m e : Int) (s : List UInt8) (b : Bool) (r h w f : Int) : Bool :=
  if k = 0 then zF m e s b r h w f else if k = 1 then Dq.rightB m e && zF 0 0 s b r h w f else if k = 2 then tx s && zF m e [] b r h w f else if k = 3 then zF m e s false r h w f
  else if k = 4 then decide (1 ≤ r ∧ r ≤ 9) && zF m e s b 0 h w f else false
abbrev rigR (tx : List UInt8 → Bool) (x : List CV) : Bool := rightF tx (rk x) (rm x) (re x) (rs x) (rb x) (rr x) (rh x) (rw_ x) (rf x)
section
variable (tx : List UInt8 → Bool) (m e : Int) (s : List UInt8) (b : Bool) (r h w f : Int)
def bT (q : Bool) : Ans := .ret (.bool q) []
end
def eRigP (tx : List UInt8 → Bool) : Ent := fun args pre => match args, pre with
  | [.agg [.int .i64 k, .int .i64 m, .int .i64 e, .str s, .bool b, .int .i64 r, .int .i64 h, .int .i64 w, .nilslice, .int .i64 f, .nilslice, .nilslice]], [] =>
    .chk (decide (0 ≤ k ∧ k ≤ 4)) (.chk (decide (s.length ≤ 1000000)) (.ret (.bool (rightF tx k m e s b r h w f)) []))
  | _, _ => .fail
end Go.Proofs.YtdomenmfkbfakaaGreatDoor

/- Layer 3: lists of plain values: which are the same. -/
set_option linter.unusedVariables false
set_option linter.unusedSimpArgs false
namespace Go.Proofs.YtdomenmfkbfakaaGreatDoor
open Go Sx
abbrev fR (R : List (List CV)) : PObj := .raw (.flatR false shV R)
/-- A list that is handed in: how many, which rows; it grows, or is never written. -/
def rowsIn (n : Nat) (v : AV) (o : PObj) : Option (Nat × List (List CV)) := match v, o with
  | .dsl j k, .raw (.flatR f sh R) => if Nat.beq j n && shEq sh shV then some (k, R) else none
  | .vec j k, .vecR sh R t => if Nat.beq j n && shEq sh shV then some (k, R) else none
  | _, _ => none
theorem rowsIn_spec {n k : Nat} {v : AV} {o : PObj} {R : List (List CV)} (h : rowsIn n v o = some (k, R)) : (v = .dsl n k ∧ ∃ f, o = .raw (.flatR f shV R)) ∨ (v = .vec n k ∧ ∃ t, o = .vecR shV R t) := by
  unfold rowsIn at h
  split at h
  · split at h
    · rename_i hc
      rw [Bool.and_eq_true, beqT] at hc
      obtain ⟨rfl, h2⟩ := hc
      obtain rfl := shEq_of h2
      cases h; exact .inl ⟨rfl, _, rfl⟩
    · cases h
  · split at h
    · rename_i hc
      rw [Bool.and_eq_true, beqT] at hc
      obtain ⟨rfl, h2⟩ := hc
      obtain rfl := shEq_of h2
      cases h; exact .inr ⟨rfl, _, rfl⟩
    · cases h
  · cases h
theorem rowsIn_den {n k : Nat} {v : AV} {o : PObj} {R : List (List CV)} (h : rowsIn n v o = some (k, R)) {E : Env} {x : Value} (hx : den E v = some x) : den E (.dsl n k) = some x := by
  rcases rowsIn_spec h with ⟨rfl, _⟩ | ⟨rfl, _⟩
  · exact hx
  · exact den_seal hx
/-- A contract of rows that are never written, of such rows as are handed in. -/
theorem meets_rows {f : FuncId} {args args' : List AV} {pre post : List AObj} {res : AV} {j n k : Nat} {v : AV} {o : PObj} {R : List (List CV)} (hs : rowsIn n v o = some (k, R)) (h : Meets Tryz.prog f args pre res post) (hj : pre[j]? = some (.flatR false shV R)) (ha : ∀ E xs, denL E args' = some xs → denL E args = some xs) :
    Meets Tryz.prog f args' (pre.set j o.toA) res (post.set j o.toA) := by
  refine meets_args ?_ ha
  rcases rowsIn_spec hs with ⟨_, f', rfl⟩ | ⟨_, t, rfl⟩
  · exact meets_fitO h hj rfl (fun E w b c ho => ho) rfl fun b c k ht => ht
  · exact meets_fitR h hj
theorem den_L {E : Env} {k m e : Int} {s : List UInt8} {b : Bool} {r h w f : Int} {l l' : AV} {x : Value} (hl : ∀ y, den E l = some y → den E l' = some y) (hx : den E (vL k m e s b r h w l f) = some x) : den E (vL k m e s b r h w l' f) = some x := by
  simp only [den, denL] at hx ⊢
  cases hd : den E l with
  | none => rw [hd] at hx; simp at hx
  | some y => rw [hd] at hx; rw [hl y hd]; exact hx
-- slices.EqualFunc
noncomputable abbrev loopE1 : Code := (loopBodies (bodyOf Tryz.f64)).headD .skip
def sE (a b : Nat) (R S : List (List CV)) (i : Int) : PState := ⟨none :: some (.dsl 1 b) :: some (.func 26 [] []) :: (nn 12 ++ some (.dsl 0 a) :: some (.int .i64 a) :: some (.int .i64 i) :: nn 14), some (.raw (.flatR false shV R)) :: some (.raw (.flatR false shV S)) :: nn 64⟩
def sEX (q : Option AV) (R S : List (List CV)) : PState := ⟨nn 6 ++ q :: nn 25, some (.raw (.flatR false shV R)) :: some (.raw (.flatR false shV S)) :: nn 64⟩
def tSam : Tab := [(26, eSamP)]
def inR (i : Int) (R : List (List CV)) : Bool := decide (i.toNat < R.length) && true && true
theorem rE (a b : Nat) (R S : List (List CV)) (i : Int) : code (ent Tryz.prog tSam nolv 64 1 20) Tryz.prog {} 2 64 1 loopE1 (sE a b R S i) (endK 2 64 (fun n => hasN [1, 2, 15, 16, 17] n) (fun n => hasN [6] n))
  = bcond (decide (i < (a : Int))) (chks (bcond (!(samR (Sx.rowAt R i.toNat) (Sx.rowAt S i.toNat))) (some (.ret, sEX (some (.bool false)) R S)) (some (.normal, sE a b R S (up1 i)))) [ixN i a, inR i R, ixN i b, inR i S]) (some (.exit 0, sEX none R S)) := by kernel_rfl
/-- Are so many rows the same, from one on? -/
def eqFrom (R S : List (List CV)) : Nat → Nat → Bool
  | 0, _ => true
  | n + 1, i => samR (Sx.rowAt R i) (Sx.rowAt S i) && eqFrom R S n (i + 1)
theorem inR_nat {j : Nat} {R : List (List CV)} (h : j < R.length) : inR (j : Int) R = true := by unfold inR; rw [Int.toNat_natCast, decide_eq_true h]; rfl
theorem loopE {a : Nat} {R S : List (List CV)} (hR : a ≤ R.length) (hS : a ≤ S.length) (hs : a < 1000000000) : Tri Tryz.prog (.loop loopE1) (sE a a R S 0).toA (bcond (eqFrom R S a 0) (.exit 0) .ret) (sEX (bcond (eqFrom R S a 0) none (some (.bool false))) R S).toA 2 := by
  have key := loop_rounds (ent_sound (T := tSam) (.cons eSamP_ok .nil) host nolv_ok (NF := 64) (m := 1) 20) (NF := 64) (m := 1) (x := loopE1) (K := 2) loops_none (fun n => hasN [1, 2, 15, 16, 17] n) (fun n => hasN [6] n) (ι := { j : Nat // j ≤ a }) (fun j => sE a a R S (j.1 : Int)) (fun j => a - j.1) (fun j => (bcond (eqFrom R S (a - j.1) j.1) (.exit 0) .ret, sEX (bcond (eqFrom R S (a - j.1) j.1) none (some (.bool false))) R S)) ?_ (fun j => by cases eqFrom R S (a - j.1) j.1 <;> simp [bcond]) ⟨0, Nat.zero_le _⟩
  · exact key
  rintro ⟨j, hj⟩
  simp only
  have rd := rE a a R S (j : Int)
  by_cases h : j < a
  · rw [bcT (decide_eq_true (by omega)), chks_true (all4 (ixN_nat h) (inR_nat (by omega)) (ixN_nat h) (inR_nat (by omega))), Int.toNat_natCast, up1_nat (by omega)] at rd
    have e : a - j = (a - (j + 1)) + 1 := by omega
    rw [e, eqFrom]
    cases hq : samR (Sx.rowAt R j) (Sx.rowAt S j) with
    | true => exact .inl ⟨⟨j + 1, h⟩, by simp only; omega, by simp only [Bool.true_and], by rw [rd, hq]; rfl⟩
    | false => exact .inr (by rw [rd, hq]; rfl)
  · rw [bcF (decide_eq_false (by omega))] at rd
    exact .inr (by rw [rd, show a - j = 0 by omega]; rfl)
def aE (a : Nat) (R S : List (List CV)) : LAns := .chk (decide (a ≤ R.length ∧ a ≤ S.length ∧ a < 1000000000)) (.br (eqFrom R S a 0) (.out (.exit 0) (sEX none R S)) (.out .ret (sEX (some (.bool false)) R S)))
theorem aE_ok (a : Nat) (R S : List (List CV)) : LAnsOK Tryz.prog loopE1 2 (sE a a R S 0) (aE a R S) := ⟨fun g => by
  have g := of_decide_eq_true g
  have key := loopE g.1 g.2.1 g.2.2
  refine ⟨fun h => ?_, fun h => ?_⟩ <;> rw [h] at key <;> exact key, fun _ => trivial⟩
noncomputable def lvE (a : Nat) (R S : List (List CV)) : FuncId → Lv := lvOf 64 (fun _ => some [1, 2, 15, 16, 17]) (oneL 4 (eAt 2 (sE a a R S 0) (aE a R S)))
theorem lvE_ok (a : Nat) (R S : List (List CV)) : LvOK Tryz.prog (lvE a R S) := lvOne_ok (x := loopE1) Tryz.func64 (by kernel_rfl) fun K t => eAt_ok (aE_ok a R S) K t
theorem eqf_comes (a b : Nat) (R S : List (List CV)) : Comes [] (lvE a R S) 64 [.dsl 0 a, .dsl 1 b, .func 26 [] []] [fR R, fR S]
  (.br ((a : Int) != (b : Int)) (.ret (.bool false) [fR R, fR S]) (.chk (eqSt (sE a b R S 0) (sE a a R S 0)) (.chk (decide (a ≤ R.length ∧ a ≤ S.length ∧ a < 1000000000)) (.br (eqFrom R S a 0) (.ret (.bool true) [fR R, fR S]) (.ret (.bool false) [fR R, fR S]))))) := by unfold Comes; kernel_rfl
def eqRows (a b : Nat) (R S : List (List CV)) : Bool := Nat.beq a b && eqFrom R S a 0
theorem eqf_meets {a b : Nat} {R S : List (List CV)} (ha : a ≤ R.length) (hb : b ≤ S.length) (hs : a < 1000000000) : Meets Tryz.prog 64 [.dsl 0 a, .dsl 1 b, .func 26 [] []] [.flatR false shV R, .flatR false shV S] (.bool (eqRows a b R S)) [.flatR false shV R, .flatR false shV S] :=
  meets_ent (T := []) (pre := [fR R, fR S]) (post := [fR R, fR S]) .nil host ((eqf_comes a b R S).trans (by
    unfold eqRows
    by_cases h : a = b
    · subst h
      rw [brF (by simp), chkT (eqSt_refl _), chkT (decide_eq_true ⟨ha, hb, hs⟩), Nat.beq_refl, Bool.true_and]
      cases hq : eqFrom R S a 0 with
      | true => rw [brT rfl]; rfl
      | false => rw [brF rfl]; rfl
    · rw [brT (bne_iff_ne.2 (by omega)), show Nat.beq a b = false from Bool.eq_false_iff.2 fun e => h (beqT.1 e)]; rfl)) (lvE_ok a R S)
end Go.Proofs.YtdomenmfkbfakaaGreatDoor

/- Layer 3: which arrays are right. -/
set_option linter.unusedVariables false
set_option linter.unusedSimpArgs false
namespace Go.Proofs.YtdomenmfkbfakaaGreatDoor
open Go Sx
theorem denL_L1 {E : Env} {k m e : Int} {s : List UInt8} {b : Bool} {r h w f : Int} {l l' : AV} (hl : ∀ y, den E l = some y → den E l' = some y) (us : List AV) : ∀ xs, denL E (vL k m e s b r h w l f :: us) = some xs → denL E (vL k m e s b r h w l' f :: us) = some xs := fun xs hx => by
  obtain ⟨x, zs, h1, h2, rfl⟩ := denL_cons.1 hx
  exact denL_cons.2 ⟨x, zs, den_L hl h1, h2, rfl⟩
theorem denL_tl {E : Env} {u : AV} {us us' : List AV} (h : ∀ xs, denL E us = some xs → denL E us' = some xs) : ∀ xs, denL E (u :: us) = some xs → denL E (u :: us') = some xs := fun xs hx => by
  obtain ⟨x, zs, h1, h2, rfl⟩ := denL_cons.1 hx
  exact denL_cons.2 ⟨x, zs, h1, h _ h2, rfl⟩
-- isGrid
def sG (a : Nat) (R : List (List CV)) (i : Int) : PState := ⟨nn 33 ++ some (.dsl 0 a) :: some (.int .i64 a) :: some (.int .i64 i) :: nn 17, some (.raw (.flatR false shV R)) :: nn 64⟩
def sGX (q : Option AV) (R : List (List CV)) : PState := ⟨none :: none :: q :: nn 50, some (.raw (.flatR false shV R)) :: nn 64⟩
noncomputable abbrev loopG1 : Code := (loopBodies (bodyOf Tryz.f68)).headD .skip
def tRig (tx : List UInt8 → Bool) : Tab := [(27, eRigP tx)]
def gR (x : List CV) (a b : PState) (tx : List UInt8 → Bool) : Option (Ex × PState) :=
  bcond (rk x == 5) (some (.ret, a)) (bcond (rk x == 6) (some (.ret, a)) (chks (bcond (!rigR tx x) (some (.ret, a)) (some (.normal, b))) [decide (0 ≤ rk x ∧ rk x ≤ 4), decide ((rs x).length ≤ 1000000)]))
theorem rG (tx : List UInt8 → Bool) (a : Nat) (R : List (List CV)) (i : Int) : code (ent Tryz.prog (tRig tx) nolv 64 1 20) Tryz.prog {} 1 64 1 loopG1 (sG a R i) (endK 1 64 (fun n => hasN [33, 34, 35] n) (fun n => hasN [2] n))
  = bcond (decide (i < (a : Int))) (chks (gR (Sx.rowAt R i.toNat) (sGX (some (.bool false)) R) (sG a R (up1 i)) tx) [ixN i a, inR i R]) (some (.exit 0, sGX none R)) := by kernel_rfl
/-- Rows of plain kinds, their texts not too long. -/
def plR (x : List CV) : Bool := decide (0 ≤ rk x ∧ rk x ≤ 4) && decide ((rs x).length ≤ 1000000)
def rigFrom (tx : List UInt8 → Bool) (R : List (List CV)) : Nat → Nat → Bool
  | 0, _ => true
  | n + 1, i => rigR tx (Sx.rowAt R i) && rigFrom tx R n (i + 1)
def okRows (a : Nat) (R : List (List CV)) : Prop := a ≤ R.length ∧ a < 1000000000 ∧ ∀ i, i < a → plR (Sx.rowAt R i) = true
section
variable {tx : List UInt8 → Bool} (ht : EntOK Tryz.prog 51 (eIsT tx))
include ht
end
def w64 (a : Int) : Int := IntKind.i64.wrap a
theorem w64_of {a : Int} (h : inI a = true) : w64 a = a := i64_in (inI_iff.1 h).1 (inI_iff.1 h).2
-- Right
end Go.Proofs.YtdomenmfkbfakaaGreatDoor

/- Layer 3: copies of values. -/
set_option linter.unusedVariables false
set_option linter.unusedSimpArgs false
namespace Go.Proofs.YtdomenmfkbfakaaGreatDoor
open Go Sx
/-- A row, and nothing else of it. -/
abbrev nrm (x : List CV) : List CV := mkR (rk x) (rm x) (re x) (rs x) (rb x) (rr x) (rh x) (rw_ x) (rf x)
section
variable (k m e : Int) (s : List UInt8) (b : Bool) (r h w f : Int) (a : Nat) (R : List (List CV))
end
theorem all3' {a b c : Bool} (ha : a = true) (hb : b = true) (hc : c = true) : ∀ x ∈ [a, b, c], x = true := by simp [ha, hb, hc]
section
variable {k m e : Int} {s : List UInt8} {b : Bool} {r h w f : Int} {a : Nat} {R : List (List CV)}
end
end Go.Proofs.YtdomenmfkbfakaaGreatDoor

/- Layer 3: what stands where in an array; arrays that are made; which values are the same. -/
set_option linter.unusedVariables false
set_option linter.unusedSimpArgs false
namespace Go.Proofs.YtdomenmfkbfakaaGreatDoor
open Go Sx
/-- An error, as a row. -/
def errR (n : Int) : List CV := mkR 4 0 0 [] false n 0 0 0
-- Get
section
variable {tx : List UInt8 → Bool} (ht : EntOK Tryz.prog 51 (eIsT tx))
include ht
-- Make
end
-- Same
def eEq : Ent := fun args pre => match args, pre with
  | [v, v', .func g [] []], [o, o'] => match rowsIn 0 v o, rowsIn 1 v' o' with
    | some (a, R), some (b, S) => .chk (Nat.beq g 26) (.chk (decide (a ≤ R.length ∧ b ≤ S.length ∧ a < 1000000000)) (.ret (.bool (eqRows a b R S)) [o, o']))
    | _, _ => .fail
  | _, _ => .fail
theorem eEq_ok : EntOK Tryz.prog 64 eEq := fun args pre => by
  unfold eEq
  split
  · split
    · rename_i v v' g o o' _ _ a R b S hs hs'
      refine ⟨fun g1 => ⟨fun g2 => ?_, fun _ => trivial⟩, fun _ => trivial⟩
      obtain rfl := Nat.eq_of_beq_eq_true g1
      have g2 := of_decide_eq_true g2
      have h1 := meets_rows (j := 0) hs (eqf_meets (a := a) (b := b) g2.1 g2.2.1 g2.2.2) rfl (args' := [v, .dsl 1 b, .func 26 [] []]) fun E xs hx => by
        obtain ⟨x, zs, h1, h2, rfl⟩ := denL_cons.1 hx
        exact denL_cons.2 ⟨x, zs, rowsIn_den hs h1, h2, rfl⟩
      exact meets_rows (j := 1) hs' h1 rfl (fun E => denL_tl fun xs hx => by
        obtain ⟨x, zs, h1, h2, rfl⟩ := denL_cons.1 hx
        exact denL_cons.2 ⟨x, zs, rowsIn_den hs' h1, h2, rfl⟩)
    · trivial
  · trivial
def tEq : Tab := [(64, eEq)]
section
variable (k m e : Int) (s : List UInt8) (b : Bool) (r h w f k' m' e' : Int) (s' : List UInt8) (b' : Bool) (r' h' w' f' : Int) (a a' : Nat) (R S : List (List CV))
theorem same_aa : Comes tEq nolv 26 [vL k m e s b r h w (.dsl 0 a) f, vL k' m' e' s' b' r' h' w' (.dsl 1 a') f'] [fR R, fR S]
  (sameT k m e s b r h w f k' m' e' s' b' r' h' w' f' [fR R, fR S] (.chk (decide (a ≤ R.length ∧ a' ≤ S.length ∧ a < 1000000000)) (.br (eqRows a a' R S) (.ret (.bool true) [fR R, fR S]) (.ret (.bool false) [fR R, fR S])))) := by unfold Comes; kernel_rfl
theorem same_ap : Comes tEq nolv 26 [vL k m e s b r h w (.dsl 0 a) f, vL k' m' e' s' b' r' h' w' .nilslice f'] [fR R]
  (sameT k m e s b r h w f k' m' e' s' b' r' h' w' f' [fR R] .fail) := by unfold Comes; kernel_rfl
theorem same_pa : Comes tEq nolv 26 [vL k m e s b r h w .nilslice f, vL k' m' e' s' b' r' h' w' (.dsl 0 a) f'] [fR R]
  (sameT k m e s b r h w f k' m' e' s' b' r' h' w' f' [fR R] .fail) := by unfold Comes; kernel_rfl
end
theorem sameF_ne {k m e : Int} {s : List UInt8} {b : Bool} {r h w f k' m' e' : Int} {s' : List UInt8} {b' : Bool} {r' h' w' f' : Int} (hk : k ≠ k') : sameF k m e s b r h w f k' m' e' s' b' r' h' w' f' = false := by unfold sameF; rw [beq_eq_false_iff_ne.2 hk]; rfl
def eSam : Ent := fun args pre => match args, pre with
  | [.agg [.int .i64 k, .int .i64 m, .int .i64 e, .str s, .bool b, .int .i64 r, .int .i64 h, .int .i64 w, l, .int .i64 f, .nilslice, .nilslice], .agg [.int .i64 k', .int .i64 m', .int .i64 e', .str s', .bool b', .int .i64 r', .int .i64 h', .int .i64 w', l', .int .i64 f', .nilslice, .nilslice]], [o, o'] =>
    match rowsIn 0 l o, rowsIn 1 l' o' with
    | some (a, R), some (a', S) => .chk (decide (a ≤ R.length ∧ a' ≤ S.length ∧ a < 1000000000)) (.ret (.bool (sameF k m e s b r h w f k' m' e' s' b' r' h' w' f' && eqRows a a' R S)) [o, o'])
    | _, _ => .fail
  | [.agg [.int .i64 k, .int .i64 m, .int .i64 e, .str s, .bool b, .int .i64 r, .int .i64 h, .int .i64 w, l, .int .i64 f, .nilslice, .nilslice], .agg [.int .i64 k', .int .i64 m', .int .i64 e', .str s', .bool b', .int .i64 r', .int .i64 h', .int .i64 w', l', .int .i64 f', .nilslice, .nilslice]], [o] =>
    match rowsIn 0 l o with
    | some (a, R) => match l' with
      | .nilslice => .chk (k != k') (.ret (.bool false) [o])
      | _ => .fail
    | none => match rowsIn 0 l' o with
      | some (a, R) => match l with
        | .nilslice => .chk (k != k') (.ret (.bool false) [o])
        | _ => .fail
      | none => .fail
  | _, _ => eSamP args pre
theorem eSam_ok : EntOK Tryz.prog 26 eSam := fun args pre => by
  unfold eSam
  have T : TabOK Tryz.prog tEq := .cons eEq_ok .nil
  split
  · split
    · rename_i k m e s b r h w l f k' m' e' s' b' r' h' w' l' f' o o' _ _ a R a' S hs hs'
      refine ⟨fun g => ?_, fun _ => trivial⟩
      have h1 := meets_rows (j := 0) hs (pre := [.flatR false shV R, .flatR false shV S]) (post := [.flatR false shV R, .flatR false shV S]) (res := .bool (sameF k m e s b r h w f k' m' e' s' b' r' h' w' f' && eqRows a a' R S)) (meets_ent (pre := [fR R, fR S]) (post := [fR R, fR S]) T host ((same_aa k m e s b r h w f k' m' e' s' b' r' h' w' f' a a' R S).trans (by
        rw [sameT_run]
        cases hq : sameF k m e s b r h w f k' m' e' s' b' r' h' w' f' with
        | false => rw [brF rfl]; rfl
        | true =>
          rw [brT rfl, chkT g, Bool.true_and]
          cases hq : eqRows a a' R S with
          | true => rw [brT rfl]; rfl
          | false => rw [brF rfl]; rfl)) nolv_ok) rfl (args' := [vL k m e s b r h w l f, vL k' m' e' s' b' r' h' w' (.dsl 1 a') f']) fun E => denL_L1 (fun y hy => rowsIn_den hs hy) _
      exact meets_rows (j := 1) hs' h1 rfl fun E => denL_tl (denL_L1 (fun y hy => rowsIn_den hs' hy) [])
    · trivial
  · rename_i k m e s b r h w l f k' m' e' s' b' r' h' w' l' f' o
    split
    · rename_i a R hs
      split
      · refine ⟨fun g => ?_, fun _ => trivial⟩
        exact meets_rows (j := 0) hs (pre := [.flatR false shV R]) (post := [.flatR false shV R]) (meets_ent (pre := [fR R]) (post := [fR R]) T host ((same_ap k m e s b r h w f k' m' e' s' b' r' h' w' f' a R).trans (by rw [sameT_run, sameF_ne (bne_iff_ne.1 g), brF rfl]; rfl)) nolv_ok) rfl fun E => denL_L1 (fun y hy => rowsIn_den hs hy) _
      · trivial
    · split
      · rename_i a R hs
        split
        · refine ⟨fun g => ?_, fun _ => trivial⟩
          exact meets_rows (j := 0) hs (pre := [.flatR false shV R]) (post := [.flatR false shV R]) (meets_ent (pre := [fR R]) (post := [fR R]) T host ((same_pa k m e s b r h w f k' m' e' s' b' r' h' w' f' a R).trans (by rw [sameT_run, sameF_ne (bne_iff_ne.1 g), brF rfl]; rfl)) nolv_ok) rfl fun E => denL_tl (denL_L1 (fun y hy => rowsIn_den hs hy) _)
        · trivial
      · trivial
  · exact eSamP_ok _ _
end Go.Proofs.YtdomenmfkbfakaaGreatDoor

/- Law 3: which of n things; a right text out of any bytes. -/
set_option linter.unusedVariables false
set_option linter.unusedSimpArgs false
namespace Go.Proofs.YtdomenmfkbfakaaGreatDoor
open Go Sx
-- pick
theorem pk_comes (c n : Int) : Comes [] nolv 24 [.int .i64 c, .int .i64 n] [] (.br (decide (c < 0)) (.chk (n != 0) (.ret (.int .i64 (Int.tmod (w64 (0 - w64 (c + 1))) n)) [])) (.chk (n != 0) (.ret (.int .i64 (Int.tmod c n)) []))) := by unfold Comes; kernel_rfl
def ePick : Ent := fun args pre => match args, pre with
  | [.int .i64 c, .int .i64 n], [] => .chk (inI c) (.chk (decide (0 < n ∧ n < 1000000000)) (.ret (.int .i64 (pickS c n)) []))
  | _, _ => .fail
theorem ePick_ok : EntOK Tryz.prog 24 ePick := fun args pre => by
  unfold ePick
  split
  · rename_i c n
    refine ⟨fun g1 => ⟨fun g2 => ?_, fun _ => trivial⟩, fun _ => trivial⟩
    have g2 := of_decide_eq_true g2
    have hc := inI_iff.1 g1
    refine of_run (x := .br (decide (c < 0)) _ _) (y := .ret (.int .i64 (pickS c n)) []) (ans_comes .nil (pk_comes c n)) fun r hr => ?_
    rw [← hr]
    unfold pickS
    by_cases h : c < 0
    · rw [brT (decide_eq_true h), chkT (bne_iff_ne.2 (by omega)), if_pos h, w64_of (a := c + 1) (inI_iff.2 ⟨by omega, by omega⟩), w64_of (a := 0 - (c + 1)) (inI_iff.2 ⟨by omega, by omega⟩), Int.zero_sub]
    · rw [brF (decide_eq_false h), chkT (bne_iff_ne.2 (by omega)), if_neg h]
  · trivial
-- Text
def sTx (s o : List UInt8) (i : Int) : PState := ⟨some (.str s) :: none :: none :: some (.str o) :: some (.int .i64 i) :: nn 42, nn 64⟩
def sTxX (o : List UInt8) : PState := ⟨none :: none :: none :: some (.str o) :: nn 43, nn 64⟩
noncomputable abbrev loopTx1 : Code := (loopBodies (bodyOf Tryz.f32)).headD .skip
def sgT (s : List UInt8) (i : Int) : Nat := signN (List.take (s.length - i.toNat) (List.drop i.toNat s))
def pcT (s : List UInt8) (i : Int) : List UInt8 := List.take ((w64 (i + sgT s i)).toNat - i.toNat) (List.drop i.toNat s)
def takeT (s o : List UInt8) (i : Int) : Option (Ex × PState) :=
  chks (some (.normal, sTx s (o ++ pcT s i) (w64 (i + sgT s i)))) [decide (0 ≤ i ∧ 0 ≤ w64 (i + sgT s i) ∧ i.toNat ≤ (w64 (i + sgT s i)).toNat ∧ (w64 (i + sgT s i)).toNat ≤ s.length), decide (o.length + (pcT s i).length ≤ 9223372036854775807)]
theorem rTx (s o : List UInt8) (i : Int) : code (ent Tryz.prog tab6 nolv 64 1 20) Tryz.prog {} 0 64 1 loopTx1 (sTx s o i) (endK 0 64 (fun n => hasN [0, 3, 4] n) (fun n => hasN [3] n))
  = bcond (decide (i < (s.length : Int))) (bcond (decide ((o.length : Int) < 37)) (chks (bcond (((sgT s i : Nat) : Int) == 0) (some (.normal, sTx s o (up1 i)))
      (chks (bcond (decide (byteAt s i.toNat < 32)) (some (.normal, sTx s o (up1 i))) (chks (bcond (byteAt s i.toNat == 127) (some (.normal, sTx s o (up1 i))) (takeT s o i)) [decide (0 ≤ i ∧ i.toNat < s.length)])) [decide (0 ≤ i ∧ i.toNat < s.length)])) [decide (0 ≤ i ∧ i.toNat ≤ s.length)])
      (some (.exit 0, sTxX o))) (some (.exit 0, sTxX o)) := by kernel_rfl
/-- Is a sign none, or none that a text has? -/
def badT (s : List UInt8) (p : Nat) : Bool := (signN (s.drop p) == 0) || (decide ((s.getD p 0).toNat < 32) || ((s.getD p 0).toNat == 127))
def txS (s : List UInt8) : Nat → Nat → List UInt8 → List UInt8
  | 0, _, o => o
  | n + 1, p, o => bcond (decide (p < s.length ∧ o.length < 37)) (bcond (badT s p) (txS s n (p + 1) o) (txS s n (p + signN (s.drop p)) (o ++ (s.drop p).take (signN (s.drop p))))) o
theorem byteAt_nat (s : List UInt8) (p : Nat) : byteAt s p = ((s.getD p 0).toNat : Int) := rfl
theorem txS_done {s : List UInt8} {n p : Nat} {o : List UInt8} (h : ¬(p < s.length ∧ o.length < 37)) : txS s n p o = o := by
  cases n with
  | zero => rfl
  | succ n => unfold txS; rw [bcF (decide_eq_false h)]
theorem sign_le4 (L : List UInt8) : signN L ≤ 4 := by
  unfold signN; repeat' split
  all_goals omega
theorem up1_63 {j : Nat} (h : j < 9223372036854775807) : up1 (j : Int) = ((j + 1 : Nat) : Int) := by unfold up1; rw [i64_in (by omega) (by omega)]; rfl
theorem roundTx {s o : List UInt8} {p n : Nat} (hs : s.length ≤ 9223372036854775807) (hn : s.length ≤ p + n) :
    (∃ q o', (s.length ≤ q + (n - 1) ∧ 0 < n ∧ txS s n p o = txS s (n - 1) q o') ∧ code (ent Tryz.prog tab6 nolv 64 1 20) Tryz.prog {} 0 64 1 loopTx1 (sTx s o p) (endK 0 64 (fun n => hasN [0, 3, 4] n) (fun n => hasN [3] n)) = some (.normal, sTx s o' q)) ∨
    code (ent Tryz.prog tab6 nolv 64 1 20) Tryz.prog {} 0 64 1 loopTx1 (sTx s o p) (endK 0 64 (fun n => hasN [0, 3, 4] n) (fun n => hasN [3] n)) = some (.exit 0, sTxX (txS s n p o)) := by
  have rd := rTx s o (p : Int)
  by_cases h1 : p < s.length
  · rw [bcT (b := decide ((p : Int) < (s.length : Int))) (decide_eq_true (by omega))] at rd
    by_cases h2 : o.length < 37
    · have hk4 := sign_le4 (s.drop p)
      have hk := signN_le (s.drop p)
      rw [List.length_drop] at hk
      have e : sgT s (p : Int) = signN (s.drop p) := by unfold sgT; rw [Int.toNat_natCast, List.take_of_length_le (by simp)]
      have ew : w64 ((p : Int) + (signN (s.drop p) : Nat)) = ((p + signN (s.drop p) : Nat) : Int) := by rw [w64_of (inI_iff.2 ⟨by omega, by omega⟩)]; push_cast; rfl
      have ep : pcT s (p : Int) = (s.drop p).take (signN (s.drop p)) := by unfold pcT; rw [e, ew, Int.toNat_natCast, Int.toNat_natCast, Nat.add_sub_cancel_left]
      cases n with
      | zero => omega
      | succ n =>
      rw [bcT (b := decide ((o.length : Int) < 37)) (decide_eq_true (by omega)), chks_true (by simp; omega), e, up1_63 (by omega), Int.toNat_natCast, byteAt_nat] at rd
      left
      rw [txS, bcT (b := decide (p < s.length ∧ o.length < 37)) (decide_eq_true ⟨h1, h2⟩), Nat.add_sub_cancel]
      have hx : ∀ c ∈ [decide (0 ≤ (p : Int) ∧ p < s.length)], c = true := by simp; omega
      by_cases h3 : signN (s.drop p) = 0
      · rw [bcT (beq_iff_eq.2 (by omega))] at rd
        exact ⟨p + 1, o, ⟨by omega, by omega, by unfold badT; rw [h3]; rfl⟩, rd⟩
      rw [bcF (beq_eq_false_iff_ne.2 (by omega)), chks_true hx] at rd
      by_cases h4 : (s.getD p 0).toNat < 32
      · rw [bcT (decide_eq_true (by omega))] at rd
        exact ⟨p + 1, o, ⟨by omega, by omega, by unfold badT; rw [decide_eq_true h4, Bool.true_or, Bool.or_true]; rfl⟩, rd⟩
      rw [bcF (decide_eq_false (by omega)), chks_true hx] at rd
      by_cases h5 : (s.getD p 0).toNat = 127
      · rw [bcT (beq_iff_eq.2 (by omega))] at rd
        exact ⟨p + 1, o, ⟨by omega, by omega, by unfold badT; rw [h5]; simp [bcond]⟩, rd⟩
      rw [bcF (beq_eq_false_iff_ne.2 (by omega))] at rd
      unfold takeT at rd
      rw [ep, e, ew, chks_true (by simp; omega)] at rd
      refine ⟨p + signN (s.drop p), o ++ (s.drop p).take (signN (s.drop p)), ⟨by omega, by omega, ?_⟩, rd⟩
      unfold badT; rw [beq_eq_false_iff_ne.2 h3, decide_eq_false h4, beq_eq_false_iff_ne.2 h5]; rfl
    · rw [bcF (b := decide ((o.length : Int) < 37)) (decide_eq_false (by omega))] at rd
      exact .inr (by rw [rd, txS_done (by omega)])
  · rw [bcF (b := decide ((p : Int) < (s.length : Int))) (decide_eq_false (by omega))] at rd
    exact .inr (by rw [rd, txS_done (by omega)])
theorem loopTx {s : List UInt8} (hs : s.length ≤ 9223372036854775807) : Tri Tryz.prog (.loop loopTx1) (sTx s [] 0).toA (.exit 0) (sTxX (txS s s.length 0 [])).toA 0 := by
  have key := loop_rounds (ent_sound (T := tab6) tab6_ok host nolv_ok (NF := 64) (m := 1) 20) (NF := 64) (m := 1) (x := loopTx1) (K := 0) loops_none (fun n => hasN [0, 3, 4] n) (fun n => hasN [3] n) (ι := { q : Nat × Nat × List UInt8 // s.length ≤ q.1 + q.2.1 }) (fun j => sTx s j.1.2.2 (j.1.1 : Int)) (fun j => j.1.2.1) (fun j => (.exit 0, sTxX (txS s j.1.2.1 j.1.1 j.1.2.2))) ?_ (fun j => by simp) ⟨(0, s.length, []), by simp⟩
  · exact key
  rintro ⟨⟨p, n, o⟩, hn⟩
  simp only at hn ⊢
  rcases roundTx (o := o) hs hn with ⟨q, o', ⟨h1, h2, h3⟩, h4⟩ | h
  · exact .inl ⟨⟨(q, n - 1, o'), h1⟩, by show n - 1 < n; omega, by simp only [h3], h4⟩
  · exact .inr h
def outTx (c : Bool) (o : List UInt8) : LAns := .chk c (.out (.exit 0) (sTxX o))
noncomputable def lvTx (s : List UInt8) (c : Bool) (o : List UInt8) : FuncId → Lv := lvOf 32 (fun _ => some [0, 3, 4]) (oneL 3 (eAt 0 (sTx s [] 0) (outTx c o)))
theorem tx_comes (s : List UInt8) (c : Bool) (o : List UInt8) : Comes [] (lvTx s c o) 32 [.str s] [] (.chk (eqSt (sTx s [] 0) (sTx s [] 0)) (.chk c (.ret (.str o) []))) := by unfold Comes; kernel_rfl
def textL (s : List UInt8) : List UInt8 := txS s s.length 0 []
def eTx (f : List UInt8 → List UInt8) : Ent := fun args pre => match args, pre with
  | [.str s], [] => .chk (decide (s.length ≤ 9223372036854775807)) (.ret (.str (f s)) [])
  | _, _ => .fail
theorem eTx_ok : EntOK Tryz.prog 32 (eTx textL) := fun args pre => by
  unfold eTx
  split
  · rename_i s
    refine ⟨fun g => ?_, fun _ => trivial⟩
    exact meets_ent (pre := []) (post := []) .nil host ((tx_comes s true (textL s)).trans (by rw [chkT (eqSt_refl _), chkT rfl]; rfl)) (lvOne_ok (x := loopTx1) Tryz.func32 (by kernel_rfl) fun K t => eAt_ok (a := outTx true (textL s)) ⟨fun _ => loopTx (of_decide_eq_true g), fun _ => trivial⟩ K t)
  · trivial
end Go.Proofs.YtdomenmfkbfakaaGreatDoor

/- Law 3: the texts of the law are right; plain values of raw numbers. -/
set_option linter.unusedVariables false
set_option linter.unusedSimpArgs false
namespace Go.Proofs.YtdomenmfkbfakaaGreatDoor
open Go Sx
/-- So many bytes decide of the first sign. -/
theorem getD_app {A t : List UInt8} {i : Nat} (h : i < A.length) : (A ++ t).getD i 0 = A.getD i 0 := by
  simp [List.getD_eq_getElem?_getD, List.getElem?_append_left h]
theorem getD_tk {L : List UInt8} {k i : Nat} (h : i < k) : (L.take k).getD i 0 = L.getD i 0 := by
  simp [List.getD_eq_getElem?_getD, List.getElem?_take, h]
theorem sign_app (L t : List UInt8) (h : signN L ≠ 0) : signN (L.take (signN L) ++ t) = signN L := by
  have hle := signN_le L
  have hz := sizeN_cases (L.getD 0 0).toNat
  have hlen : (L.take (signN L)).length = signN L := by rw [List.length_take]; omega
  have hg : ∀ i, i < signN L → (L.take (signN L) ++ t).getD i 0 = L.getD i 0 := fun i hi => by rw [getD_app (by omega), getD_tk hi]
  have hne : L.take (signN L) ++ t ≠ [] := fun e => by have := congrArg List.length e; rw [List.length_append, hlen] at this; simp at this; omega
  have hl2 : signN L ≤ (L.take (signN L) ++ t).length := by rw [List.length_append, hlen]; omega
  have g0 := hg 0 (by omega)
  generalize L.take (signN L) ++ t = M at *
  unfold signN at h hg hl2 hle ⊢
  rw [if_neg hne, g0]
  have hnL : L ≠ [] := fun e => h (by rw [if_pos e])
  rw [if_neg hnL] at h hg hl2 hle ⊢
  by_cases c1 : (L.getD 0 0).toNat < 128
  · rw [if_pos c1, if_pos c1]
  rw [if_neg c1] at h hg hl2 hle ⊢
  rw [if_neg c1]
  by_cases c2 : sizeN (L.getD 0 0).toNat = 0
  · rw [if_pos c2] at h; exact absurd rfl h
  rw [if_neg c2] at h hg hl2 hle ⊢
  rw [if_neg c2]
  by_cases c3 : L.length < sizeN (L.getD 0 0).toNat
  · rw [if_pos c3] at h; exact absurd rfl h
  rw [if_neg c3] at h hg hl2 hle ⊢
  by_cases c4 : (L.getD 1 0).toNat < loN (L.getD 0 0).toNat ∨ hiN (L.getD 0 0).toNat < (L.getD 1 0).toNat
  · rw [if_pos c4] at h; exact absurd rfl h
  rw [if_neg c4] at h hg hl2 hle ⊢
  by_cases c5 : sizeN (L.getD 0 0).toNat = 2
  · rw [if_pos c5] at h hg hl2 hle ⊢
    rw [if_neg (by omega), hg 1 (by omega), if_neg c4, if_pos c5]
  rw [if_neg c5] at h hg hl2 hle ⊢
  by_cases c6 : (L.getD 2 0).toNat < 128 ∨ 191 < (L.getD 2 0).toNat
  · rw [if_pos c6] at h; exact absurd rfl h
  rw [if_neg c6] at h hg hl2 hle ⊢
  by_cases c7 : sizeN (L.getD 0 0).toNat = 3
  · rw [if_pos c7] at h hg hl2 hle ⊢
    rw [if_neg (by omega), hg 1 (by omega), if_neg c4, if_neg c5, hg 2 (by omega), if_neg c6, if_pos c7]
  rw [if_neg c7] at h hg hl2 hle ⊢
  by_cases c8 : (L.getD 3 0).toNat < 128 ∨ 191 < (L.getD 3 0).toNat
  · rw [if_pos c8] at h; exact absurd rfl h
  rw [if_neg c8] at h hg hl2 hle ⊢
  rw [if_neg (by omega), hg 1 (by omega), if_neg c4, if_neg c5, hg 2 (by omega), if_neg c6, if_neg c7, hg 3 (by omega), if_neg c8]
/-- A sequence of signs that a text has. -/
inductive Sg : List UInt8 → Prop
  | nil : Sg []
  | cons {L t : List UInt8} (h : signN L ≠ 0) (h1 : ¬(L.getD 0 0).toNat < 32) (h2 : (L.getD 0 0).toNat ≠ 127) (ht : Sg t) : Sg (L.take (signN L) ++ t)
theorem Sg.snoc {o L : List UInt8} (ho : Sg o) (h : signN L ≠ 0) (h1 : ¬(L.getD 0 0).toNat < 32) (h2 : (L.getD 0 0).toNat ≠ 127) : Sg (o ++ L.take (signN L)) := by
  induction ho with
  | nil => have := Sg.cons h h1 h2 .nil; rwa [List.append_nil] at this
  | cons a b c _ ih => rw [List.append_assoc]; exact .cons a b c ih
theorem drop_getD0 (l : List UInt8) (p : Nat) : (l.drop p).getD 0 0 = l.getD p 0 := by simp [List.getD_eq_getElem?_getD]
theorem Sg.txt {l : List UInt8} : ∀ (n p : Nat), Sg (l.drop p) → txtB l n p = true
  | 0, p, _ => rfl
  | n + 1, p, h => by
    unfold txtB
    by_cases hp : p < l.length
    · generalize hd : l.drop p = D at h
      cases h with
      | nil => have := congrArg List.length hd; rw [List.length_drop] at this; simp at this; omega
      | @cons L t a b c ht =>
        have e0 : l.getD p 0 = L.getD 0 0 := by
          rw [← drop_getD0, hd, getD_app (by rw [List.length_take]; have := signN_le L; omega), getD_tk (by omega)]
        have es : signN (l.drop p) = signN L := by rw [hd]; exact sign_app L t a
        rw [bcT (decide_eq_true hp), sign_app L t a, bcF (beq_eq_false_iff_ne.2 a), e0, bcF (decide_eq_false b), bcF (beq_eq_false_iff_ne.2 c)]
        refine Sg.txt n _ ?_
        have : l.drop (p + signN L) = t := by
          rw [← List.drop_drop, hd, List.drop_append_of_le_length (by rw [List.length_take]; have := signN_le L; omega), List.drop_take, Nat.sub_self, List.take_zero, List.nil_append]
        rw [this]; exact ht
    · rw [bcF (decide_eq_false hp)]
theorem txS_ok {s : List UInt8} : ∀ (n p : Nat) (o : List UInt8), Sg o → o.length ≤ 40 → Sg (txS s n p o) ∧ (txS s n p o).length ≤ 40
  | 0, p, o, h1, h2 => ⟨h1, h2⟩
  | n + 1, p, o, h1, h2 => by
    unfold txS
    by_cases hc : p < s.length ∧ o.length < 37
    · rw [bcT (decide_eq_true hc)]
      cases hb : badT s p with
      | true => exact txS_ok n _ o h1 h2
      | false =>
        unfold badT at hb
        simp only [Bool.or_eq_false_iff, beq_eq_false_iff_ne, decide_eq_false_iff_not] at hb
        refine txS_ok n _ _ (h1.snoc hb.1 (by rw [drop_getD0]; exact hb.2.1) (by rw [drop_getD0]; exact hb.2.2)) ?_
        have : signN (s.drop p) ≤ 4 := by
          unfold signN; repeat' split
          all_goals omega
        rw [List.length_append, List.length_take]; omega
    · rw [bcF (decide_eq_false hc)]; exact ⟨h1, h2⟩
theorem Sg.text {l : List UInt8} (h : Sg l) : textB l = true := by
  have h1 := Sg.txt (l := l) l.length 0 h
  obtain ⟨k1, k2⟩ := text_of l l.length 0 (by omega) h1
  unfold textB; rw [k1]; exact k2
theorem textL_ok (s : List UInt8) : textB (textL s) = true ∧ (textL s).length ≤ 40 := by
  have := txS_ok (s := s) s.length 0 [] .nil (by simp)
  exact ⟨this.1.text, this.2⟩
/-- The program's own test. -/
def isTx (l : List UInt8) : Bool := decide (l.length ≤ 200) && textB l
theorem isT_comes (l : List UInt8) : Comes tab5 nolv 51 [.str l] [] (.br (decide ((l.length : Int) ≤ 200)) (.chk (decide (l.length ≤ 9223372036854775807)) (.ret (.bool (textB l)) [])) (.ret (.bool false) [])) := by unfold Comes; kernel_rfl
theorem eIsT_ok : EntOK Tryz.prog 51 (eIsT isTx) := fun args pre => by
  unfold eIsT
  split
  · rename_i l
    refine ⟨fun g => ?_, fun _ => trivial⟩
    refine of_run (x := .br _ _ _) (y := .ret _ _) (ans_comes tab5_ok (isT_comes l)) fun r hr => ?_
    rw [← hr]; unfold isTx
    have := of_decide_eq_true g
    by_cases h : l.length ≤ 200
    · rw [brT (decide_eq_true (by omega)), chkT (decide_eq_true (by omega)), decide_eq_true h, Bool.true_and]
    · rw [brF (decide_eq_false (by omega)), decide_eq_false h, Bool.false_and]
  · trivial
end Go.Proofs.YtdomenmfkbfakaaGreatDoor

/- Law 3: plain values of raw numbers, that are right. -/
set_option linter.unusedVariables false
set_option linter.unusedSimpArgs false
namespace Go.Proofs.YtdomenmfkbfakaaGreatDoor
open Go Sx
abbrev I3 := Int × Int × Int
def eOfF (fo : Int → I3) : Ent := fun args pre => match args, pre with
  | [.int .i64 a], [] => .chk (inI a) (.ret (R3 (fo a)) [])
  | _, _ => .fail
theorem eOfF_ok : EntOK Tryz.prog 35 (eOfF ofR) := fun args pre => by
  unfold eOfF
  split
  · exact ⟨fun g => of_meets _ g, fun _ => trivial⟩
  · trivial
def eDivF (fd : Int → Int → Int → Int → I3) : Ent := fun args pre => match args, pre with
  | [.agg [.int .i64 a, .int .i64 b], .agg [.int .i64 c, .int .i64 d]], [] => .chk (Dq.rightB a b) (.chk (Dq.rightB c d) (.chk (c != 0) (.ret (R3 (fd a b c d)) [])))
  | _, _ => .fail
def divR (a b c d : Int) : I3 := nrR (decide (a < 0) != decide (c < 0)) (wN a b) (wN c d)
theorem eDivF_ok : EntOK Tryz.prog 36 (eDivF divR) := fun args pre => by
  unfold eDivF
  split
  · exact ⟨fun g1 => ⟨fun g2 => ⟨fun g3 => div_meets _ _ _ _ g1 g2 (bne_iff_ne.1 g3), fun _ => trivial⟩, fun _ => trivial⟩, fun _ => trivial⟩
  · trivial
def tVl (fo : Int → I3) (fd : Int → Int → Int → Int → I3) (tf : List UInt8 → List UInt8) : Tab := [(24, ePick), (35, eOfF fo), (36, eDivF fd), (32, eTx tf)]
theorem tVl_ok : TabOK Tryz.prog (tVl ofR divR textL) := .cons ePick_ok (.cons eOfF_ok (.cons eDivF_ok (.cons eTx_ok .nil)))
def rowT (x : List CV) : Ans := .ret (vR x) []
def vlT (r1 r2 : I3) (c1 c2 : Bool) (t : List UInt8) (k m e : Int) (s : List UInt8) (b : Bool) : Ans :=
  .chk (inI k) (.br (pickS k 5 == 1) (.chk (inI m) (.chk (inI (w64 (pickS m 2000001 - 1000000))) (.chk (inI e) (.chk c1 (.chk c2 (.br (r1.2.2 == 0) (.br (r2.2.2 == 0) (rowT (mkR 1 r2.1 r2.2.1 [] false 0 0 0 0)) (rowT (mkR 1 0 0 [] false 0 0 0 0))) (rowT (mkR 1 0 0 [] false 0 0 0 0))))))))
    (.br (pickS k 5 == 2) (.chk (decide (s.length ≤ 9223372036854775807)) (rowT (mkR 2 0 0 t false 0 0 0 0))) (.br (pickS k 5 == 3) (rowT (mkR 3 0 0 [] b 0 0 0 0)) (.br (pickS k 5 == 4) (.chk (inI m) (rowT (mkR 4 0 0 [] false (w64 (1 + pickS m 9)) 0 0 0))) (rowT (mkR 0 0 0 [] false 0 0 0 0))))))
theorem vl_comes (fo : Int → I3) (fd : Int → Int → Int → Int → I3) (tf : List UInt8 → List UInt8) (k m e : Int) (s : List UInt8) (b : Bool) : Comes (tVl fo fd tf) nolv 12 [.agg [.int .i64 k, .int .i64 m, .int .i64 e, .str s, .bool b]] []
  (vlT (fo (w64 (pickS m 2000001 - 1000000))) (fd (fo (w64 (pickS m 2000001 - 1000000))).1 (fo (w64 (pickS m 2000001 - 1000000))).2.1 1 (pickS e 5)) (Dq.rightB (fo (w64 (pickS m 2000001 - 1000000))).1 (fo (w64 (pickS m 2000001 - 1000000))).2.1) (Dq.rightB 1 (pickS e 5)) (tf s) k m e s b) := by unfold Comes; kernel_rfl
def valF (r1 r2 : I3) (t : List UInt8) (k m : Int) (b : Bool) : List CV :=
  bcond (k == 1) (bcond (r1.2.2 == 0) (bcond (r2.2.2 == 0) (mkR 1 r2.1 r2.2.1 [] false 0 0 0 0) (mkR 1 0 0 [] false 0 0 0 0)) (mkR 1 0 0 [] false 0 0 0 0))
    (bcond (k == 2) (mkR 2 0 0 t false 0 0 0 0) (bcond (k == 3) (mkR 3 0 0 [] b 0 0 0 0) (bcond (k == 4) (mkR 4 0 0 [] false (1 + m) 0 0 0) (mkR 0 0 0 [] false 0 0 0 0))))
def numO (m : Int) : I3 := ofR (pickS m 2000001 - 1000000)
def numD (m e : Int) : I3 := divR (numO m).1 (numO m).2.1 1 (pickS e 5)
/-- The value of raw numbers, as a row. -/
def valR (k m e : Int) (s : List UInt8) (b : Bool) : List CV := valF (numO m) (numD m e) (textL s) (pickS k 5) (pickS m 9) b
def eVal (f : Int → Int → Int → List UInt8 → Bool → List CV) : Ent := fun args pre => match args, pre with
  | [.agg [.int .i64 k, .int .i64 m, .int .i64 e, .str s, .bool b]], [] => .chk (inI k) (.chk (inI m) (.chk (inI e) (.chk (decide (s.length ≤ 9223372036854775807)) (.ret (vR (f k m e s b)) []))))
  | _, _ => .fail
theorem one_right {x : Int} (h : 0 ≤ x ∧ x < 5) : Dq.rightB 1 x = true := by
  have : x = 0 ∨ x = 1 ∨ x = 2 ∨ x = 3 ∨ x = 4 := by omega
  rcases this with rfl | rfl | rfl | rfl | rfl <;> rfl
theorem numO_right (m : Int) : Dq.rightB (numO m).1 (numO m).2.1 = true := ofV_right _ _ (nrR_right _ _ _)
theorem numD_right (m e : Int) (h : (numD m e).2.2 = 0) : Dq.rightB (numD m e).1 (numD m e).2.1 = true := nrR_right _ _ _ h
theorem vlT_run {r1 r2 : I3} {c1 c2 : Bool} {t : List UInt8} {k m e : Int} {s : List UInt8} {b : Bool} (hk : inI k = true) (hm : inI m = true) (he : inI e = true) (hs : s.length ≤ 9223372036854775807) (h1 : c1 = true) (h2 : c2 = true) : (vlT r1 r2 c1 c2 t k m e s b).run pure2 = pure2 (vR (valF r1 r2 t (pickS k 5) (pickS m 9) b)) [] := by
  have b1 := pickS_bd (a := m) (n := 2000001) (by decide)
  have b2 := pickS_bd (a := m) (n := 9) (by decide)
  unfold vlT valF
  rw [chkT hk]
  cases q1 : pickS k 5 == 1 with
  | true =>
    rw [brT rfl, chkT hm, chkT (by rw [w64_of (inI_iff.2 ⟨by omega, by omega⟩)]; exact inI_iff.2 ⟨by omega, by omega⟩), chkT he, chkT h1, chkT h2]
    cases r1.2.2 == 0 <;> cases r2.2.2 == 0 <;> rfl
  | false =>
    rw [brF rfl]
    cases q2 : pickS k 5 == 2 with
    | true => rw [brT rfl, chkT (decide_eq_true hs)]; rfl
    | false =>
      rw [brF rfl]
      cases q3 : pickS k 5 == 3 with
      | true => rw [brT rfl]; rfl
      | false =>
        rw [brF rfl]
        cases q4 : pickS k 5 == 4 with
        | true => rw [brT rfl, chkT hm, w64_of (inI_iff.2 ⟨by omega, by omega⟩)]; rfl
        | false => rw [brF rfl]; rfl
theorem eVal_ok : EntOK Tryz.prog 12 (eVal valR) := fun args pre => by
  unfold eVal
  split
  · rename_i k m e s b
    refine ⟨fun g1 => ⟨fun g2 => ⟨fun g3 => ⟨fun g4 => ?_, fun _ => trivial⟩, fun _ => trivial⟩, fun _ => trivial⟩, fun _ => trivial⟩
    have b1 := pickS_bd (a := m) (n := 2000001) (by decide)
    have hw : w64 (pickS m 2000001 - 1000000) = pickS m 2000001 - 1000000 := w64_of (inI_iff.2 ⟨by omega, by omega⟩)
    have key := vl_comes ofR divR textL k m e s b
    rw [hw] at key
    exact meets_ent (pre := []) (post := []) tVl_ok host (key.trans (vlT_run g1 g2 g3 (of_decide_eq_true g4) (numO_right m) (one_right (pickS_bd (by decide))))) nolv_ok
  · trivial
theorem valF_ok {r1 r2 : I3} {t : List UInt8} {k m : Int} {b : Bool} (h2 : r2.2.2 = 0 → Dq.rightB r2.1 r2.2.1 = true) (ht : isTx t = true) (hl : t.length ≤ 40) (hm : 0 ≤ m ∧ m < 9) : plR (valF r1 r2 t k m b) = true ∧ rigR isTx (valF r1 r2 t k m b) = true := by
  unfold valF
  cases k == 1 with
  | true =>
    cases r1.2.2 == 0 with
    | false => exact ⟨by kernel_rfl, by kernel_rfl⟩
    | true => cases q : r2.2.2 == 0 with
      | false => exact ⟨by kernel_rfl, by kernel_rfl⟩
      | true =>
        refine ⟨rfl, ?_⟩
        show (Dq.rightB r2.1 r2.2.1 && zF 0 0 [] false 0 0 0 0) = true
        rw [h2 (beq_iff_eq.1 q)]; rfl
  | false => cases k == 2 with
    | true =>
      refine ⟨?_, ?_⟩
      · show (true && decide (t.length ≤ 1000000)) = true
        rw [decide_eq_true (by omega)]; rfl
      · show (isTx t && zF 0 0 [] false 0 0 0 0) = true
        rw [ht]; rfl
    | false => cases k == 3 with
      | true => exact ⟨rfl, rfl⟩
      | false => cases k == 4 with
        | true =>
          refine ⟨rfl, ?_⟩
          show (decide (1 ≤ 1 + m ∧ 1 + m ≤ 9) && zF 0 0 [] false 0 0 0 0) = true
          rw [decide_eq_true ⟨by omega, by omega⟩]; rfl
        | false => exact ⟨rfl, rfl⟩
theorem valR_ok (k m e : Int) (s : List UInt8) (b : Bool) : plR (valR k m e s b) = true ∧ rigR isTx (valR k m e s b) = true :=
  valF_ok (numD_right m e) (by unfold isTx; rw [(textL_ok s).1, decide_eq_true (by have := (textL_ok s).2; omega)]; rfl) (textL_ok s).2 (pickS_bd (by decide))
end Go.Proofs.YtdomenmfkbfakaaGreatDoor

/- Law 3: arrays of raw numbers. -/
set_option linter.unusedVariables false
set_option linter.unusedSimpArgs false
namespace Go.Proofs.YtdomenmfkbfakaaGreatDoor
open Go Sx
abbrev FV := Int → Int → Int → List UInt8 → Bool → List CV
/-- Raw numbers that a program can hold. -/
def okC (x : List CV) : List Bool := [inI (rowCV x 0).n, inI (rowCV x 1).n, inI (rowCV x 2).n, decide ((rowCV x 3).s.length ≤ 9223372036854775807)]
section
variable (f : FV) (H W : Int) (a : Nat) (R : List (List CV))
end
def okW (a : Nat) (R : List (List CV)) : Prop := a ≤ R.length ∧ a < 9223372036854775808 ∧ ∀ i, i < a → ∀ c ∈ okC (Sx.rowAt R i), c = true
section
variable {f : FV} {H W : Int} {a N : Nat} {R : List (List CV)}
end
end Go.Proofs.YtdomenmfkbfakaaGreatDoor

/- Law 3: what is made of an array (ValMade): the rounds. -/
set_option linter.unusedVariables false
set_option linter.unusedSimpArgs false
namespace Go.Proofs.YtdomenmfkbfakaaGreatDoor
open Go Sx
section
variable (tx : List UInt8 → Bool) (H W n : Int) (N : Nat) (R L M : List (List CV))
end
end Go.Proofs.YtdomenmfkbfakaaGreatDoor

/- Law 3: what is made of an array (ValMade): the law. -/
set_option linter.unusedVariables false
set_option linter.unusedSimpArgs false
namespace Go.Proofs.YtdomenmfkbfakaaGreatDoor
open Go Sx
section
variable (tx : List UInt8 → Bool) (H W n : Int) (N : Nat) (R L M : List (List CV))
end
end Go.Proofs.YtdomenmfkbfakaaGreatDoor

/- Law 3: what is made of an array (ValMade): it is so. -/
set_option linter.unusedVariables false
set_option linter.unusedSimpArgs false
namespace Go.Proofs.YtdomenmfkbfakaaGreatDoor
open Go Sx
theorem sameF_refl (k m e : Int) (s : List UInt8) (b : Bool) (r h w f : Int) : sameF k m e s b r h w f k m e s b r h w f = true := by unfold sameF; simp
section
variable {a : Nat} {R : List (List CV)} {N : Nat}
end
section
variable {H W n : Int} {N : Nat} {R L M : List (List CV)} (h1 : 1 ≤ H ∧ H ≤ 5) (h2 : 1 ≤ W ∧ W ≤ 5) (hN : (N : Int) = H * W) (h25 : N ≤ 25) (h0 : 1 ≤ N) (hL : okRows N L) (hM : okRows N M) (rL : rigFrom isTx L N 0 = true) (rM' : rigFrom isTx M N 0 = true) (hs : ∀ i, i < N → samR (Sx.rowAt M i) (Sx.rowAt L i) = true)
include h1 h2 hN h25 h0 hL hM rL rM' hs
end
end Go.Proofs.YtdomenmfkbfakaaGreatDoor

/- Layer 3: what is told of a value, by functions that tell of plain ones: the rounds. -/
set_option linter.unusedVariables false
set_option linter.unusedSimpArgs false
namespace Go.Proofs.YtdomenmfkbfakaaGreatDoor
open Go Sx
/-- A function that tells of a plain value, not looked into: of which values, and what. -/
def eAsk (q : List CV → Bool) (af : List CV → List CV) : Ent := fun args pre => match args, pre with
  | [.agg [.int .i64 k, .int .i64 m, .int .i64 e, .str s, .bool b, .int .i64 r, .int .i64 h, .int .i64 w, .nilslice, .int .i64 f, .nilslice, .nilslice]], [] => .chk (q (mkR k m e s b r h w f)) (.ret (vR (af (mkR k m e s b r h w f))) [])
  | _, _ => .fail

-- ToNum
section
variable (af : List CV → List CV) (q : List CV → Bool) (m e : Int) (s : List UInt8) (b : Bool) (r h w f : Int) (a : Nat) (R L : List (List CV))
end

-- ToText
section
variable (af : List CV → List CV) (q : List CV → Bool) (m e : Int) (s : List UInt8) (b : Bool) (r h w f : Int) (a : Nat) (R L : List (List CV))
end

-- ToBool
section
variable (af : List CV → List CV) (q : List CV → Bool) (m e : Int) (s : List UInt8) (b : Bool) (r h w f : Int) (a : Nat) (R L : List (List CV))
end
end Go.Proofs.YtdomenmfkbfakaaGreatDoor

/- Layer 3: what is told of a value, by functions that tell of plain ones: what comes of it. -/
set_option linter.unusedVariables false
set_option linter.unusedSimpArgs false
namespace Go.Proofs.YtdomenmfkbfakaaGreatDoor
open Go Sx
def rowA (x : List CV) : Ans := .ret (vR x) []
def okD (q : List CV → Bool) (a : Nat) (R : List (List CV)) : Prop := a ≤ R.length ∧ a < 1000000000 ∧ ∀ i, i < a → (rk (Sx.rowAt R i) == 4) = true ∨ q (nrm (Sx.rowAt R i)) = true

-- ToNum
section
variable (af : List CV → List CV) (q : List CV → Bool) (tx : List UInt8 → Bool) (k m e : Int) (s : List UInt8) (b : Bool) (r h w f : Int) (a : Nat) (R L : List (List CV))
end
section
variable {af : List CV → List CV} {q : List CV → Bool} {m e : Int} {s : List UInt8} {b : Bool} {r h w f : Int} {a : Nat} {R : List (List CV)}
end

-- ToText
section
variable (af : List CV → List CV) (q : List CV → Bool) (tx : List UInt8 → Bool) (k m e : Int) (s : List UInt8) (b : Bool) (r h w f : Int) (a : Nat) (R L : List (List CV))
end
section
variable {af : List CV → List CV} {q : List CV → Bool} {m e : Int} {s : List UInt8} {b : Bool} {r h w f : Int} {a : Nat} {R : List (List CV)}
end

-- ToBool
section
variable (af : List CV → List CV) (q : List CV → Bool) (tx : List UInt8 → Bool) (k m e : Int) (s : List UInt8) (b : Bool) (r h w f : Int) (a : Nat) (R L : List (List CV))
end
section
variable {af : List CV → List CV} {q : List CV → Bool} {m e : Int} {s : List UInt8} {b : Bool} {r h w f : Int} {a : Nat} {R : List (List CV)}
end
end Go.Proofs.YtdomenmfkbfakaaGreatDoor

/- Layer 3: what is told of a value: entries. -/
set_option linter.unusedVariables false
set_option linter.unusedSimpArgs false
set_option linter.unusedSectionVars false
namespace Go.Proofs.YtdomenmfkbfakaaGreatDoor
open Go Sx

-- ToNum
section
variable {tx : List UInt8 → Bool} {af : List CV → List CV} {q : List CV → Bool} (ht : EntOK Tryz.prog 51 (eIsT tx)) (hq : EntOK Tryz.prog 72 (eAsk q af))
include ht hq
end

-- ToText
section
variable {tx : List UInt8 → Bool} {af : List CV → List CV} {q : List CV → Bool} (ht : EntOK Tryz.prog 51 (eIsT tx)) (hq : EntOK Tryz.prog 74 (eAsk q af))
include ht hq
end

-- ToBool
section
variable {tx : List UInt8 → Bool} {af : List CV → List CV} {q : List CV → Bool} (ht : EntOK Tryz.prog 51 (eIsT tx)) (hq : EntOK Tryz.prog 76 (eAsk q af))
include ht hq
end
end Go.Proofs.YtdomenmfkbfakaaGreatDoor

/- Layer 3: ToNum, ToText, ToBool. -/
set_option linter.unusedVariables false
set_option linter.unusedSimpArgs false
set_option linter.unusedSectionVars false
namespace Go.Proofs.YtdomenmfkbfakaaGreatDoor
open Go Sx

-- ToNum
section
variable {tx : List UInt8 → Bool} {af : List CV → List CV} {q : List CV → Bool} (ht : EntOK Tryz.prog 51 (eIsT tx)) (hq : EntOK Tryz.prog 72 (eAsk q af))
include ht hq
end
section
variable {tx : List UInt8 → Bool} {af : List CV → List CV} {q : List CV → Bool} (ht : EntOK Tryz.prog 51 (eIsT tx)) (hq : EntOK Tryz.prog 72 (eAsk q af))
include ht hq
end

-- ToText
section
variable {tx : List UInt8 → Bool} {af : List CV → List CV} {q : List CV → Bool} (ht : EntOK Tryz.prog 51 (eIsT tx)) (hq : EntOK Tryz.prog 74 (eAsk q af))
include ht hq
end
section
variable {tx : List UInt8 → Bool} {af : List CV → List CV} {q : List CV → Bool} (ht : EntOK Tryz.prog 51 (eIsT tx)) (hq : EntOK Tryz.prog 74 (eAsk q af))
include ht hq
end

-- ToBool
section
variable {tx : List UInt8 → Bool} {af : List CV → List CV} {q : List CV → Bool} (ht : EntOK Tryz.prog 51 (eIsT tx)) (hq : EntOK Tryz.prog 76 (eAsk q af))
include ht hq
end
section
variable {tx : List UInt8 → Bool} {af : List CV → List CV} {q : List CV → Bool} (ht : EntOK Tryz.prog 51 (eIsT tx)) (hq : EntOK Tryz.prog 76 (eAsk q af))
include ht hq
end
end Go.Proofs.YtdomenmfkbfakaaGreatDoor

/- Layer 3: what is told of a plain value as a number, a truth, a text: over dec.Read, letters.Small, dec.Text, not looked into. -/
set_option linter.unusedVariables false
set_option linter.unusedSimpArgs false
namespace Go.Proofs.YtdomenmfkbfakaaGreatDoor
open Go Sx
def eRdF (rd : List UInt8 → Int × Int × Int) : Ent := fun args pre => match args, pre with
  | [.str s], [] => .chk (decide (s.length < 1000000)) (.ret (R3 (rd s)) [])
  | _, _ => .fail
def eSmF (sm : List UInt8 → List UInt8) : Ent := fun args pre => match args, pre with
  | [.str s], [] => .chk (decide (s.length < 1000000)) (.ret (.str (sm s)) [])
  | _, _ => .fail
def eDtF (dt : Int → Int → List UInt8) : Ent := fun args pre => match args, pre with
  | [.agg [.int .i64 m, .int .i64 e]], [] => .chk (Dq.rightB m e) (.ret (.tuple [.str (dt m e), .int .i64 0]) [])
  | _, _ => .fail
def nmR (m e : Int) : List CV := mkR 1 m e [] false 0 0 0 0
def txR (s : List UInt8) : List CV := mkR 2 0 0 s false 0 0 0 0
def trR (b : Bool) : List CV := mkR 3 0 0 [] b 0 0 0 0
def sTrue : List UInt8 := [116, 114, 117, 101]
def sFalse : List UInt8 := [102, 97, 108, 115, 101]
section
variable (rd : List UInt8 → Int × Int × Int) (sm : List UInt8 → List UInt8) (dt : Int → Int → List UInt8) (k m e : Int) (s : List UInt8) (b : Bool) (r h w f : Int)
end
end Go.Proofs.YtdomenmfkbfakaaGreatDoor

/- Layer 3: small letters in the place of great ones: letters.Small of any text. -/
set_option linter.unusedVariables false
set_option linter.unusedSimpArgs false
namespace Go.Proofs.YtdomenmfkbfakaaGreatDoor
open Go Sx
theorem sb_comes (c : Int) : Comes [] nolv 97 [.int .u8 c] [] (.br (decide (c ≥ 65)) (.br (decide (c ≤ 90)) (.ret (.int .u8 (IntKind.u8.wrap (IntKind.u8.wrap (c - 65) + 97))) []) (.ret (.int .u8 c) [])) (.ret (.int .u8 c) [])) := by unfold Comes; kernel_rfl
def sbI (c : Int) : Int := bcond (decide (65 ≤ c ∧ c ≤ 90)) (c + 32) c
def eSb (g : Int → Int) : Ent := fun args pre => match args, pre with
  | [.int .u8 c], [] => .chk (decide (0 ≤ c ∧ c < 256)) (.ret (.int .u8 (g c)) [])
  | _, _ => .fail
theorem eSb_ok : EntOK Tryz.prog 97 (eSb sbI) := fun args pre => by
  unfold eSb
  split
  · rename_i c
    refine ⟨fun g => ?_, fun _ => trivial⟩
    have g := of_decide_eq_true g
    refine meets_ent (pre := []) (post := []) .nil host ((sb_comes c).trans ?_) nolv_ok
    unfold sbI
    by_cases h1 : c ≥ 65
    · rw [brT (decide_eq_true h1)]
      by_cases h2 : c ≤ 90
      · rw [brT (decide_eq_true h2), decide_eq_true (show 65 ≤ c ∧ c ≤ 90 from ⟨h1, h2⟩), u8_in (n := c - 65) (by omega) (by omega), u8_in (by omega) (by omega), show c - 65 + 97 = c + 32 by omega]; rfl
      · rw [brF (decide_eq_false h2), decide_eq_false (fun h => h2 h.2)]; rfl
    · rw [brF (decide_eq_false h1), decide_eq_false (fun h => h1 h.1)]; rfl
  · trivial
def sSm (u : List UInt8) (n : Nat) (i : Int) : PState := ⟨nn 3 ++ some (.vec 0 n) :: (nn 4 ++ some (.vec 0 n) :: some (.int .i64 n) :: some (.int .i64 i) :: nn 12), some (.vecB u 5) :: nn 64⟩
def sSmX (u : List UInt8) (n : Nat) : PState := ⟨nn 3 ++ some (.vec 0 n) :: nn 19, some (.vecB u 5) :: nn 64⟩
noncomputable abbrev loopSml : Code := (loopBodies (bodyOf Tryz.f46)).headD .skip
def byI (u : List UInt8) (i : Int) : Int := byteAt u (i.toNat * 1)
def inB (u : List UInt8) (i : Int) : Bool := decide (i.toNat * 1 < u.length)
theorem rSml (g : Int → Int) (u : List UInt8) (n : Nat) (i : Int) : code (ent Tryz.prog [(97, eSb g)] nolv 64 1 20) Tryz.prog {} 0 64 1 loopSml (sSm u n i) (endK 0 64 (fun n => hasN [3, 8, 9, 10] n) (fun n => hasN [3] n))
  = bcond (decide (i < (n : Int))) (chks (chks (some (.normal, sSm (u.set (i.toNat * 1) (toByte (g (byI u i)))) n (up1 i))) [decide (0 ≤ byI u i ∧ byI u i < 256), ixN i n, inB u i && decide (0 ≤ g (byI u i) ∧ g (byI u i) < 256)]) [ixN i n, inB u i]) (some (.exit 0, sSmX u n)) := by kernel_rfl
def sbB (c : UInt8) : UInt8 := toByte (sbI (c.toNat : Int))
def smS (l : List UInt8) (p : Nat) : List UInt8 := (l.take p).map sbB ++ l.drop p
theorem smS_len {l : List UInt8} {p : Nat} (h : p ≤ l.length) : (smS l p).length = l.length := by unfold smS; simp; omega
theorem smS_get {l : List UInt8} {p : Nat} (h : p < l.length) : (smS l p).getD p 0 = l[p] := by
  unfold smS
  rw [List.drop_eq_getElem_cons h, List.getD_eq_getElem?_getD, List.getElem?_append_right (by simp; omega)]
  simp [show min p l.length = p by omega, List.getElem?_eq_getElem h]
theorem smS_next {l : List UInt8} {p : Nat} (h : p < l.length) : (smS l p).set p (sbB l[p]) = smS l (p + 1) := by
  have hl : ((l.take p).map sbB).length = p := by simp; omega
  unfold smS
  rw [List.drop_eq_getElem_cons h, List.take_succ_eq_append_getElem h, List.map_append, List.append_assoc, List.set_append_right _ _ (by omega), hl, Nat.sub_self]
  rfl
theorem sbI_bd {c : Int} (h : 0 ≤ c ∧ c < 256) : 0 ≤ sbI c ∧ sbI c < 256 := by
  unfold sbI
  by_cases g : 65 ≤ c ∧ c ≤ 90
  · rw [decide_eq_true g]; simp only [bcond]; omega
  · rw [decide_eq_false g]; simp only [bcond]; omega
theorem loopSm {l : List UInt8} (hl : l.length ≤ 9223372036854775807) : Tri Tryz.prog (.loop loopSml) (sSm l l.length 0).toA (.exit 0) (sSmX (l.map sbB) l.length).toA 0 := by
  have key := loop_rounds (ent_sound (T := [(97, eSb sbI)]) (.cons eSb_ok .nil) host nolv_ok (NF := 64) (m := 1) 20) (NF := 64) (m := 1) (x := loopSml) (K := 0) loops_none (fun n => hasN [3, 8, 9, 10] n) (fun n => hasN [3] n) (ι := { p : Nat // p ≤ l.length }) (fun p => sSm (smS l p.1) l.length (p.1 : Int)) (fun p => l.length - p.1) (fun p => (.exit 0, sSmX (l.map sbB) l.length)) ?_ (fun j => by simp) ⟨0, Nat.zero_le _⟩
  · have e : smS l 0 = l := by unfold smS; simp
    simp only [e] at key
    exact key
  rintro ⟨p, hp⟩
  simp only
  have rd := rSml sbI (smS l p) l.length (p : Int)
  by_cases h : p < l.length
  · have eb : byI (smS l p) (p : Int) = (l[p].toNat : Int) := by unfold byI; rw [Int.toNat_natCast, Nat.mul_one, byteAt_nat, smS_get h]
    have hb : 0 ≤ ((l[p].toNat : Nat) : Int) ∧ ((l[p].toNat : Nat) : Int) < 256 := ⟨by omega, by have := UInt8.toNat_lt l[p]; omega⟩
    have hi : inB (smS l p) (p : Int) = true := by unfold inB; rw [smS_len hp]; exact decide_eq_true (by omega)
    rw [bcT (decide_eq_true (by omega)), chks_true (all2 (ixN_nat h) hi), eb, chks_true (all3' (decide_eq_true hb) (ixN_nat h) (by rw [hi, decide_eq_true (sbI_bd hb)]; rfl)), up1_63 (by omega), Int.toNat_natCast, Nat.mul_one] at rd
    refine .inl ⟨⟨p + 1, h⟩, by simp only; omega, trivial, ?_⟩
    rw [rd, show toByte (sbI (l[p].toNat : Int)) = sbB l[p] from rfl, smS_next h]
  · obtain rfl : p = l.length := by omega
    rw [bcF (decide_eq_false (by omega))] at rd
    have e : smS l l.length = l.map sbB := by unfold smS; simp
    exact .inr (by rw [rd, e])
def outSm (n : Nat) (c : Bool) (u : List UInt8) : LAns := .chk c (.out (.exit 0) (sSmX u n))
noncomputable def lvSm (l : List UInt8) (c : Bool) (u : List UInt8) : FuncId → Lv := lvOf 46 (fun _ => some [3, 8, 9, 10]) (oneL 3 (eAt 0 (sSm l l.length 0) (outSm l.length c u)))
theorem sm_comes (l u : List UInt8) (c : Bool) : Comes [] (lvSm l c u) 46 [.str l] [] (.chk (eqSt (sSm l l.length 0) (sSm l l.length 0)) (.chk c (.chk (decide (l.length ≤ u.length)) (.ret (.str (u.take l.length)) [])))) := by unfold Comes; kernel_rfl
def smallL (l : List UInt8) : List UInt8 := l.map sbB
theorem eSmF_ok : EntOK Tryz.prog 46 (eSmF smallL) := fun args pre => by
  unfold eSmF
  split
  · rename_i l
    refine ⟨fun g => ?_, fun _ => trivial⟩
    have g := of_decide_eq_true g
    refine meets_ent (pre := []) (post := []) .nil host ((sm_comes l (smallL l) true).trans ?_) (lvOne_ok (x := loopSml) Tryz.func46 (by kernel_rfl) fun K t => eAt_ok (a := outSm l.length true (smallL l)) ⟨fun _ => loopSm (by omega), fun _ => trivial⟩ K t)
    have hl : (smallL l).length = l.length := by unfold smallL; simp
    rw [chkT (eqSt_refl _), chkT rfl, chkT (decide_eq_true (by omega)), ← hl, List.take_length]; rfl
  · trivial
end Go.Proofs.YtdomenmfkbfakaaGreatDoor

/- Layer 3: dec.Read and dec.Text as entries; what is told of a plain value as a text. -/
set_option linter.unusedVariables false
set_option linter.unusedSimpArgs false
namespace Go.Proofs.YtdomenmfkbfakaaGreatDoor
open Go Sx
theorem eRdF_ok : EntOK Tryz.prog 44 (eRdF Dq.readR) := fun args pre => by
  unfold eRdF
  split
  · exact ⟨fun g => Dq.read_meets _ (of_decide_eq_true g), fun _ => trivial⟩
  · trivial
/-- The text of a decimal. -/
def decS (m e : Int) : List UInt8 := (Dq.textR m e).1
theorem eDtF_ok : EntOK Tryz.prog 33 (eDtF decS) := fun args pre => by
  unfold eDtF
  split
  · rename_i m e
    refine ⟨fun g => ?_, fun _ => trivial⟩
    have h := Dq.text_meets m e
    have e2 : (Dq.textR m e).2 = 0 := by unfold Dq.textR; rw [if_pos g]
    rw [e2] at h
    exact h
  · trivial
section
variable (dt : Int → Int → List UInt8) (k m e : Int) (s : List UInt8) (b : Bool) (r h w f : Int)
def sT4 : List UInt8 := [84, 82, 85, 69]
def sF5 : List UInt8 := [70, 65, 76, 83, 69]
end
def kT (k m e : Int) (s : List UInt8) (b : Bool) (t : List UInt8) : List CV := bcond (k == 1) (txR t) (bcond (k == 2) (txR s) (bcond (k == 3) (txR (bcond b sT4 sF5)) (txR [])))
end Go.Proofs.YtdomenmfkbfakaaGreatDoor

/- Layer 3: what is told of a value that is right is right. -/
set_option linter.unusedVariables false
set_option linter.unusedSimpArgs false
namespace Go.Proofs.YtdomenmfkbfakaaGreatDoor
open Go Sx
end Go.Proofs.YtdomenmfkbfakaaGreatDoor

/- Law 3: what is told of an array is told one by one (ValEach): the law's tree. -/
set_option linter.unusedVariables false
set_option linter.unusedSimpArgs false
namespace Go.Proofs.YtdomenmfkbfakaaGreatDoor
open Go Sx
section
variable (tx : List UInt8 → Bool) (H W i j : Int) (N : Nat) (L : List (List CV))
end
end Go.Proofs.YtdomenmfkbfakaaGreatDoor

/- Law 3: what is told of an array is told one by one (ValEach): it is so. -/
set_option linter.unusedVariables false
set_option linter.unusedSimpArgs false
set_option linter.unusedSectionVars false
namespace Go.Proofs.YtdomenmfkbfakaaGreatDoor
open Go Sx
theorem sameF_s {m e : Int} {s : List UInt8} {b : Bool} {r h w f : Int} (c : zF m e s b r h w f = true) : s = [] := by
  unfold zF sameF at c
  simp only [Bool.and_eq_true, beq_iff_eq] at c
  exact c.2.2.2.1
/-- What a plain value that is right is like. -/
theorem rightF_facts {k m e : Int} {s : List UInt8} {b : Bool} {r h w f : Int} (c : rightF isTx k m e s b r h w f = true) : (0 ≤ k ∧ k ≤ 4) ∧ s.length ≤ 200 ∧ (k = 1 → Dq.rightB m e = true) ∧ (k = 2 → isTx s = true) ∧ (k = 4 → 1 ≤ r ∧ r ≤ 9) := by
  unfold rightF at c
  split at c
  · rename_i hk; subst hk
    rw [sameF_s c]
    exact ⟨by decide, by simp, fun h => (by cases h), fun h => (by cases h), fun h => (by cases h)⟩
  split at c
  · rename_i _ hk; subst hk
    rw [Bool.and_eq_true] at c
    rw [sameF_s c.2]
    exact ⟨by decide, by simp, fun _ => c.1, fun h => (by cases h), fun h => (by cases h)⟩
  split at c
  · rename_i _ _ hk; subst hk
    rw [Bool.and_eq_true] at c
    have l := c.1
    unfold isTx at l
    rw [Bool.and_eq_true, decide_eq_true_eq] at l
    exact ⟨by decide, l.1, fun h => (by cases h), fun _ => c.1, fun h => (by cases h)⟩
  split at c
  · rename_i _ _ _ hk; subst hk
    rw [sameF_s c]
    exact ⟨by decide, by simp, fun h => (by cases h), fun h => (by cases h), fun h => (by cases h)⟩
  split at c
  · rename_i _ _ _ _ hk; subst hk
    rw [Bool.and_eq_true, decide_eq_true_eq] at c
    rw [sameF_s c.2]
    exact ⟨by decide, by simp, fun h => (by cases h), fun h => (by cases h), fun _ => c.1⟩
  · cases c
theorem plR_of {x : List CV} (h : rigR isTx x = true) : plR x = true := by
  have := rightF_facts h
  unfold plR
  rw [decide_eq_true this.1, decide_eq_true (show (rs x).length ≤ 1000000 by omega)]; rfl
/-- What is asked of a function that tells of plain values: it takes those that are right, and what it tells is right. -/
def afOk (af : List CV → List CV) (q : List CV → Bool) : Prop := ∀ x, rigR isTx x = true → rk x ≠ 4 → rigR isTx (af x) = true ∧ q x = true
section
variable {af : List CV → List CV} {q : List CV → Bool} (ha : afOk af q)
include ha
variable {H W : Int} {N : Nat} {L : List (List CV)} (h1 : 1 ≤ H ∧ H ≤ 5) (h2 : 1 ≤ W ∧ W ≤ 5) (hN : (N : Int) = H * W) (h25 : N ≤ 25) (hL : okRows N L) (rL : rigFrom isTx L N 0 = true)
include h1 h2 hN h25 hL rL
end
end Go.Proofs.YtdomenmfkbfakaaGreatDoor

/- Law 3: what is told of what is told (ValTwice): the law's tree. -/
set_option linter.unusedVariables false
set_option linter.unusedSimpArgs false
namespace Go.Proofs.YtdomenmfkbfakaaGreatDoor
open Go Sx
/-- Are two values the same? They are. -/
def eSamC : Ent := fun args pre => match args, pre with
  | [.agg [.int .i64 k, .int .i64 m, .int .i64 e, .str s, .bool b, .int .i64 r, .int .i64 h, .int .i64 w, l, .int .i64 f, .nilslice, .nilslice], .agg [.int .i64 k', .int .i64 m', .int .i64 e', .str s', .bool b', .int .i64 r', .int .i64 h', .int .i64 w', l', .int .i64 f', .nilslice, .nilslice]], [o, o'] =>
    match rowsIn 0 l o, rowsIn 1 l' o' with
    | some (a, R), some (a', S) => .chk (decide (a ≤ R.length ∧ a' ≤ S.length ∧ a < 1000000000)) (.chk (sameF k m e s b r h w f k' m' e' s' b' r' h' w' f' && eqRows a a' R S) (.ret (.bool true) [o, o']))
    | _, _ => .fail
  | [.agg [.int .i64 k, .int .i64 m, .int .i64 e, .str s, .bool b, .int .i64 r, .int .i64 h, .int .i64 w, .nilslice, .int .i64 f, .nilslice, .nilslice], .agg [.int .i64 k', .int .i64 m', .int .i64 e', .str s', .bool b', .int .i64 r', .int .i64 h', .int .i64 w', .nilslice, .int .i64 f', .nilslice, .nilslice]], [] =>
    .chk (sameF k m e s b r h w f k' m' e' s' b' r' h' w' f') (.ret (.bool true) [])
  | _, _ => .fail
theorem eSamC_ok : EntOK Tryz.prog 26 eSamC := fun args pre => by
  unfold eSamC
  split
  · split
    · rename_i k m e s b r h w l f k' m' e' s' b' r' h' w' l' f' o o' _ _ a R a' S hs hs'
      have key := eSam_ok [vL k m e s b r h w l f, vL k' m' e' s' b' r' h' w' l' f'] [o, o']
      simp only [eSam, hs, hs'] at key
      refine ⟨fun g1 => ⟨fun g2 => ?_, fun _ => trivial⟩, fun _ => trivial⟩
      have := key.1 g1
      rw [g2] at this
      exact this
    · trivial
  · rename_i k m e s b r h w f k' m' e' s' b' r' h' w' f'
    refine ⟨fun g1 => ?_, fun _ => trivial⟩
    have := eSamP_ok [vL k m e s b r h w .nilslice f, vL k' m' e' s' b' r' h' w' .nilslice f'] []
    simp only [eSamP] at this
    rw [g1] at this
    exact this
  · trivial
section
variable (tx : List UInt8 → Bool)
def psT (x y : List CV) (X : Ans) : Ans := .chk (samR x y) X
variable (H W : Int) (N : Nat)
end
section
variable (f : FV) (tx : List UInt8 → Bool) (a1 a2 a3 : List CV → List CV) (q1 q2 q3 : List CV → Bool)
variable (k m e : Int) (s : List UInt8) (b : Bool) (a : Nat) (R : List (List CV))
end
end Go.Proofs.YtdomenmfkbfakaaGreatDoor

/- Law 3: what is told of what is told (ValTwice): the tree of a plain value. -/
set_option linter.unusedVariables false
set_option linter.unusedSimpArgs false
namespace Go.Proofs.YtdomenmfkbfakaaGreatDoor
open Go Sx
section
variable (f : FV) (tx : List UInt8 → Bool) (a1 a2 a3 : List CV → List CV) (q1 q2 q3 : List CV → Bool)
variable (k m e : Int) (s : List UInt8) (b : Bool) (a : Nat) (R : List (List CV))
end
end Go.Proofs.YtdomenmfkbfakaaGreatDoor

/- Law 3: what is told of what is told (ValTwice): the tree of an array. -/
set_option linter.unusedVariables false
set_option linter.unusedSimpArgs false
namespace Go.Proofs.YtdomenmfkbfakaaGreatDoor
open Go Sx
section
variable (f : FV) (tx : List UInt8 → Bool) (a1 a2 a3 : List CV → List CV) (q1 q2 q3 : List CV → Bool)
variable (k m e : Int) (s : List UInt8) (b : Bool) (a : Nat) (R : List (List CV))
end
end Go.Proofs.YtdomenmfkbfakaaGreatDoor

/- Layer 1: what is written of a decimal is read as that decimal. -/
set_option linter.unusedVariables false
set_option linter.unusedSimpArgs false
set_option maxRecDepth 20000
namespace Go.Proofs.YtdomenmfkbfakaaGreatDoor.Dq
open Go Sx Dc

/-- So many figures from one on, as bytes. -/
def sg (ds : List Int) (i n : Nat) : List UInt8 := ((ds.drop i).take n).map chB
theorem chB_ok {d : Int} (h : 0 ≤ d ∧ d ≤ 9) : (chB d).toNat = (48 + d).toNat := by
  unfold chB
  rw [UInt8.toNat_ofNat']
  exact Nat.mod_eq_of_lt (by omega)
theorem sg_ok {ds : List Int} (hd : Dig ds) {i n : Nat} : ∀ b ∈ sg ds i n, okDig b := by
  intro b hb
  obtain ⟨d, hm, rfl⟩ := List.mem_map.1 hb
  have h := hd d (List.mem_of_mem_drop (List.mem_of_mem_take hm))
  unfold okDig
  rw [chB_ok h]; omega
theorem okDig_ne {b : UInt8} (h : okDig b) : b ≠ 46 ∧ b ≠ 45 := by
  unfold okDig at h
  constructor
  · rintro rfl; revert h; decide
  · rintro rfl; revert h; decide
theorem sg_bytes {ds : List Int} (hd : Dig ds) (i n : Nat) : bytesD (sg ds i n) = (ds.drop i).take n := by
  unfold bytesD sg
  rw [List.map_map]
  have : ∀ d ∈ (ds.drop i).take n, ((fun b : UInt8 => (b.toNat : Int) - 48) ∘ chB) d = d := by
    intro d hm
    have h := hd d (List.mem_of_mem_drop (List.mem_of_mem_take hm))
    simp only [Function.comp, chB_ok h]; omega
  rw [List.map_congr_left this, List.map_id']
theorem sg_length {ds : List Int} {i n : Nat} (h : i + n ≤ ds.length) : (sg ds i n).length = n := by
  unfold sg; simp; omega
theorem sg_succ {ds : List Int} {i n : Nat} (h : i + n < ds.length) : sg ds i (n + 1) = sg ds i n ++ [chB (ds.getD (i + n) 0)] := by
  unfold sg
  rw [List.take_succ_eq_append_getElem (by simp; omega), List.map_append]
  simp [List.getD, h]
theorem txt_left {ds : List Int} (hl : ds.length = 88) (a : Nat) : ∀ n, a + n ≤ 48 → txt ds a n = sg ds a n
  | 0, _ => by simp [txt, sg]
  | n + 1, h => by
    rw [txt, txt_left hl a n (by omega), if_neg (by omega), sg_succ (by omega)]; simp
theorem txt_right {ds : List Int} (hl : ds.length = 88) (a : Nat) (ha : a ≤ 48) : ∀ k, 48 + k ≤ 88 → txt ds a (48 - a + k) = sg ds a (48 - a) ++ (if k = 0 then [] else 46 :: sg ds 48 k)
  | 0, _ => by rw [if_pos rfl, Nat.add_zero, txt_left hl a _ (by omega)]; simp
  | k + 1, h => by
    rw [← Nat.add_assoc, txt, txt_right hl a ha k (by omega), show a + (48 - a + k) = 48 + k by omega, sg_succ (by omega), if_neg (by omega : ¬ k + 1 = 0)]
    by_cases hk : k = 0
    · subst hk
      rw [if_pos rfl, if_pos rfl]; simp [sg]
    · rw [if_neg hk, if_neg (by omega)]; simp

theorem idx46_dot : ∀ (W P : List UInt8), (∀ b ∈ W, b ≠ 46) → idx46 (W ++ 46 :: P) = W.length
  | [], P, _ => by simp [idx46, Lib.indexByte]
  | w :: W, P, h => by
    have ih := idx46_dot W P fun b hb => h b (by simp [hb])
    have hw := h w (by simp)
    unfold idx46 at *
    rw [List.cons_append, Lib.indexByte, if_neg (by simpa using hw), ih, if_neg (by simp), List.length_cons]; omega
theorem idx46_no : ∀ (W : List UInt8), (∀ b ∈ W, b ≠ 46) → idx46 W = -1
  | [], _ => by simp [idx46, Lib.indexByte]
  | w :: W, h => by
    have ih := idx46_no W fun b hb => h b (by simp [hb])
    have hw := h w (by simp)
    unfold idx46 at *
    rw [Lib.indexByte, if_neg (by simpa using hw), ih, if_pos (by simp)]
theorem whole_of {W P : List UInt8} (k : Nat) (h : ∀ b ∈ W, b ≠ 46) (hP : k = 0 → P = []) : wholeS (W ++ (if k = 0 then [] else 46 :: P)) = W ∧ partS (W ++ (if k = 0 then [] else 46 :: P)) = P ∧ (decide (0 ≤ idx46 (W ++ (if k = 0 then [] else 46 :: P))) = !decide (k = 0)) := by
  unfold wholeS partS
  by_cases hk : k = 0
  · simp only [if_pos hk, List.append_nil, idx46_no W h]
    rw [if_neg (by omega), if_neg (by omega), hP hk]
    simp [hk]
  · simp only [if_neg hk, idx46_dot W P h]
    rw [if_pos (by omega), if_pos (by omega)]
    simp [hk]

theorem fstGo_zero (ds : List Int) : ∀ (f k i : Nat), k ≤ i → i < fstGo ds f k → ds.getD i 0 = 0
  | 0, k, i, h1, h2 => by simp only [fstGo] at h2; omega
  | f + 1, k, i, h1, h2 => by
    rw [fstGo] at h2
    split at h2
    · rename_i hc
      by_cases e : i = k
      · subst e; exact hc.2
      · exact fstGo_zero ds f (k + 1) i (by omega) h2
    · omega
theorem fstGo_end (ds : List Int) : ∀ (f k : Nat), f + k = 47 → fstGo ds f k = 47 ∨ ds.getD (fstGo ds f k) 0 ≠ 0
  | 0, k, h => .inl (by simp only [fstGo]; omega)
  | f + 1, k, h => by
    rw [fstGo]
    split
    · exact fstGo_end ds f (k + 1) (by omega)
    · rename_i hc
      exact .inr fun h0 => hc ⟨by omega, h0⟩
theorem lstGo_zero (ds : List Int) : ∀ (f k i : Nat), lstGo ds f k ≤ i → i < k → ds.getD i 0 = 0
  | 0, k, i, h1, h2 => by simp only [lstGo] at h1; omega
  | f + 1, k, i, h1, h2 => by
    rw [lstGo] at h1
    split at h1
    · rename_i hc
      by_cases e : i = k - 1
      · subst e; exact hc.2
      · exact lstGo_zero ds f (k - 1) i h1 (by omega)
    · omega
theorem val_zero_of {l : List Int} (h : Dig l) (hz : ∀ i, i < l.length → l.getD i 0 = 0) : val l = 0 := by
  rw [val_zero_iff h]
  intro d hd
  obtain ⟨i, hi, rfl⟩ := List.getElem_of_mem hd
  have := hz i hi
  simpa [List.getD, hi] using this
theorem getD_drop (l : List Int) (b i : Nat) : (l.drop b).getD i 0 = l.getD (b + i) 0 := by
  simp [List.getD]
theorem getD_take {l : List Int} {b i : Nat} (h : i < b) : (l.take b).getD i 0 = l.getD i 0 := by
  simp [List.getD, List.getElem?_take, h]


theorem val_take_digs {X : Int} {w : Nat} (hw : w ≤ 88) (hX : 0 ≤ X ∧ X < 10 ^ 88) : val ((digs 88 X).take w) = X / 10 ^ (88 - w) := by
  rw [digs_take _ hw, val_digs _ _ (Int.ediv_nonneg hX.1 (Int.le_of_lt (pow_pos' _)))]
  refine Int.ediv_lt_of_lt_mul (pow_pos' _) ?_
  rw [← Int.pow_add, show w + (88 - w) = 88 by omega]; exact hX.2
theorem val_drop_digs {X : Int} {w : Nat} (hw : w ≤ 88) : val ((digs 88 X).drop w) = X % 10 ^ (88 - w) := by
  rw [digs_drop _ hw, val_digs_mod]
theorem right_spec {m e : Int} (h : rightB m e = true) : -999999999999999 ≤ m ∧ m ≤ 999999999999999 ∧ -9 ≤ e ∧ e ≤ 9 ∧ (m = 0 → e = 0) ∧ (m ≠ 0 → e = 9 ∨ m.tmod 10 ≠ 0) := by
  simpa only [rightB, decide_eq_true_eq] using h
theorem aV_bounds {m e : Int} (hm : -1000000000000000 < m ∧ m < 1000000000000000) (he : -18 ≤ e ∧ e ≤ 18) : 0 ≤ aV m e ∧ aV m e < 10 ^ 73 := by
  have a1 : (10 : Int) ^ (e + 40).toNat ≤ 10 ^ 58 := pow_mono (by omega)
  have hp := pow_pos' (e + 40).toNat
  have a2 : (m.natAbs : Int) * 10 ^ (e + 40).toNat ≤ (10 ^ 15 - 1) * 10 ^ 58 := Int.mul_le_mul (by omega) a1 (by omega) (by decide)
  have a3 : ((10 : Int) ^ 15 - 1) * 10 ^ 58 < 10 ^ 73 := by decide
  have a4 : 0 ≤ (m.natAbs : Int) * 10 ^ (e + 40).toNat := Int.mul_nonneg (by omega) (by omega)
  unfold aV; omega
/-- The text of a number below ten to 73, parted at its point: what it is worth. -/
theorem parts_val {X : Int} (hX : 0 ≤ X ∧ X < 10 ^ 73) : ∃ a k : Nat, 15 ≤ a ∧ a ≤ 47 ∧ k ≤ 40 ∧ txt (digs 88 X) (fstGo (digs 88 X) 47 0) (lstGo (digs 88 X) 40 88 - fstGo (digs 88 X) 47 0) = sg (digs 88 X) a (48 - a) ++ (if k = 0 then [] else 46 :: sg (digs 88 X) 48 k) ∧
    val ((digs 88 X).drop a |>.take (48 - a)) * 10 ^ 40 + val (((digs 88 X).drop 48).take k) * 10 ^ (40 - k) = X := by
  have hl := digs_length 88 X
  have hd := digs_dig 88 X
  have hX88 : X < 10 ^ 88 := Int.lt_trans hX.2 (by decide)
  obtain ⟨a, ha⟩ : ∃ a, fstGo (digs 88 X) 47 0 = a := ⟨_, rfl⟩
  obtain ⟨b, hb⟩ : ∃ b, lstGo (digs 88 X) 40 88 = b := ⟨_, rfl⟩
  have a1 := fstGo_le (digs 88 X) 47 0 (by omega)
  have b1 := lstGo_ge (digs 88 X) 40 88 (by omega)
  have a2 := fstGo_zero (digs 88 X) 47 0
  have a3 := fstGo_end (digs 88 X) 47 0 (by omega)
  have b2 := lstGo_zero (digs 88 X) 40 88
  rw [ha] at a1 a2 a3
  rw [hb] at b1 b2
  have a15 : 15 ≤ a := by
    rcases Nat.lt_or_ge a 15 with g | g
    · exfalso
      rcases a3 with h | h
      · omega
      · apply h
        rw [digs_get X (by omega)]
        have hle : (10 : Int) ^ 73 ≤ 10 ^ (88 - 1 - a) := pow_mono (by omega)
        rw [Int.ediv_eq_zero_of_lt hX.1 (by omega)]; rfl
    · exact g
  refine ⟨a, b - 48, a15, a1, by omega, ?_, ?_⟩
  · rw [ha, hb, show b - a = 48 - a + (b - 48) by omega]
    exact txt_right hl a (by omega) _ (by omega)
  · have v1 : val ((digs 88 X).take 48) = X / 10 ^ 40 := val_take_digs (by omega) ⟨hX.1, hX88⟩
    have v2 : val ((digs 88 X).drop 48) = X % 10 ^ 40 := val_drop_digs (by omega)
    generalize hds : digs 88 X = ds at *
    have t1 : ds.take 48 = ds.take a ++ (ds.drop a).take (48 - a) := by
      have := List.take_append_drop a (ds.take 48)
      rw [List.take_take, Nat.min_eq_left (by omega), List.drop_take] at this
      exact this.symm
    have z1 : val (ds.take a) = 0 := val_zero_of (hd.take a) fun i hi => by
      rw [List.length_take] at hi
      rw [getD_take (by omega)]; exact a2 i (by omega) (by omega)
    rw [t1, val_append, z1, Int.zero_mul, Int.zero_add] at v1
    have t2 : ds.drop 48 = (ds.drop 48).take (b - 48) ++ ds.drop b := by
      have := List.take_append_drop (b - 48) (ds.drop 48)
      rw [List.drop_drop, show 48 + (b - 48) = b by omega] at this
      exact this.symm
    have z2 : val (ds.drop b) = 0 := val_zero_of (hd.drop b) fun i hi => by
      rw [List.length_drop] at hi
      rw [getD_drop]; exact b2 (b + i) (by omega) (by omega)
    have l2 : (ds.drop b).length = 88 - b := by rw [List.length_drop, hl]
    rw [t2, val_append, z2, Int.add_zero, l2] at v2
    rw [v1, show 40 - (b - 48) = 88 - b by omega, v2]
    have := Int.mul_ediv_add_emod X (10 ^ 40)
    rw [Int.mul_comm] at this
    exact this

theorem isDigs_of {s : List UInt8} (h1 : s ≠ []) (h2 : s.length ≤ 40) (h3 : ∀ b ∈ s, okDig b) : isDigs s = true := decide_eq_true ⟨h1, h2, h3⟩

theorem evenN_exact {c : Int} {w : Nat} (h2 : w ≤ 87) (hX : 0 ≤ c * 10 ^ (88 - w) ∧ c * 10 ^ (88 - w) < 10 ^ 88) : evenN (digs 88 (c * 10 ^ (88 - w))) w = c := by
  have e1 : val ((digs 88 (c * 10 ^ (88 - w))).take w) = c := by rw [val_take_digs (by omega) hX, Int.mul_ediv_cancel _ (Int.ne_of_gt (pow_pos' _))]
  have e2 : val ((digs 88 (c * 10 ^ (88 - w))).drop w) = 0 := by rw [val_drop_digs (by omega), Int.mul_emod_left]
  have e3 : ((digs 88 (c * 10 ^ (88 - w))).drop w).length = 88 - w := by rw [List.length_drop, digs_length]
  have hp := pow_pos' (88 - w - 1)
  unfold evenN upB
  rw [e1, e2, e3, if_neg (by rw [decide_eq_true_eq]; omega)]
theorem near_from {m e : Int} (hb : -999999999999999 ≤ m ∧ m ≤ 999999999999999 ∧ -9 ≤ e ∧ e ≤ 9) : ∀ (k j f : Nat), (j : Int) + k = e + 9 → f + j = 19 → ∃ k' : Nat, k' ≤ k ∧ nearGo (digs 88 (aV m e)) f j = some (((m.natAbs : Nat) : Int) * 10 ^ k', e - k') := by
  have hV := aV_bounds (m := m) (e := e) (by omega) (by omega)
  have h73 : (10 : Int) ^ 73 ≤ 10 ^ 88 := by decide
  have ev : ∀ k j : Nat, (j : Int) + k = e + 9 → evenN (digs 88 (aV m e)) (57 - j) = ((m.natAbs : Nat) : Int) * 10 ^ k := fun k j h => by
    have he : aV m e = (((m.natAbs : Nat) : Int) * 10 ^ k) * 10 ^ (88 - (57 - j)) := by
      unfold aV; rw [Int.mul_assoc, ← Int.pow_add]; congr 2; omega
    have := evenN_exact (c := ((m.natAbs : Nat) : Int) * 10 ^ k) (w := 57 - j) (by omega) (by rw [← he]; omega)
    rw [← he] at this; exact this
  intro k
  induction k with
  | zero =>
    intro j f h1 h2
    obtain ⟨g, rfl⟩ : ∃ g, f = g + 1 := ⟨f - 1, by omega⟩
    refine ⟨0, Nat.le_refl _, ?_⟩
    rw [nearGo, ev 0 j h1, Int.pow_zero, Int.mul_one, if_pos (by omega)]
    congr 2; omega
  | succ k ih =>
    intro j f h1 h2
    obtain ⟨g, rfl⟩ : ∃ g, f = g + 1 := ⟨f - 1, by omega⟩
    rw [nearGo, ev (k + 1) j h1]
    split
    · refine ⟨k + 1, Nat.le_refl _, ?_⟩
      congr 2; omega
    · obtain ⟨k', h3, h4⟩ := ih (j + 1) g (by omega) (by omega)
      exact ⟨k', by omega, h4⟩
theorem trim_back {m e : Int} (hr : m ≠ 0 → e = 9 ∨ m.tmod 10 ≠ 0) (h0 : m ≠ 0) (he : e ≤ 9) : ∀ (k n : Nat), (n : Int) = 9 - (e - k) → trimD n (m * 10 ^ k) (e - k) = (m, e)
  | 0, n, h => by
    rw [Int.pow_zero, Int.mul_one, show e - ((0 : Nat) : Int) = e by omega]
    cases n with
    | zero => rfl
    | succ n =>
      rw [trimD, if_neg]
      rcases hr h0 with h | h
      · omega
      · exact h
  | k + 1, n, h => by
    obtain ⟨p, rfl⟩ : ∃ p, n = p + 1 := ⟨n - 1, by omega⟩
    have e1 : m * 10 ^ (k + 1) = (m * 10 ^ k) * 10 := by rw [Int.pow_succ, Int.mul_assoc]
    rw [trimD, e1, if_pos (Int.mul_tmod_left _ _), Int.mul_tdiv_cancel _ (by decide), show e - ((k + 1 : Nat) : Int) + 1 = e - (k : Int) by omega]
    exact trim_back hr h0 he k p (by omega)
theorem near_parts {m e : Int} (h : rightB m e = true) : nearM (decide (m < 0)) (digs 88 (aV m e)) = (m, e) ∧ nearE (digs 88 (aV m e)) = 0 := by
  have hs := right_spec h
  by_cases h0 : m = 0
  · subst h0
    obtain rfl := hs.2.2.2.2.1 rfl
    exact ⟨by decide +kernel, by decide +kernel⟩
  · obtain ⟨k, hk, hg⟩ := near_from (m := m) (e := e) (by omega) (e + 9).toNat 0 19 (by omega) rfl
    unfold nearM nearE
    rw [hg]
    refine ⟨?_, rfl⟩
    have hm : (if decide (m < 0) = true then -(((m.natAbs : Nat) : Int) * 10 ^ k) else ((m.natAbs : Nat) : Int) * 10 ^ k) = m * 10 ^ k := by
      by_cases hn : m < 0
      · rw [if_pos (decide_eq_true hn), ← Int.neg_mul]; congr 1; omega
      · rw [if_neg (by simpa using hn)]; congr 1; omega
    show trimmedS _ _ = _
    rw [hm]
    unfold trimmedS
    rw [if_neg (Int.mul_ne_zero h0 (Int.ne_of_gt (pow_pos' _)))]
    exact trim_back hs.2.2.2.2.2 h0 (by omega) k _ (by omega)

/-- A text of these parts is read as the decimal. -/
theorem read_parts {m e : Int} (h : rightB m e = true) {pre W P s : List UInt8} {k : Nat} (hb : bodyS s = (pre ++ W) ++ (if k = 0 then [] else 46 :: P)) (hm : minusB s = decide (m < 0)) (hpre : pre = [] ∨ pre = [48]) (hW : ∀ b ∈ W, okDig b) (hP : ∀ b ∈ P, okDig b)
    (lW : 0 < W.length ∧ W.length ≤ 39) (lP : P.length = k ∧ k ≤ 40) (hv : val (bytesD W) * 10 ^ 40 + val (bytesD P) * 10 ^ (40 - k) = aV m e) : readR s = (m, e, 0) := by
  have hpW : ∀ b ∈ pre ++ W, okDig b := by
    intro b hb
    rcases List.mem_append.1 hb with g | g
    · rcases hpre with rfl | rfl
      · cases g
      · rw [List.mem_singleton.1 g]; unfold okDig; decide
    · exact hW b g
  have hlp : pre.length ≤ 1 := by rcases hpre with rfl | rfl <;> simp
  obtain ⟨w1, w2, w3⟩ := whole_of (W := pre ++ W) (P := P) k (fun b hb => (okDig_ne (hpW b hb)).1) (fun hk => List.length_eq_zero_iff.1 (by omega))
  have hok : okW s = true := by
    rw [okW_spec, hb, w1, w2, w3]
    refine ⟨isDigs_of (fun h0 => ?_) (by simp; omega) hpW, fun hk => isDigs_of (fun h0 => ?_) (by omega) hP⟩
    · have := congrArg List.length h0; rw [List.length_append] at this; simp only [List.length_nil] at this; omega
    · have := lP.1; rw [h0] at this; simp at this hk; omega
  have hwr : wrS s = aV m e := by
    unfold wrS wrV
    rw [hb, w1, w2, lP.1, ← hv]
    congr 2
    rcases hpre with rfl | rfl
    · rfl
    · show val (bytesD (48 :: W)) = _
      have : bytesD (48 :: W) = 0 :: bytesD W := rfl
      rw [this, val_cons]; omega
  obtain ⟨n1, n2⟩ := near_parts h
  unfold readR
  rw [if_pos hok, hwr, hm, n1, n2, if_pos ⟨rfl, rfl⟩]

theorem minus_app {pre W rest : List UInt8} (hW : ∀ b ∈ pre ++ W, okDig b) (h0 : 0 < (pre ++ W).length) : minusB ((pre ++ W) ++ rest) = false := by
  generalize pre ++ W = V at *
  cases V with
  | nil => simp at h0
  | cons v V =>
    have := (okDig_ne (hW v (by simp))).2
    simp [minusB, this]

theorem text_law {m e : Int} (h : rightB m e = true) : ∃ t : List UInt8, textR m e = (t, 0) ∧ readR t = (m, e, 0) ∧ (m < 0 → readR ([48] ++ t) = (0, 0, 12)) ∧ (¬ m < 0 → readR ([48] ++ t) = (m, e, 0)) ∧ t.length ≤ 200 := by
  have hr := right_spec h
  have hX := aV_bounds (m := m) (e := e) (by omega) (by omega)
  obtain ⟨a, k, a1, a2, k1, ht, hv⟩ := parts_val hX
  obtain ⟨ds, hds⟩ : ∃ ds, digs 88 (aV m e) = ds := ⟨_, rfl⟩
  have hl : ds.length = 88 := by rw [← hds, digs_length]
  have hd : Dig ds := by rw [← hds]; exact digs_dig _ _
  rw [hds] at ht hv
  have hW : ∀ b ∈ sg ds a (48 - a), okDig b := sg_ok hd
  have hP : ∀ b ∈ sg ds 48 k, okDig b := sg_ok hd
  have lW : (sg ds a (48 - a)).length = 48 - a := sg_length (by omega)
  have lP : (sg ds 48 k).length = k := sg_length (by omega)
  rw [← sg_bytes hd, ← sg_bytes hd] at hv
  generalize sg ds a (48 - a) = W at *
  generalize sg ds 48 k = P at *
  have hT : textR m e = ((if decide (m < 0) = true then [45] else []) ++ (W ++ (if k = 0 then [] else 46 :: P)), 0) := by
    unfold textR textB
    rw [if_pos h, hds, ht]
  have hlen : (W ++ (if k = 0 then [] else 46 :: P)).length ≤ 100 := by
    rw [List.length_append]; split <;> simp <;> omega
  refine ⟨_, hT, ?_, fun hm => ?_, fun hm => ?_, ?_⟩
  · by_cases hm : m < 0
    · rw [if_pos (by simpa using hm)]
      have hmin : minusB ([45] ++ (W ++ (if k = 0 then [] else 46 :: P))) = true := by simp [minusB]
      refine read_parts h (pre := []) (W := W) (P := P) (k := k) ?_ (by rw [hmin]; simp [hm]) (.inl rfl) hW hP (by omega) ⟨lP, k1⟩ hv
      unfold bodyS
      rw [if_pos hmin]; simp
    · rw [if_neg (by simpa using hm)]
      have hmin : minusB ([] ++ (W ++ (if k = 0 then [] else 46 :: P))) = false := by
        have := minus_app (pre := []) (W := W) (rest := if k = 0 then [] else 46 :: P) (by simpa using hW) (by simp; omega)
        simpa using this
      refine read_parts h (pre := []) (W := W) (P := P) (k := k) ?_ (by rw [hmin]; simp [hm]) (.inl rfl) hW hP (by omega) ⟨lP, k1⟩ hv
      unfold bodyS
      rw [hmin]; simp
  · rw [if_pos (by simpa using hm)]
    have hne : ∀ b ∈ (48 :: 45 :: W : List UInt8), b ≠ 46 := by
      intro b hb
      simp only [List.mem_cons] at hb
      rcases hb with rfl | rfl | g
      · decide
      · decide
      · exact (okDig_ne (hW b g)).1
    obtain ⟨w1, _, _⟩ := whole_of (W := 48 :: 45 :: W) (P := P) k hne (fun hk => List.length_eq_zero_iff.1 (by omega))
    have hmin : minusB ([48] ++ ([45] ++ (W ++ (if k = 0 then [] else 46 :: P)))) = false := by simp [minusB]
    have hb : bodyS ([48] ++ ([45] ++ (W ++ (if k = 0 then [] else 46 :: P)))) = (48 :: 45 :: W) ++ (if k = 0 then [] else 46 :: P) := by
      unfold bodyS; rw [hmin]; simp
    have hno : ¬ okW ([48] ++ ([45] ++ (W ++ (if k = 0 then [] else 46 :: P)))) = true := by
      rw [okW_spec, hb, w1]
      rintro ⟨g, _⟩
      have := (isDigs_spec g).2.2 45 (by simp)
      revert this; unfold okDig; decide
    unfold readR
    rw [if_neg hno]
  · rw [if_neg (by simpa using hm)]
    have hpW : ∀ b ∈ [48] ++ W, okDig b := by
      intro b hb
      rcases List.mem_append.1 hb with g | g
      · rw [List.mem_singleton.1 g]; unfold okDig; decide
      · exact hW b g
    have hmin : minusB ([48] ++ ([] ++ (W ++ (if k = 0 then [] else 46 :: P)))) = false := by
      have := minus_app (pre := [48]) (W := W) (rest := if k = 0 then [] else 46 :: P) hpW (by simp)
      simpa using this
    refine read_parts h (pre := [48]) (W := W) (P := P) (k := k) ?_ (by rw [hmin]; simp [hm]) (.inr rfl) hW hP (by omega) ⟨lP, k1⟩ hv
    unfold bodyS
    rw [hmin]; simp
  · rw [List.length_append]
    have : (if decide (m < 0) = true then [45] else [] : List UInt8).length ≤ 1 := by split <;> simp
    omega

end Go.Proofs.YtdomenmfkbfakaaGreatDoor.Dq

/- Law 3: what is told of what is told (ValTwice): it is so. -/
set_option linter.unusedVariables false
set_option linter.unusedSimpArgs false
set_option linter.unusedSectionVars false
namespace Go.Proofs.YtdomenmfkbfakaaGreatDoor
open Go Sx
/-- What is told as a number, as a text, as a truth. -/
def IsN (y : List CV) : Prop := (∃ m e, Dq.rightB m e = true ∧ y = nmR m e) ∨ ∃ n, (1 ≤ n ∧ n ≤ 9) ∧ y = errR n
def IsT (y : List CV) : Prop := (∃ s, isTx s = true ∧ y = txR s) ∨ ∃ n, (1 ≤ n ∧ n ≤ 9) ∧ y = errR n
def IsB (y : List CV) : Prop := (∃ b, y = trR b) ∨ ∃ n, (1 ≤ n ∧ n ≤ 9) ∧ y = errR n
theorem IsN.nrm {y : List CV} (h : IsN y) : nrm y = y := by
  rcases h with ⟨m, e, h, rfl⟩ | ⟨n, h, rfl⟩ <;> rfl
theorem IsT.nrm {y : List CV} (h : IsT y) : Go.Proofs.YtdomenmfkbfakaaGreatDoor.nrm y = y := by
  rcases h with ⟨s, h, rfl⟩ | ⟨n, h, rfl⟩ <;> rfl
theorem IsB.nrm {y : List CV} (h : IsB y) : Go.Proofs.YtdomenmfkbfakaaGreatDoor.nrm y = y := by
  rcases h with ⟨s, rfl⟩ | ⟨n, h, rfl⟩ <;> rfl
-- plain
section
variable {af : List CV → List CV} {q : List CV → Bool} (ha : afOk af q)
include ha
end
theorem ps_run {x y : List CV} (h : x = y) {X : Ans} {r : Option (AV × List PObj)} (hX : X.run pure2 = r) : (psT x y X).run pure2 = r := by
  subst h
  unfold psT
  rw [chkT (sameF_refl ..)]; exact hX
-- arrays
section
variable {H W : Int} {N : Nat} (h1 : 1 ≤ H ∧ H ≤ 5) (h2 : 1 ≤ W ∧ W ≤ 5) (hN : (N : Int) = H * W) (h25 : N ≤ 25)
/-- Rows that are right. -/
def RigL (N : Nat) (M : List (List CV)) : Prop := N ≤ M.length ∧ ∀ j, j < N → rigR isTx (Sx.rowAt M j) = true
theorem RigL.okRows {M : List (List CV)} (h25 : N ≤ 25) (h : RigL N M) : Go.Proofs.YtdomenmfkbfakaaGreatDoor.okRows N M := ⟨h.1, by omega, fun j hj => plR_of (h.2 j hj)⟩
include h1 h2 hN h25
end
end Go.Proofs.YtdomenmfkbfakaaGreatDoor

/- Layer 3: what is put in (val.Read), what is written of a plain value (val.Text): the trees. -/
set_option linter.unusedVariables false
set_option linter.unusedSimpArgs false
namespace Go.Proofs.YtdomenmfkbfakaaGreatDoor
open Go Sx
def ePre (p : List UInt8 → List UInt8 → Bool) : Ent := fun args pre => match args, pre with
  | [.str l, .str t], [] => .chk (Nat.beq t.length 1) (.ret (.bool (p l t)) [])
  | _, _ => .fail
def eTrm (p : List UInt8 → List UInt8 → Bool) : Ent := fun args pre => match args, pre with
  | [.str l, .str t], [] => .chk (Nat.beq t.length 1) (.ret (.str (bcond (p l t) (l.drop 1) l)) [])
  | _, _ => .fail
abbrev l1 (c : UInt8) : Int := ((([c] : List UInt8).length : Nat) : Int)
theorem pre_comes (l : List UInt8) (c : UInt8) : Comes [] nolv 43 [.str l, .str [c]] [] (.br (decide ((l.length : Int) ≥ l1 c)) (.chk (decide (0 ≤ l1 c ∧ (l1 c).toNat ≤ l.length)) (.ret (.bool (List.take ((l1 c).toNat - 0) (List.drop 0 l) == [c])) [])) (.ret (.bool false) [])) := by unfold Comes; kernel_rfl
theorem prs_comes (l : List UInt8) (c : UInt8) : Comes [] nolv 94 [.str l, .str [c]] [] (.br (decide ((l.length : Int) ≥ l1 c)) (.chk (decide (0 ≤ l1 c ∧ (l1 c).toNat ≤ l.length)) (.ret (.bool (List.take ((l1 c).toNat - 0) (List.drop 0 l) == [c])) [])) (.ret (.bool false) [])) := by unfold Comes; kernel_rfl
theorem trm_comes (p : List UInt8 → List UInt8 → Bool) (l : List UInt8) (c : UInt8) : Comes [(94, ePre p)] nolv 50 [.str l, .str [c]] [] (.br (p l [c]) (.chk (decide (0 ≤ l1 c ∧ (l1 c).toNat ≤ l.length)) (.ret (.str (List.take (l.length - (l1 c).toNat) (List.drop (l1 c).toNat l))) [])) (.ret (.str l) [])) := by unfold Comes; kernel_rfl
def R2 (x : List CV) (e : Int) : Ans := .ret (.tuple [vR x, .int .i64 e]) []
def flT (sm : List UInt8 → List UInt8) (low : List UInt8) : List (List UInt8) → Int → Ans → Ans
  | [], _, X => X
  | t :: r, n, X => .br (low == sm t) (R2 (errR n) 0) (flT sm low r (n + 1) X)
/-- The errors' texts by their numbers. -/
def fltS : List (List UInt8) := [[], [35, 78, 85, 76, 76, 33], [35, 68, 73, 86, 47, 48, 33], [35, 86, 65, 76, 85, 69, 33], [35, 82, 69, 70, 33], [35, 78, 65, 77, 69, 63], [35, 78, 85, 77, 33], [35, 78, 47, 65], [35, 83, 80, 73, 76, 76, 33], [35, 67, 73, 82, 67, 33]]
def zP : List CV := mkR 0 0 0 [] false 0 0 0 0
section
variable (p : List UInt8 → List UInt8 → Bool) (rd : List UInt8 → Int × Int × Int) (sm : List UInt8 → List UInt8) (tx : List UInt8 → Bool)
def tRd : Tab := [(43, ePre p), (50, eTrm p), (44, eRdF rd), (46, eSmF sm), (51, eIsT tx)]
def endR (t : List UInt8) : Ans := .chk (decide (t.length ≤ 1000000)) (.br (!(tx t)) (R2 zP 30) (R2 (txR t) 0))
def rdT (s : List UInt8) : Ans := .br (p s [61]) (R2 zP 30) (.br (s == []) (R2 zP 0) (.chk (decide (s.length < 1000000)) (.br ((rd s).2.2 == 0) (R2 (nmR (rd s).1 (rd s).2.1) 0) (.chk (decide (s.length < 1000000))
  (.br (sm s == sTrue) (R2 (trR (sm s == sTrue)) 0) (.br (sm s == sFalse) (R2 (trR (sm s == sTrue)) 0) (flT sm (sm s) fltS 0 (endR tx (bcond (p s [39]) (s.drop 1) s)))))))))
theorem rd_comes (s : List UInt8) : Comes (tRd p rd sm tx) nolv 17 [.str s] [] (rdT p rd sm tx s) := by unfold Comes; kernel_rfl
end
/-- A reading of texts, not looked into. -/
def eRdV (rv : List UInt8 → List CV × Int) : Ent := fun args pre => match args, pre with
  | [.str s], [] => .chk (decide (s.length < 1000000)) (.ret (.tuple [vR (rv s).1, .int .i64 (rv s).2]) [])
  | _, _ => .fail
section
variable (tx : List UInt8 → Bool) (dt : Int → Int → List UInt8) (lt : List UInt8 → List UInt8) (m e : Int) (s : List UInt8) (b : Bool) (r h w f : Int)
end
end Go.Proofs.YtdomenmfkbfakaaGreatDoor
