/- Layer 4: the pieces of two texts with a blank between: plain mathematics. -/
import Derived.Test.YtebieapmoaaahaaGreatDoorGr07
set_option linter.unusedVariables false
set_option linter.unusedSimpArgs false
namespace Go.Proofs.YtebieapmoaaahaaGreatDoor
open Go Sx
theorem blD_le (l : List UInt8) : (blD l).length ≤ l.length := dw_le _ _
/-- Enough is enough. -/
theorem pcs_fuel : ∀ (n m : Nat) (l : List UInt8), l.length ≤ n → l.length ≤ m → pcs n l = pcs m l
  | 0, 0, l, _, _ => rfl
  | 0, m + 1, l, h, _ => by
    obtain rfl := List.eq_nil_of_length_eq_zero (Nat.le_zero.1 h)
    rw [pcs_succ]; rfl
  | n + 1, 0, l, _, h => by
    obtain rfl := List.eq_nil_of_length_eq_zero (Nat.le_zero.1 h)
    rw [pcs_succ]; rfl
  | n + 1, m + 1, l, hn, hm => by
    have hb := blD_le l
    rw [pcs_succ, pcs_succ]
    by_cases he : blD l = []
    · rw [if_pos he, if_pos he]
    · rw [if_neg he, if_neg he]
      by_cases ho : (pcF (blD l)).ok = true
      · have hl := pc_less ho
        rw [if_pos ho, if_pos ho, pcs_fuel n m _ (by omega) (by omega)]
      · rw [if_neg ho, if_neg ho]
/-- Where there is none is within. -/
theorem pcs_at : ∀ (n : Nat) (l x : List UInt8), (pcs n l).2 = some x → x.length ≤ l.length ∧ x ≠ []
  | 0, l, x, h => by cases h
  | n + 1, l, x, h => by
    have hb := blD_le l
    rw [pcs_succ] at h
    by_cases he : blD l = []
    · rw [if_pos he] at h; cases h
    · rw [if_neg he] at h
      by_cases ho : (pcF (blD l)).ok = true
      · rw [if_pos ho] at h
        have hl := pc_less ho
        have := pcs_at n _ x h
        exact ⟨by omega, this.2⟩
      · rw [if_neg ho] at h; cases h; exact ⟨hb, he⟩
theorem blk_32 : byB blkB 32 = true := by decide
theorem blD_join (l t : List UInt8) : blD (l ++ 32 :: t) = if blD l = [] then blD t else blD l ++ 32 :: t := by
  unfold blD
  induction l with
  | nil => rw [List.nil_append, List.dropWhile_cons, if_pos blk_32]; rfl
  | cons b l ih =>
    rw [List.cons_append, List.dropWhile_cons, List.dropWhile_cons]
    cases byB blkB b with
    | true => simpa using ih
    | false => simp
def moreX (t : List UInt8) (x : Pc × List UInt8) : Pc × List UInt8 := (x.1.more t, x.2 ++ t)
theorem pcs_join (t : List UInt8) : ∀ (n : Nat) (l : List UInt8), l.length ≤ n → (pcs n l).2 = none → ∀ m, (l ++ 32 :: t).length ≤ m → pcs m (l ++ 32 :: t) = ((pcs n l).1.map (moreX (32 :: t)) ++ (pcs t.length t).1, (pcs t.length t).2)
  | n, l, hn, h, 0, hm => by simp at hm
  | 0, l, hn, h, m + 1, hm => by
    obtain rfl := List.eq_nil_of_length_eq_zero (Nat.le_zero.1 hn)
    have hm' : t.length ≤ m := by simpa using hm
    have e : blD ([] ++ 32 :: t) = blD t := by rw [blD_join]; rfl
    have e2 : pcs (m + 1) ([] ++ 32 :: t) = pcs (m + 1) t := by rw [pcs_succ, pcs_succ, e]
    rw [e2, pcs_fuel (m + 1) t.length t (by omega) (Nat.le_refl _)]; rfl
  | n + 1, l, hn, h, m + 1, hm => by
    have hb := blD_le l
    have hm' : l.length + (t.length + 1) ≤ m + 1 := by simpa using hm
    rw [pcs_succ] at h
    rw [pcs_succ (n := n) (l := l)]
    by_cases he : blD l = []
    · have e2 : pcs (m + 1) (l ++ 32 :: t) = pcs (m + 1) t := by rw [pcs_succ, pcs_succ, blD_join, if_pos he]
      rw [e2, if_pos he, pcs_fuel (m + 1) t.length t (by omega) (Nat.le_refl _)]; rfl
    · rw [if_neg he] at h
      by_cases ho : (pcF (blD l)).ok = true
      · rw [if_pos ho] at h
        have hl := pc_less ho
        have ha := pc_app (t := t) he (stop_blank (blD l)) ho
        have hne : blD l ++ 32 :: t ≠ [] := by simp
        have h' : (pcs n (pcF (blD l)).r).2 = none := h
        rw [pcs_succ, blD_join, if_neg he, if_neg hne, ha, if_neg he, if_pos ho, if_pos (show ((pcF (blD l)).more (32 :: t)).ok = true from ho)]
        have ih := pcs_join t n (pcF (blD l)).r (by omega) h' m (by simp; omega)
        show (_ :: (pcs m ((pcF (blD l)).r ++ 32 :: t)).1, (pcs m ((pcF (blD l)).r ++ 32 :: t)).2) = _
        rw [ih]; rfl
      · rw [if_neg ho] at h; cases h
theorem tok_none {s : List UInt8} (h : tokE s = 0) : s.length ≤ 200 ∧ (tokP s).2 = none := by
  unfold tokE at h
  by_cases hs : s.length > 200
  · rw [if_pos hs] at h; omega
  · rw [if_neg hs] at h
    refine ⟨by omega, ?_⟩
    cases he : (tokP s).2 with
    | none => rfl
    | some l => rw [he] at h; simp at h
theorem tok_of {s : List UInt8} (hs : s.length ≤ 200) (h : (tokP s).2 = none) : tokE s = 0 ∧ tokN s = 0 ∧ tokL s = (tokP s).1.map (mkT s.length) := by
  unfold tokE tokN tokL
  rw [if_neg (by omega), if_neg (by omega), if_neg (by omega), h]
  exact ⟨rfl, rfl, rfl⟩
theorem tok_err {s x : List UInt8} (hs : s.length ≤ 200) (h : (tokP s).2 = some x) : tokE s = 40 ∧ tokN s = ((s.length - x.length : Nat) : Int) ∧ tokL s = [] := by
  unfold tokE tokN tokL
  rw [if_neg (by omega), if_neg (by omega), if_neg (by omega), h]
  exact ⟨rfl, rfl, rfl⟩
/-- Of the kinds and texts of pieces. -/
def ksT (t : Tk) : Int × List UInt8 := (t.k, t.s)
theorem ks_row (t : Tk) : ksR t.row = ksT t := rfl
theorem sam_iff (x y : List Tk) : samR (x.map Tk.row) (y.map Tk.row) = (x.map ksT == y.map ksT) := by
  unfold samR; rw [List.map_map, List.map_map]; rfl
theorem ks_map (N : Nat) (P : List (Pc × List UInt8)) : (P.map (mkT N)).map ksT = P.map fun x => (x.1.k, x.1.s) := by rw [List.map_map]; rfl
/-- THE JOIN. -/
theorem join_ok {a b : List UInt8} (ha : tokE a = 0) (hab : (a ++ 32 :: b).length ≤ 200) :
    (tokE b = 0 → tokE (a ++ 32 :: b) = 0 ∧ (tokL (a ++ 32 :: b)).map ksT = (tokL a).map ksT ++ (tokL b).map ksT) ∧ (tokE b ≠ 0 → tokE (a ++ 32 :: b) = 40 ∧ tokN (a ++ 32 :: b) > (a.length : Int)) := by
  obtain ⟨h1, h2⟩ := tok_none ha
  have hl : a.length + (b.length + 1) ≤ 200 := by simpa using hab
  have hj := pcs_join b a.length a (Nat.le_refl _) h2 (a ++ 32 :: b).length (Nat.le_refl _)
  have hj : tokP (a ++ 32 :: b) = ((tokP a).1.map (moreX (32 :: b)) ++ (tokP b).1, (tokP b).2) := hj
  refine ⟨fun hb => ?_, fun hb => ?_⟩
  · obtain ⟨h3, h4⟩ := tok_none hb
    have t1 := tok_of h1 h2
    have t2 := tok_of h3 h4
    have t3 := tok_of hab (by rw [hj]; exact h4)
    refine ⟨t3.1, ?_⟩
    rw [t3.2.2, t1.2.2, t2.2.2, ks_map, ks_map, ks_map, hj, List.map_append, List.map_map]; rfl
  · cases h4 : (tokP b).2 with
    | none => exact absurd (tok_of (by omega) h4).1 hb
    | some x =>
      have := (pcs_at _ _ _ h4).1
      have t3 := tok_err (x := x) hab (by rw [hj]; exact h4)
      refine ⟨t3.1, ?_⟩
      rw [t3.2.1]; simp only [List.length_append, List.length_cons]; omega
end Go.Proofs.YtebieapmoaaahaaGreatDoor

/- Layer 4: the law of joins. -/
set_option linter.unusedVariables false
set_option linter.unusedSimpArgs false
namespace Go.Proofs.YtebieapmoaaahaaGreatDoor
open Go Sx
abbrev Sl := Option (Nat × List (List CV))
def roomT (n : Nat) : Bool := decide (2 * n * 32 ≤ 281474976710656 ∧ 2 * n < 9223372036854775808)
def smA (F : SmF) (z w : Sl) : Ans := match z, w with
  | none, none => .ret (.bool true) []
  | some x, none => chkA [Nat.blt 0 x.1] (.ret (.bool false) [])
  | none, some x => chkA [Nat.blt 0 x.1] (.ret (.bool false) [])
  | some x, some y => chkA [Nat.beq x.1 x.2.length, Nat.beq y.1 y.2.length, decide (x.1 ≤ 1000)] (.ret (.bool (F.r x.2 y.2)) [])
def ap1 (y : Sl) (k : Sl → Ans) : Ans := match y with
  | none => k none
  | some x => .br (decide (0 < x.1)) (.br (decide (x.1 ≤ x.2.length) && roomT x.1) (k (some (x.1, x.2.take x.1))) .fail) (.br (decide (x.1 ≤ x.2.length)) (k none) .fail)
def ap2 (x y : Sl) (k : Sl → Ans) : Ans := match x with
  | none => ap1 y k
  | some x => match y with
    | none => .br (true && decide ((tokO x.2).len = x.1 * 3) && roomT (x.1 + 0)) (k (some (x.1 + 0, x.2 ++ []))) .fail
    | some y => .br (decide (y.1 ≤ y.2.length) && decide ((tokO x.2).len = x.1 * 3) && roomT (x.1 + y.1)) (k (some (x.1 + y.1, x.2 ++ y.2.take y.1))) .fail
def slE (b : Bool) (L : List Tk) : Sl := match b with | true => none | false => some (L.length, L.map Tk.row)
def upTo (m : Int) (s : List UInt8) : Int := if m < (s.length : Int) then m else (s.length : Int)
def cutTo (m : Int) (s : List UInt8) : List UInt8 := List.take ((upTo m s).toNat - 0) (List.drop 0 s)
def cutB (m : Int) (s : List UInt8) : Bool := decide (0 ≤ upTo m s ∧ (upTo m s).toNat ≤ s.length)
def joF (T : LxT) (F : SmF) (a b c : List UInt8) (x y z : Bool) : Ans :=
  .br (T.e a != 0) (.ret (.bool true) []) (.br (T.e b != 0) (.br (T.e c == 40) (.ret (.bool (decide (T.n c > (a.length : Int)))) []) (.ret (.bool false) []))
    (.br (T.e c == 0) (ap1 (slE x (T.L a)) fun w => ap2 w (slE y (T.L b)) fun v => smA F (slE z (T.L c)) v) (.ret (.bool false) [])))
def joG (T : LxT) (F : SmF) (a b c : List UInt8) (x y : Bool) : Ans :=
  chkA [mxB (a.length + ([32] : List UInt8).length), mxB ((a ++ [32]).length + b.length)] (.br (T.L c).isEmpty (joF T F a b c x y true) (joF T F a b c x y false))
def joH (T : LxT) (F : SmF) (a b c : List UInt8) : Ans := .br (T.L a).isEmpty (.br (T.L b).isEmpty (joG T F a b c true true) (joG T F a b c true false)) (.br (T.L b).isEmpty (joG T F a b c false true) (joG T F a b c false false))
def tabJ (T : LxT) (F : SmF) : Tab := (10, eTrue) :: (17, eTok T) :: (18, eSm F) :: tab0
theorem joins_comes (T : LxT) (F : SmF) (s t : List UInt8) : Comes (tabJ T F) nolv 9 [.str s, .str t] [] (chkA [cutB 90 s, cutB 90 t] (joH T F (cutTo 90 s) (cutTo 90 t) (cutTo 90 s ++ [32] ++ cutTo 90 t))) := by unfold Comes; kernel_rfl
theorem tabJ_ok : TabOK Tryz.prog (tabJ lxt smf) := .cons examples_ok (.cons tokens_ok (.cons same_ok tab0_ok))
-- mathematics
def slO (L : List Tk) : Sl := slE L.isEmpty L
theorem upTo_ok {m : Int} (hm : 0 ≤ m) (s : List UInt8) : cutB m s = true ∧ cutTo m s = s.take m.toNat := by
  unfold cutB cutTo upTo
  split
  · exact ⟨decide_eq_true (by omega), by simp⟩
  · refine ⟨decide_eq_true (by omega), ?_⟩
    rw [List.drop_zero, List.take_of_length_le (by omega), List.take_of_length_le (by omega)]
theorem roomT_ok {n : Nat} (h : n ≤ 1000) : roomT n = true := decide_eq_true (by omega)
theorem ap1_run {L : List Tk} (h : L.length ≤ 1000) (k : Sl → Ans) : (ap1 (slO L) k).run pure2 = (k (slO L)).run pure2 := by
  cases L with
  | nil => rfl
  | cons t L =>
    show (Ans.br _ (Ans.br _ (k (some ((t :: L).length, ((t :: L).map Tk.row).take (t :: L).length))) _) _).run pure2 = (k (some ((t :: L).length, (t :: L).map Tk.row))).run pure2
    simp only [Ans.run]
    rw [bcT (b := decide (0 < (t :: L).length)) (decide_eq_true (by simp)), bcT (b := decide _ && roomT _) (by rw [roomT_ok h, decide_eq_true (by simp)]; rfl), List.take_of_length_le (by simp)]
theorem ap2_run {L M : List Tk} (h : L.length + M.length ≤ 1000) (k : Sl → Ans) : (ap2 (slO L) (slO M) k).run pure2 = (k (slO (L ++ M))).run pure2 := by
  cases L with
  | nil => exact ap1_run (by omega) k
  | cons t L => cases M with
    | nil =>
      show (Ans.br _ (k (some ((t :: L).length + 0, (t :: L).map Tk.row ++ []))) _).run pure2 = _
      simp only [Ans.run]
      rw [bcT (b := true && _ && _) (by rw [row_len, roomT_ok (by simpa using h)]; simp), List.append_nil, List.append_nil]; rfl
    | cons u M =>
      show (Ans.br _ (k (some ((t :: L).length + (u :: M).length, (t :: L).map Tk.row ++ ((u :: M).map Tk.row).take (u :: M).length))) _).run pure2 = _
      simp only [Ans.run]
      rw [bcT (b := _ && _ && _) (by rw [row_len, roomT_ok h]; simp), List.take_of_length_le (by simp), ← List.map_append, ← List.length_append]; rfl
theorem smA_run {L M : List Tk} (h : L.length ≤ 1000) : (smA smf (slO L) (slO M)).run pure2 = pure2 (.bool (L.map ksT == M.map ksT)) [] := by
  cases L with
  | nil => cases M with
    | nil => rfl
    | cons u M => exact chkA_run (by intro b hb; simp only [List.mem_cons, List.not_mem_nil, or_false] at hb; subst hb; rfl)
  | cons t L => cases M with
    | nil => exact chkA_run (by intro b hb; simp only [List.mem_cons, List.not_mem_nil, or_false] at hb; subst hb; rfl)
    | cons u M =>
      refine (chkA_run ?_).trans ?_
      · intro b hb
        simp only [List.mem_cons, List.not_mem_nil, or_false] at hb
        rcases hb with rfl | rfl | rfl
        · show Nat.beq (t :: L).length ((t :: L).map Tk.row).length = true; rw [List.length_map]; exact Nat.beq_refl _
        · show Nat.beq (u :: M).length ((u :: M).map Tk.row).length = true; rw [List.length_map]; exact Nat.beq_refl _
        · exact decide_eq_true h
      · rw [← sam_iff]; rfl
theorem tokL_len (s : List UInt8) : (tokL s).length ≤ 200 := by
  have key : ∀ (n : Nat) (l : List UInt8), (pcs n l).1.length ≤ l.length := by
    intro n
    induction n with
    | zero => intro l; exact Nat.zero_le _
    | succ n ih =>
      intro l
      have hb := blD_le l
      rw [pcs_succ]
      by_cases he : blD l = []
      · rw [if_pos he]; exact Nat.zero_le _
      · rw [if_neg he]
        by_cases ho : (pcF (blD l)).ok = true
        · have hl := pc_less ho
          have := ih (pcF (blD l)).r
          rw [if_pos ho, List.length_cons]; omega
        · rw [if_neg ho]; exact Nat.zero_le _
  unfold tokL
  by_cases hs : s.length > 200
  · rw [if_pos hs]; exact Nat.zero_le _
  · rw [if_neg hs]
    split
    · have := key s.length s
      rw [List.length_map]; unfold tokP; omega
    · exact Nat.zero_le _
theorem joF_run {a b c : List UInt8} (hc : c = a ++ 32 :: b) (hl : c.length ≤ 200) {x y z : Bool} (hx : x = (tokL a).isEmpty) (hy : y = (tokL b).isEmpty) (hz : z = (tokL c).isEmpty) : (joF lxt smf a b c x y z).run pure2 = pure2 (.bool true) [] := by
  subst hc hx hy hz
  have la := tokL_len a
  have lb := tokL_len b
  have lc := tokL_len (a ++ 32 :: b)
  unfold joF
  simp only [Ans.run, lxt]
  by_cases ha : tokE a = 0
  · obtain ⟨j1, j2⟩ := join_ok ha hl
    rw [bcF (b := tokE a != 0) (by rw [ha]; rfl)]
    by_cases hb : tokE b = 0
    · obtain ⟨e1, e2⟩ := j1 hb
      rw [bcF (b := tokE b != 0) (by rw [hb]; rfl), bcT (b := tokE (a ++ 32 :: b) == 0) (by rw [e1]; rfl)]
      refine (ap1_run (L := tokL a) (by omega) _).trans ?_
      refine (ap2_run (L := tokL a) (M := tokL b) (by omega) _).trans ?_
      refine (smA_run (L := tokL (a ++ 32 :: b)) (M := tokL a ++ tokL b) (by omega)).trans ?_
      rw [e2, List.map_append, beq_self_eq_true]
    · obtain ⟨e1, e2⟩ := j2 hb
      rw [bcT (b := tokE b != 0) (bne_iff_ne.2 hb), bcT (b := tokE (a ++ 32 :: b) == 40) (by rw [e1]; rfl)]; exact congrArg (fun b => pure2 (.bool b) []) (decide_eq_true e2)
  · rw [bcT (b := tokE a != 0) (bne_iff_ne.2 ha)]
theorem joG_run {a b : List UInt8} (ha : a.length ≤ 90) (hb : b.length ≤ 90) {x y : Bool} (hx : x = (tokL a).isEmpty) (hy : y = (tokL b).isEmpty) : (joG lxt smf a b (a ++ [32] ++ b) x y).run pure2 = pure2 (.bool true) [] := by
  unfold joG
  rw [chkA_run (by
    intro c hc
    simp only [List.mem_cons, List.not_mem_nil, or_false] at hc
    rcases hc with rfl | rfl
    · exact mx_ok (by simp; omega)
    · exact mx_ok (by simp; omega))]
  simp only [Ans.run]
  have hc : a ++ [32] ++ b = a ++ 32 :: b := by simp
  have hl : (a ++ [32] ++ b).length ≤ 200 := by simp; omega
  show bcond (tokL (a ++ [32] ++ b)).isEmpty _ _ = _
  cases he : (tokL (a ++ [32] ++ b)).isEmpty with
  | true => exact joF_run hc hl hx hy he.symm
  | false => exact joF_run hc hl hx hy he.symm
theorem joH_run {a b : List UInt8} (ha : a.length ≤ 90) (hb : b.length ≤ 90) : (joH lxt smf a b (a ++ [32] ++ b)).run pure2 = pure2 (.bool true) [] := by
  unfold joH
  simp only [Ans.run]
  show bcond (tokL a).isEmpty (bcond (tokL b).isEmpty _ _) (bcond (tokL b).isEmpty _ _) = _
  cases hx : (tokL a).isEmpty <;> cases hy : (tokL b).isEmpty <;> exact joG_run ha hb hx.symm hy.symm
theorem joins_law (s t : List UInt8) : Meets Tryz.prog 9 [.str s, .str t] [] (.bool true) [] := by
  have h := joins_comes lxt smf s t
  show Meets _ 9 _ (([] : List PObj).map PObj.toA) (.bool true) (([] : List PObj).map PObj.toA)
  refine meets_ent tabJ_ok host (h.trans ?_) nolv_ok
  rw [chkA_run (by
    intro c hc
    simp only [List.mem_cons, List.not_mem_nil, or_false] at hc
    rcases hc with rfl | rfl
    · exact (upTo_ok (by decide) s).1
    · exact (upTo_ok (by decide) t).1), (upTo_ok (by decide) s).2, (upTo_ok (by decide) t).2]
  exact joH_run (by rw [List.length_take]; exact Nat.min_le_left _ _) (by rw [List.length_take]; exact Nat.min_le_left _ _)
end Go.Proofs.YtebieapmoaaahaaGreatDoor
