/- Layer 4: the pieces of two texts with a blank between: plain mathematics. -/
import Derived.Test.YtebieapmoaaahaaGreatDoorGr07
import Derived.Test.YtebieapmoaaahaaGreatDoorGr04
set_option linter.unusedVariables false
set_option linter.unusedSimpArgs false
namespace Go.Proofs.YtebieapmoaaahaaGreatDoor
open Go Sx
theorem blD_le (l : List UInt8) : (blD l).length ≤ l.length := dw_le _ _
/-- Enough is enough. -/
theorem pcs_fuel : ∀ (n m : Nat) (l : List UInt8), l.length ≤ n → l.length ≤ m → pcs n l = pcs m l
  | 0, 0, l, _, _ => rfl
  | 0, m + 1, l, h, _ => by
    obtain rfl := List.eq_nil_of_length_eq_zero (Nat.le_zero.1 h)
    rw [pcs_succ]; rfl
  | n + 1, 0, l, _, h => by
    obtain rfl := List.eq_nil_of_length_eq_zero (Nat.le_zero.1 h)
    rw [pcs_succ]; rfl
  | n + 1, m + 1, l, hn, hm => by
    have hb := blD_le l
    rw [pcs_succ, pcs_succ]
    by_cases he : blD l = []
    · rw [if_pos he, if_pos he]
    · rw [if_neg he, if_neg he]
      by_cases ho : (pcF (blD l)).ok = true
      · have hl := pc_less ho
        rw [if_pos ho, if_pos ho, pcs_fuel n m _ (by omega) (by omega)]
      · rw [if_neg ho, if_neg ho]
/-- Where there is none is within. -/
theorem pcs_at : ∀ (n : Nat) (l x : List UInt8), (pcs n l).2 = some x → x.length ≤ l.length ∧ x ≠ []
  | 0, l, x, h => by cases h
  | n + 1, l, x, h => by
    have hb := blD_le l
    rw [pcs_succ] at h
    by_cases he : blD l = []
    · rw [if_pos he] at h; cases h
    · rw [if_neg he] at h
      by_cases ho : (pcF (blD l)).ok = true
      · rw [if_pos ho] at h
        have hl := pc_less ho
        have := pcs_at n _ x h
        exact ⟨by omega, this.2⟩
      · rw [if_neg ho] at h; cases h; exact ⟨hb, he⟩
theorem blk_32 : byB blkB 32 = true := by decide
theorem blD_join (l t : List UInt8) : blD (l ++ 32 :: t) = if blD l = [] then blD t else blD l ++ 32 :: t := by
  unfold blD
  induction l with
  | nil => rw [List.nil_append, List.dropWhile_cons, if_pos blk_32]; rfl
  | cons b l ih =>
    rw [List.cons_append, List.dropWhile_cons, List.dropWhile_cons]
    cases byB blkB b with
    | true => simpa using ih
    | false => simp
def moreX (t : List UInt8) (x : Pc × List UInt8) : Pc × List UInt8 := (x.1.more t, x.2 ++ t)
theorem pcs_join (t : List UInt8) : ∀ (n : Nat) (l : List UInt8), l.length ≤ n → (pcs n l).2 = none → ∀ m, (l ++ 32 :: t).length ≤ m → pcs m (l ++ 32 :: t) = ((pcs n l).1.map (moreX (32 :: t)) ++ (pcs t.length t).1, (pcs t.length t).2)
  | n, l, hn, h, 0, hm => by simp at hm
  | 0, l, hn, h, m + 1, hm => by
    obtain rfl := List.eq_nil_of_length_eq_zero (Nat.le_zero.1 hn)
    have hm' : t.length ≤ m := by simpa using hm
    have e : blD ([] ++ 32 :: t) = blD t := by rw [blD_join]; rfl
    have e2 : pcs (m + 1) ([] ++ 32 :: t) = pcs (m + 1) t := by rw [pcs_succ, pcs_succ, e]
    rw [e2, pcs_fuel (m + 1) t.length t (by omega) (Nat.le_refl _)]; rfl
  | n + 1, l, hn, h, m + 1, hm => by
    have hb := blD_le l
    have hm' : l.length + (t.length + 1) ≤ m + 1 := by simpa using hm
    rw [pcs_succ] at h
    rw [pcs_succ (n := n) (l := l)]
    by_cases he : blD l = []
    · have e2 : pcs (m + 1) (l ++ 32 :: t) = pcs (m + 1) t := by rw [pcs_succ, pcs_succ, blD_join, if_pos he]
      rw [e2, if_pos he, pcs_fuel (m + 1) t.length t (by omega) (Nat.le_refl _)]; rfl
    · rw [if_neg he] at h
      by_cases ho : (pcF (blD l)).ok = true
      · rw [if_pos ho] at h
        have hl := pc_less ho
        have ha := pc_app (t := t) he (stop_blank (blD l)) ho
        have hne : blD l ++ 32 :: t ≠ [] := by simp
        have h' : (pcs n (pcF (blD l)).r).2 = none := h
        rw [pcs_succ, blD_join, if_neg he, if_neg hne, ha, if_neg he, if_pos ho, if_pos (show ((pcF (blD l)).more (32 :: t)).ok = true from ho)]
        have ih := pcs_join t n (pcF (blD l)).r (by omega) h' m (by simp; omega)
        show (_ :: (pcs m ((pcF (blD l)).r ++ 32 :: t)).1, (pcs m ((pcF (blD l)).r ++ 32 :: t)).2) = _
        rw [ih]; rfl
      · rw [if_neg ho] at h; cases h
theorem tok_none {s : List UInt8} (h : tokE s = 0) : s.length ≤ 200 ∧ (tokP s).2 = none := by
  unfold tokE at h
  by_cases hs : s.length > 200
  · rw [if_pos hs] at h; omega
  · rw [if_neg hs] at h
    refine ⟨by omega, ?_⟩
    cases he : (tokP s).2 with
    | none => rfl
    | some l => rw [he] at h; simp at h
theorem tok_of {s : List UInt8} (hs : s.length ≤ 200) (h : (tokP s).2 = none) : tokE s = 0 ∧ tokN s = 0 ∧ tokL s = (tokP s).1.map (mkT s.length) := by
  unfold tokE tokN tokL
  rw [if_neg (by omega), if_neg (by omega), if_neg (by omega), h]
  exact ⟨rfl, rfl, rfl⟩
theorem tok_err {s x : List UInt8} (hs : s.length ≤ 200) (h : (tokP s).2 = some x) : tokE s = 40 ∧ tokN s = ((s.length - x.length : Nat) : Int) ∧ tokL s = [] := by
  unfold tokE tokN tokL
  rw [if_neg (by omega), if_neg (by omega), if_neg (by omega), h]
  exact ⟨rfl, rfl, rfl⟩
/-- Of the kinds and texts of pieces. -/
def ksT (t : Tk) : Int × List UInt8 := (t.k, t.s)
theorem ks_row (t : Tk) : ksR t.row = ksT t := rfl
theorem sam_iff (x y : List Tk) : samR (x.map Tk.row) (y.map Tk.row) = (x.map ksT == y.map ksT) := by
  unfold samR; rw [List.map_map, List.map_map]; rfl
theorem ks_map (N : Nat) (P : List (Pc × List UInt8)) : (P.map (mkT N)).map ksT = P.map fun x => (x.1.k, x.1.s) := by rw [List.map_map]; rfl
/-- THE JOIN. -/
theorem join_ok {a b : List UInt8} (ha : tokE a = 0) (hab : (a ++ 32 :: b).length ≤ 200) :
    (tokE b = 0 → tokE (a ++ 32 :: b) = 0 ∧ (tokL (a ++ 32 :: b)).map ksT = (tokL a).map ksT ++ (tokL b).map ksT) ∧ (tokE b ≠ 0 → tokE (a ++ 32 :: b) = 40 ∧ tokN (a ++ 32 :: b) > (a.length : Int)) := by
  obtain ⟨h1, h2⟩ := tok_none ha
  have hl : a.length + (b.length + 1) ≤ 200 := by simpa using hab
  have hj := pcs_join b a.length a (Nat.le_refl _) h2 (a ++ 32 :: b).length (Nat.le_refl _)
  have hj : tokP (a ++ 32 :: b) = ((tokP a).1.map (moreX (32 :: b)) ++ (tokP b).1, (tokP b).2) := hj
  refine ⟨fun hb => ?_, fun hb => ?_⟩
  · obtain ⟨h3, h4⟩ := tok_none hb
    have t1 := tok_of h1 h2
    have t2 := tok_of h3 h4
    have t3 := tok_of hab (by rw [hj]; exact h4)
    refine ⟨t3.1, ?_⟩
    rw [t3.2.2, t1.2.2, t2.2.2, ks_map, ks_map, ks_map, hj, List.map_append, List.map_map]; rfl
  · cases h4 : (tokP b).2 with
    | none => exact absurd (tok_of (by omega) h4).1 hb
    | some x =>
      have := (pcs_at _ _ _ h4).1
      have t3 := tok_err (x := x) hab (by rw [hj]; exact h4)
      refine ⟨t3.1, ?_⟩
      rw [t3.2.1]; simp only [List.length_append, List.length_cons]; omega
end Go.Proofs.YtebieapmoaaahaaGreatDoor

/- Layer 4: what is known of a piece: its length, and what its kind says. Plain mathematics. -/
set_option linter.unusedVariables false
set_option linter.unusedSimpArgs false
namespace Go.Proofs.YtebieapmoaaahaaGreatDoor
open Go Sx
theorem tdw_len (p : UInt8 → Bool) (l : List UInt8) : (l.takeWhile p).length + (l.dropWhile p).length = l.length := by
  rw [← List.length_append, List.takeWhile_append_dropWhile]
def refTx : List UInt8 := [35, 82, 69, 70, 33]
/-- What a piece's kind says of it. -/
structure Kd (x : Pc) (l : List UInt8) : Prop where
  len : x.k ≠ 2 → x.s.length + x.r.length = l.length
  txt : x.k = 2 → x.s.length ≤ 2 * l.length
  num : x.k = 1 → dcE x.s = 0 ∧ hdB (byB digB) x.s = true
  tru : x.k = 3 → x.s = [84, 82, 85, 69] ∨ x.s = [70, 65, 76, 83, 69]
  fau : x.k = 4 → byteAt x.s 0 = 35 ∧ x.s ≠ refTx ∧ 1 ≤ x.s.length
  ref : x.k = 5 → refB x.s = true
  nam : x.k = 6 → namB x.s = true ∧ refB x.s = false ∧ hdB (byB fstB) x.s = true
  cal : x.k = 7 → hdB (fun b => (b.toNat : Int) == 40) x.r = true
  sgn : x.k = 8 → x.s.length = 1 ∨ x.s.length = 2
  col : x.k = 9 → 1 ≤ x.s.length ∧ byteAt x.s (x.s.length - 1) = 93
  lo : 1 ≤ x.k
  hi : x.k ≤ 9
theorem cp_cons {c : UInt8} {l : List UInt8} (h : cpB c l = true) : ∃ r, l = c :: r := by
  cases l with
  | nil => simp [cpB] at h
  | cons b r => unfold cpB at h; simp at h; exact ⟨r, by rw [h]⟩
theorem num_kd {l : List UInt8} (h1 : hdB (byB digB) l = true) (ho : (numP l).ok = true) : Kd (numP l) l := by
  have e1 := tdw_len (byB digB) l
  have hh : ∀ t : List UInt8, hdB (byB digB) (l.takeWhile (byB digB) ++ t) = true := by
    intro t
    cases l with
    | nil => cases h1
    | cons b r => rw [List.takeWhile_cons, if_pos (show byB digB b = true from h1)]; exact h1
  unfold numP at ho ⊢
  cases hc : lxo.p2 (lxo.dp digB l) && digB (firI (lxo.p1 (lxo.dp digB l))) with
  | true =>
    rw [hc] at ho
    simp only [Bool.and_eq_true] at hc
    obtain ⟨r, hr⟩ := cp_cons hc.1
    have hr' : l.dropWhile (byB digB) = 46 :: r := hr
    have p1 : lxo.p1 (lxo.dp digB l) = r := by
      show bcond (cpB 46 (l.dropWhile (byB digB))) _ _ = _
      rw [hr', show cpB 46 (46 :: r) = true by simp [cpB], hr]; rfl
    have e2 := tdw_len (byB digB) r
    rw [hr'] at e1
    refine { len := fun _ => ?_, txt := fun e => absurd e (by decide : (1 : Int) ≠ 2), num := fun _ => ⟨beq_iff_eq.1 ho, hh _⟩, tru := fun e => absurd e (by decide : (1 : Int) ≠ 3), fau := fun e => absurd e (by decide : (1 : Int) ≠ 4), ref := fun e => absurd e (by decide : (1 : Int) ≠ 5), nam := fun e => absurd e (by decide : (1 : Int) ≠ 6), cal := fun e => absurd e (by decide : (1 : Int) ≠ 7), sgn := fun e => absurd e (by decide : (1 : Int) ≠ 8), col := fun e => absurd e (by decide : (1 : Int) ≠ 9), lo := (by decide : (1 : Int) ≤ 1), hi := (by decide : (1 : Int) ≤ 9) }
    show (numS lxo l).length + (lxo.dp digB (lxo.p1 (lxo.dp digB l))).length = _
    unfold numS
    rw [p1]
    show (l.takeWhile (byB digB) ++ ([46] ++ r.takeWhile (byB digB))).length + (r.dropWhile (byB digB)).length = _
    simp only [List.length_append, List.length_cons, List.length_nil] at *
    omega
  | false =>
    rw [hc] at ho
    refine { len := fun _ => e1, txt := fun e => absurd e (by decide : (1 : Int) ≠ 2), num := fun _ => ⟨beq_iff_eq.1 ho, ?_⟩, tru := fun e => absurd e (by decide : (1 : Int) ≠ 3), fau := fun e => absurd e (by decide : (1 : Int) ≠ 4), ref := fun e => absurd e (by decide : (1 : Int) ≠ 5), nam := fun e => absurd e (by decide : (1 : Int) ≠ 6), cal := fun e => absurd e (by decide : (1 : Int) ≠ 7), sgn := fun e => absurd e (by decide : (1 : Int) ≠ 8), col := fun e => absurd e (by decide : (1 : Int) ≠ 9), lo := (by decide : (1 : Int) ≤ 1), hi := (by decide : (1 : Int) ≤ 9) }
    have := hh []
    rw [List.append_nil] at this; exact this
theorem kd_other {x : Pc} {l : List UInt8} {k : Int} (hk : x.k = k) (h : k = 2 ∨ k = 3 ∨ k = 4 ∨ k = 5 ∨ k = 6 ∨ k = 7 ∨ k = 8 ∨ k = 9)
    (len : k ≠ 2 → x.s.length + x.r.length = l.length) (txt : k = 2 → x.s.length ≤ 2 * l.length) (tru : k = 3 → x.s = [84, 82, 85, 69] ∨ x.s = [70, 65, 76, 83, 69]) (fau : k = 4 → byteAt x.s 0 = 35 ∧ x.s ≠ refTx ∧ 1 ≤ x.s.length)
    (ref : k = 5 → refB x.s = true) (nam : k = 6 → namB x.s = true ∧ refB x.s = false ∧ hdB (byB fstB) x.s = true) (cal : k = 7 → hdB (fun b => (b.toNat : Int) == 40) x.r = true)
    (sgn : k = 8 → x.s.length = 1 ∨ x.s.length = 2) (col : k = 9 → 1 ≤ x.s.length ∧ byteAt x.s (x.s.length - 1) = 93) : Kd x l := by
  subst hk
  exact { len := len, txt := txt, num := fun e => by omega, tru := tru, fau := fau, ref := ref, nam := nam, cal := cal, sgn := sgn, col := col, lo := by omega, hi := by omega }
theorem txt_kd {l : List UInt8} (ho : (txtP l).ok = true) : Kd (txtP l) l := by
  unfold txtP at ho ⊢
  cases hb : betB 34 l with
  | false => rw [hb] at ho; cases ho
  | true =>
    refine kd_other (k := 2) rfl (by omega) (by omega) (fun _ => ?_) (by omega) (by omega) (by omega) (by omega) (by omega) (by omega) (by omega)
    show (Lib.replaceAll (txtM lxo l) [34, 34] [34]).length ≤ _
    have h1 := repA_len (txtM lxo l)
    have h2 : (txtM lxo l).length ≤ l.length := by
      have := bw_le 34 l
      show (List.take _ (List.drop _ (betW 34 l))).length ≤ _
      simp only [List.length_take, List.length_drop]; omega
    omega
theorem fau_first : ∀ f ∈ faL, byteAt f 0 = 35 := by decide
theorem fauK_or : ∀ f ∈ faL, (fauK f = 5 ∧ refB f = true) ∨ (fauK f = 4 ∧ f ≠ refTx) := by
  have h : (faL.all fun f => (decide (fauK f = 5) && refB f) || (decide (fauK f = 4) && !(f == refTx))) = true := by kernel_rfl
  intro f hf
  have := List.all_eq_true.1 h f hf
  simpa [Bool.or_eq_true, Bool.and_eq_true] using this
theorem fau_kd {l : List UInt8} (ho : (fauP l).ok = true) : Kd (fauP l) l := by
  unfold fauP at ho ⊢
  split
  · rename_i hf; rw [hf] at ho; cases ho
  · rename_i f hf
    have hm := List.mem_of_find?_eq_some hf
    have hp := pre_len (List.find?_some hf)
    rw [up_len] at hp
    have h1 := fau_pos f hm
    have h0 := fau_first f hm
    have hl : f.length + (List.take (l.length - ((f.length : Int)).toNat) (List.drop ((f.length : Int)).toNat l)).length = l.length := by
      rw [Int.toNat_natCast, List.length_take, List.length_drop]; omega
    rcases fauK_or f hm with ⟨h2, h3⟩ | ⟨h2, h3⟩
    · exact kd_other (x := fau1 f l) (k := 5) h2 (by omega) (fun _ => hl) (by omega) (by omega) (by omega) (fun _ => h3) (by omega) (by omega) (by omega) (by omega)
    · exact kd_other (x := fau1 f l) (k := 4) h2 (by omega) (fun _ => hl) (by omega) (by omega) (fun _ => ⟨h0, h3, h1⟩) (by omega) (by omega) (by omega) (by omega) (by omega)
theorem beh_kd {w r l : List UInt8} (hr : 1 ≤ r.length) (hl : w.length + r.length = l.length) (ho : (behP w r).ok = true) : Kd (behP w r) l := by
  refine kd_other (k := 5) rfl (by omega) (fun _ => ?_) (by omega) (by omega) (by omega) (fun _ => ho) (by omega) (by omega) (by omega) (by omega)
  show (w ++ [33] ++ (cut1 r).takeWhile (byB celB)).length + ((cut1 r).dropWhile (byB celB)).length = _
  have := tdw_len (byB celB) (cut1 r)
  rw [cut1_eq] at this ⊢
  simp only [List.length_append, List.length_cons, List.length_nil, List.length_drop] at *
  omega
theorem quo_kd {l : List UInt8} (ho : (quoP l).ok = true) : Kd (quoP l) l := by
  unfold quoP at ho ⊢
  cases hb : betB 39 l with
  | false => rw [hb] at ho; cases ho
  | true =>
    rw [hb] at ho
    cases hf : firI (betL 39 l) == 33 with
    | false => rw [hf] at ho; cases ho
    | true =>
      rw [hf] at ho
      have h1 : 1 ≤ (betL 39 l).length := by rw [firI_eq (by omega)] at hf; exact hdB_ne hf
      refine beh_kd h1 ?_ ho
      unfold betB at hb
      obtain ⟨q, hq⟩ := Option.isSome_iff_exists.1 hb
      have := btI_lt _ _ _ hq
      unfold betW betL
      rw [hq, List.length_take, List.length_drop]; omega
theorem ixB_lt {d : UInt8} {l : List UInt8} (h : ixC d l ≥ 0) : (ixC d l).toNat < l.length := (ix_app (c := 0) (t := []) h).2
theorem coc_kd {w r l : List UInt8} (hr : 1 ≤ r.length) (hl : w.length + r.length = l.length) (ho : (cocP w r).ok = true) : Kd (cocP w r) l := by
  unfold cocP at ho ⊢
  cases hb : cocB r with
  | false => rw [hb] at ho; cases ho
  | true =>
    have hi : ixC 93 (cut1 r) ≥ 0 := by
      unfold cocB at hb
      simp only [Bool.and_eq_true] at hb
      exact of_decide_eq_true hb.1
    have hlt := ixB_lt hi
    have c1 : colN lxo r = (cut1 r).take (ixC 93 (cut1 r)).toNat := by
      show bcond (decide (ixC 93 (cut1 r) ≥ 0)) _ _ = _
      rw [decide_eq_true hi]; rfl
    have c2 : lxo.c2 (cut1 r) = (cut1 r).drop ((ixC 93 (cut1 r)).toNat + 1) := by
      show bcond (decide (ixC 93 (cut1 r) ≥ 0)) _ _ = _
      rw [decide_eq_true hi]; rfl
    have hc : (cut1 r).length = r.length - 1 := by rw [cut1_eq, List.length_drop]
    refine kd_other (x := col1 lxo w r) (k := 9) rfl (by omega) (fun _ => ?_) (by omega) (by omega) (by omega) (by omega) (by omega) (by omega) (by omega) (fun _ => ⟨?_, ?_⟩)
    · show (w ++ [91] ++ colN lxo r ++ [93]).length + (lxo.c2 (cut1 r)).length = _
      rw [c1, c2]
      simp only [List.length_append, List.length_cons, List.length_nil, List.length_take, List.length_drop]
      omega
    · show 1 ≤ (w ++ [91] ++ colN lxo r ++ [93]).length
      simp only [List.length_append, List.length_cons, List.length_nil]; omega
    · show byteAt (w ++ [91] ++ colN lxo r ++ [93]) ((w ++ [91] ++ colN lxo r ++ [93]).length - 1) = 93
      generalize w ++ [91] ++ colN lxo r = z
      have e : (z ++ [93]).length - 1 = z.length := by simp
      rw [e]
      exact byteAt_here (c := 93) (t := []) z
theorem pln_kd {w r l : List UInt8} (hw : hdB (byB fstB) w = true) (hl : w.length + r.length = l.length) (ho : (plnP w r).ok = true) : Kd (plnP w r) l := by
  unfold plnP at ho ⊢
  cases h1 : refB w with
  | true => exact kd_other (x := w5 w r) (k := 5) rfl (by omega) (fun _ => hl) (by omega) (by omega) (by omega) (fun _ => h1) (by omega) (by omega) (by omega) (by omega)
  | false =>
    rw [h1] at ho
    cases h2 : truB w with
    | true =>
      refine kd_other (x := w3 lxo w r) (k := 3) rfl (by omega) (fun _ => ?_) (by omega) (fun _ => ?_) (by omega) (by omega) (by omega) (by omega) (by omega) (by omega)
      · show (w.map upB).length + r.length = _
        rw [up_len]; exact hl
      · unfold truB at h2
        show w.map upB = _ ∨ w.map upB = _
        simpa [Bool.or_eq_true] using h2
    | false =>
      rw [h2] at ho
      exact kd_other (x := w6 lxo w r) (k := 6) rfl (by omega) (fun _ => hl) (by omega) (by omega) (by omega) (by omega) (fun _ => ⟨ho, h1, hw⟩) (by omega) (by omega) (by omega)
theorem wor_kd {l : List UInt8} (h5 : hdB (byB fstB) l = true) (ho : (worP l).ok = true) : Kd (worP l) l := by
  have hl := tdw_len (byB wrdB) l
  have hw : hdB (byB fstB) (l.takeWhile (byB wrdB)) = true := by
    cases l with
    | nil => cases h5
    | cons b r => rw [List.takeWhile_cons, if_pos (show byB wrdB b = true from fst_wrd h5)]; exact h5
  unfold worP at ho ⊢
  generalize l.takeWhile (byB wrdB) = w at hl hw ho
  generalize l.dropWhile (byB wrdB) = r at hl ho
  unfold worQ at ho ⊢
  cases h1 : firI r == 33 with
  | true =>
    rw [h1] at ho
    rw [firI_eq (by omega)] at h1
    exact beh_kd (hdB_ne h1) hl ho
  | false =>
    rw [h1] at ho
    cases h2 : firI r == 40 with
    | true =>
      rw [h2] at ho
      rw [firI_eq (by omega)] at h2
      cases h3 : decide (w.length ≤ 30) && !conB 36 w with
      | true => exact kd_other (x := w7 w r) (k := 7) rfl (by omega) (fun _ => hl) (by omega) (by omega) (by omega) (by omega) (by omega) (fun _ => h2) (by omega) (by omega)
      | false => rw [h3] at ho; exact pln_kd hw hl ho
    | false =>
      rw [h2] at ho
      cases h3 : firI r == 91 && namB w with
      | true =>
        rw [h3] at ho
        simp only [Bool.and_eq_true] at h3
        have h4 := h3.1
        rw [firI_eq (by omega)] at h4
        exact coc_kd (hdB_ne h4) hl ho
      | false => rw [h3] at ho; exact pln_kd hw hl ho
theorem sgs_kd {l : List UInt8} (ho : (sgsP l).ok = true) : Kd (sgsP l) l := by
  have k : ∀ n : Int, n.toNat ≤ l.length → (n.toNat = 1 ∨ n.toNat = 2) → Kd (sg1 n l) l := fun n hn h12 => by
    have e1 : (tkN n l).length = n.toNat := by unfold tkN; rw [List.length_take, List.length_drop]; omega
    refine kd_other (k := 8) rfl (by omega) (fun _ => ?_) (by omega) (by omega) (by omega) (by omega) (by omega) (by omega) (fun _ => ?_) (by omega)
    · show (tkN n l).length + (List.take _ (List.drop _ l)).length = _
      rw [e1, List.length_take, List.length_drop]; omega
    · show (tkN n l).length = 1 ∨ (tkN n l).length = 2
      rw [e1]; exact h12
  unfold sgsP at ho ⊢
  cases c2 : decide (2 ≤ l.length) && sgL.contains (l.take 2) with
  | true =>
    simp only [Bool.and_eq_true, decide_eq_true_eq] at c2
    exact k 2 c2.1 (.inr rfl)
  | false =>
    rw [c2] at ho
    cases c1 : decide (1 ≤ l.length) && sgL.contains (l.take 1) with
    | true =>
      simp only [Bool.and_eq_true, decide_eq_true_eq] at c1
      exact k 1 c1.1 (.inl rfl)
    | false => rw [c1] at ho; cases ho
/-- What is known of a piece. -/
theorem pc_kd {l : List UInt8} (ho : (pcF l).ok = true) : Kd (pcF l) l := by
  unfold pcF at ho ⊢
  rw [firI_p low_dig, firI_eq (by omega), firI_eq (by omega), firI_eq (by omega), firI_p low_fst] at ho ⊢
  cases h1 : hdB (byB digB) l with
  | true => rw [h1] at ho; exact num_kd h1 ho
  | false =>
    rw [h1] at ho
    cases h2 : hdB (fun b => (b.toNat : Int) == 34) l with
    | true => rw [h2] at ho; exact txt_kd ho
    | false =>
      rw [h2] at ho
      cases h3 : hdB (fun b => (b.toNat : Int) == 35) l with
      | true => rw [h3] at ho; exact fau_kd ho
      | false =>
        rw [h3] at ho
        cases h4 : hdB (fun b => (b.toNat : Int) == 39) l with
        | true => rw [h4] at ho; exact quo_kd ho
        | false =>
          rw [h4] at ho
          cases h5 : hdB (byB fstB) l with
          | true => rw [h5] at ho; exact wor_kd h5 ho
          | false => rw [h5] at ho; exact sgs_kd ho
/-- A bracket is a sign. -/
theorem pc_br (t : List UInt8) : pcF (40 :: t) = ⟨8, [40], true, t⟩ := by
  unfold pcF
  rw [firI_p low_dig, firI_eq (by omega), firI_eq (by omega), firI_eq (by omega), firI_p low_fst]
  have h1 : hdB (byB digB) (40 :: t) = false := by show byB digB 40 = false; decide
  have h2 : hdB (fun b => (b.toNat : Int) == 34) (40 :: t) = false := rfl
  have h3 : hdB (fun b => (b.toNat : Int) == 35) (40 :: t) = false := rfl
  have h4 : hdB (fun b => (b.toNat : Int) == 39) (40 :: t) = false := rfl
  have h5 : hdB (byB fstB) (40 :: t) = false := by show byB fstB 40 = false; decide
  rw [h1, h2, h3, h4, h5]
  show sgsP (40 :: t) = _
  unfold sgsP
  have c2 : (decide (2 ≤ (40 :: t).length) && sgL.contains ((40 :: t).take 2)) = false := by
    cases t with
    | nil => rfl
    | cons b t =>
      have : sgL.contains [40, b] = false := by
        refine Bool.eq_false_iff.2 fun e => ?_
        have : ∀ x ∈ sgL, x.length = 2 → x.head? ≠ some 40 := by decide
        exact this _ (List.contains_iff_mem.1 e) rfl rfl
      show (_ && sgL.contains [40, b]) = false
      rw [this, Bool.and_false]
  have c1 : (decide (1 ≤ (40 :: t).length) && sgL.contains ((40 :: t).take 1)) = true := by
    show (decide (1 ≤ (40 :: t).length) && sgL.contains [40]) = true
    rw [decide_eq_true (by simp)]; rfl
  rw [c2, c1]
  show sg1 1 (40 :: t) = _
  unfold sg1 tkN
  simp
end Go.Proofs.YtebieapmoaaahaaGreatDoor

/- Layer 4: what is known of the pieces of a text, one by one. Plain mathematics. -/
set_option linter.unusedVariables false
set_option linter.unusedSimpArgs false
namespace Go.Proofs.YtebieapmoaaahaaGreatDoor
open Go Sx
/-- A word is no decimal. -/
theorem dec_word {w : List UInt8} (h : hdB (byB fstB) w = true) : dcE w = 12 := by
  cases w with
  | nil => cases h
  | cons b r =>
    have hb : byB fstB b = true := h
    have h45 : b ≠ 45 := by rintro rfl; exact absurd hb (by decide)
    have h46 : b ≠ 46 := by rintro rfl; exact absurd hb (by decide)
    have hd : ¬ Dq.okDig b := by
      intro hd
      unfold Dq.okDig at hd
      have : digB (b.toNat : Int) = true := by unfold digB; rw [decide_eq_true_eq]; omega
      unfold byB fstB at hb
      rw [this] at hb
      simp at hb
    have hm : Dq.minusB (b :: r) = false := by unfold Dq.minusB; simpa using h45
    have hs : Dq.bodyS (b :: r) = b :: r := by unfold Dq.bodyS; rw [hm]; rfl
    have hw : ∃ t, Dq.wholeS (b :: r) = b :: t := by
      unfold Dq.wholeS
      split
      · rename_i hi
        have h1 : Dq.idx46 (b :: r) ≠ 0 := by
          unfold Dq.idx46
          rw [ix_cons, if_neg (by simpa using h46)]
          have := Lib.indexByte_ge r 46
          split
          · decide
          · rename_i hne; have : Lib.indexByte r 46 ≠ -1 := by simpa using hne
            omega
        obtain ⟨k, hk⟩ : ∃ k, (Dq.idx46 (b :: r)).toNat = k + 1 := ⟨(Dq.idx46 (b :: r)).toNat - 1, by omega⟩
        rw [hk, List.take_succ_cons]
        exact ⟨_, rfl⟩
      · exact ⟨_, rfl⟩
    obtain ⟨t, ht⟩ := hw
    have hn : Dq.isDigs (b :: t) = false := by
      unfold Dq.isDigs
      refine decide_eq_false fun h => hd (h.2.2 b (List.mem_cons_self ..))
    have hok : Dq.okW (b :: r) = false := by
      unfold Dq.okW; rw [hs, ht, hn]; rfl
    unfold dcE Dq.readR
    rw [if_neg (by rw [hok]; decide)]
/-- One piece among all. -/
theorem pcs_one : ∀ (n : Nat) (l : List UInt8), l.length ≤ n → ∀ (i : Nat) (x : Pc × List UInt8), (pcs n l).1[i]? = some x → x.1 = pcF x.2 ∧ x.1.ok = true ∧ x.2.length ≤ l.length ∧ Kd x.1 x.2 ∧
      (x.1.k = 7 → ∃ t, x.1.r = 40 :: t ∧ (pcs n l).1[i + 1]? = some (⟨8, [40], true, t⟩, 40 :: t))
  | 0, l, hn, i, x, h => by simp [pcs] at h
  | n + 1, l, hn, i, x, h => by
    have hb := blD_le l
    rw [pcs_succ] at h ⊢
    by_cases he : blD l = []
    · rw [if_pos he] at h; simp at h
    · rw [if_neg he] at h ⊢
      by_cases ho : (pcF (blD l)).ok = true
      · rw [if_pos ho] at h ⊢
        have hl := pc_less ho
        cases i with
        | zero =>
          have h : (pcF (blD l), blD l) = x := by simpa using h
          subst h
          refine ⟨rfl, ho, hb, pc_kd ho, fun h7 => ?_⟩
          have hc := (pc_kd ho).cal h7
          simp only at hc h7 ⊢
          cases hr : (pcF (blD l)).r with
          | nil => rw [hr] at hc; cases hc
          | cons b t =>
            rw [hr] at hc hl
            have hb40 : b = 40 := by
              have : (b.toNat : Int) = 40 := beq_iff_eq.1 hc
              exact UInt8.toNat_inj.1 (by show b.toNat = 40; omega)
            subst hb40
            refine ⟨t, rfl, ?_⟩
            cases n with
            | zero => simp only [List.length_cons] at hl; omega
            | succ n =>
              have hbl : blD (40 :: t) = 40 :: t := by
                unfold blD; rw [List.dropWhile_cons, if_neg (by decide)]
              show ((pcs (n + 1) (40 :: t)).1)[0]? = _
              rw [pcs_succ, hbl, if_neg (by simp), pc_br, if_pos rfl]; rfl
        | succ i =>
          have := pcs_one n (pcF (blD l)).r (by omega) i x h
          exact ⟨this.1, this.2.1, by omega, this.2.2.2.1, this.2.2.2.2⟩
      · rw [if_neg ho] at h; simp at h
theorem beq_f {a b : Int} (h : a ≠ b) : (a == b) = false := beq_eq_false_iff_ne.2 h
/-- One piece among those that are told. -/
theorem tokL_one {s : List UInt8} {i : Nat} {t : Tk} (h : (tokL s)[i]? = some t) : s.length ≤ 200 ∧ (tokP s).2 = none ∧ ∃ x : Pc × List UInt8, (tokP s).1[i]? = some x ∧ t = mkT s.length x := by
  unfold tokL at h
  by_cases hs : s.length > 200
  · rw [if_pos hs] at h; simp at h
  · rw [if_neg hs] at h
    cases he : (tokP s).2 with
    | some l => rw [he] at h; simp at h
    | none =>
      rw [he] at h
      simp only [List.getElem?_map, Option.map_eq_some_iff] at h
      obtain ⟨x, hx, rfl⟩ := h
      exact ⟨by omega, rfl, x, hx, rfl⟩
end Go.Proofs.YtebieapmoaaahaaGreatDoor

/- Layer 4: a word alone, and with a bracket behind it: plain mathematics. -/
set_option linter.unusedVariables false
set_option linter.unusedSimpArgs false
namespace Go.Proofs.YtebieapmoaaahaaGreatDoor
open Go Sx
theorem tw_all {p : UInt8 → Bool} : ∀ {l : List UInt8}, (∀ b ∈ l, p b = true) → l.takeWhile p = l ∧ l.dropWhile p = []
  | [], _ => ⟨rfl, rfl⟩
  | b :: l, h => by
    have hb := h b (List.mem_cons_self ..)
    have ih := tw_all (l := l) fun c hc => h c (List.mem_cons_of_mem _ hc)
    rw [List.takeWhile_cons, List.dropWhile_cons, if_pos hb, if_pos hb, ih.1, ih.2]
    exact ⟨rfl, rfl⟩
/-- A word: its bytes; its first one. -/
structure IsW (w : List UInt8) : Prop where
  all : ∀ b ∈ w, byB wrdB b = true
  hd : hdB (byB fstB) w = true
  len : w.length ≤ 12
theorem isw_ne {w : List UInt8} (h : IsW w) : w ≠ [] := by rintro rfl; exact absurd h.hd (by decide)
theorem bl_fst {w t : List UInt8} (h : hdB (byB fstB) w = true) : blD (w ++ t) = w ++ t := by
  cases w with
  | nil => cases h
  | cons b r =>
    unfold blD
    rw [List.cons_append, List.dropWhile_cons, if_neg]
    intro hb
    have : (b.toNat : Int) = 32 := beq_iff_eq.1 hb
    have hb32 : b = 32 := UInt8.toNat_inj.1 (by show b.toNat = 32; omega)
    subst hb32
    exact absurd (show byB fstB 32 = true from h) (by decide)
theorem fst_not {c : Int} {l : List UInt8} (hl : hdB (byB fstB) l = true) (hc : fstB c = false) : hdB (fun b => (b.toNat : Int) == c) l = false := by
  cases l with
  | nil => cases hl
  | cons b r =>
    refine beq_eq_false_iff_ne.2 fun e => ?_
    have : fstB (b.toNat : Int) = true := hl
    rw [e, hc] at this; cases this
theorem pc_word {l : List UInt8} (h : hdB (byB fstB) l = true) : pcF l = worP l := by
  unfold pcF
  rw [firI_p low_dig, firI_eq (by omega), firI_eq (by omega), firI_eq (by omega), firI_p low_fst, fst_not h (by decide), fst_not h (by decide), fst_not h (by decide), h]
  have : hdB (byB digB) l = false := by
    cases l with
    | nil => rfl
    | cons b r =>
      have hb : byB fstB b = true := h
      unfold byB fstB at hb
      simp only [Bool.and_eq_true, Bool.not_eq_true'] at hb
      exact hb.2.1
  rw [this]; rfl
theorem pc_alone {w : List UInt8} (h : IsW w) : pcF w = plnP w [] := by
  rw [pc_word h.hd]
  unfold worP
  rw [(tw_all h.all).1, (tw_all h.all).2]
  unfold worQ
  rw [firI_eq (by omega), firI_eq (by omega), firI_eq (by omega)]; rfl
theorem pc_behind {w : List UInt8} (h : IsW w) : pcF (w ++ [40]) = bcond (!conB 36 w) (w7 w [40]) (plnP w [40]) := by
  have hh : hdB (byB fstB) (w ++ [40]) = true := by
    cases w with
    | nil => exact absurd h.hd (by decide)
    | cons b r => exact h.hd
  obtain ⟨e1, e2⟩ := tw_app (c := 40) (t := []) (p := byB wrdB) (by decide) w
  rw [pc_word hh]
  unfold worP
  rw [e1, e2, (tw_all h.all).1, (tw_all h.all).2]
  unfold worQ
  rw [firI_eq (by omega), firI_eq (by omega), List.nil_append, decide_eq_true (show w.length ≤ 30 by have := h.len; omega), Bool.true_and]
  rfl
theorem tok_alone {w : List UInt8} (h : IsW w) : (tokP w) = if (plnP w []).ok = true then ([(plnP w [], w)], none) else ([], some w) := by
  have hne := isw_ne h
  have hb : blD w = w := by have := bl_fst (t := []) h.hd; rwa [List.append_nil] at this
  unfold tokP
  cases hn : w.length with
  | zero => exact absurd (List.eq_nil_of_length_eq_zero hn) hne
  | succ n =>
    rw [pcs_succ, hb, if_neg hne, pc_alone h]
    have hr : (plnP w []).r = [] := pln_r w []
    by_cases ho : (plnP w []).ok = true
    · rw [if_pos ho, if_pos ho, hr]
      cases n with
      | zero => rfl
      | succ n => rw [pcs_succ]; rfl
    · rw [if_neg ho, if_neg ho]
theorem tok_behind {w : List UInt8} (h : IsW w) (h36 : conB 36 w = false) : (tokP (w ++ [40])) = ([(⟨7, w, true, [40]⟩, w ++ [40]), (⟨8, [40], true, []⟩, [40])], none) := by
  have hne : w ++ [40] ≠ [] := by simp
  have hb : blD (w ++ [40]) = w ++ [40] := bl_fst h.hd
  have hp : pcF (w ++ [40]) = ⟨7, w, true, [40]⟩ := by rw [pc_behind h, h36]; rfl
  unfold tokP
  have hn : (w ++ [40]).length = w.length + 1 := by simp
  rw [hn, pcs_succ, hb, if_neg hne, hp, if_pos rfl]
  cases hw : w.length with
  | zero => exact absurd (List.eq_nil_of_length_eq_zero hw) (isw_ne h)
  | succ n =>
    have hbr : blD [40] = [40] := by decide
    have hq : pcs (n + 1) [40] = ([(⟨8, [40], true, []⟩, [40])], none) := by
      rw [pcs_succ, hbr, if_neg (by simp), pc_br, if_pos rfl]
      cases n with
      | zero => rfl
      | succ n => rw [pcs_succ]; rfl
    show (_ :: (pcs (n + 1) [40]).1, (pcs (n + 1) [40]).2) = _
    rw [hq]
theorem nm_all {w : List UInt8} (h : IsW w) : namB w = (!conB 36 w && (!refB w && !truB w)) := by
  unfold namB
  have h1 : nmF w w.length 0 = true := by
    rw [nmF_eq w w.length 0 (by omega)]
    have : (w.drop 0).all (byB wrdB) = true := List.all_eq_true.2 fun b hb => h.all b (by simpa using hb)
    rw [this, h.hd]; simp
  rw [h1, decide_eq_true (show w.length ≤ 30 by have := h.len; omega)]
  have : (w == []) = false := by simpa using isw_ne h
  rw [this]; simp
/-- What begins otherwise is no name. -/
theorem nm_bad {w : List UInt8} (h : hdB (byB fstB) w = false) : namB w = false := by
  unfold namB
  by_cases hw : w = []
  · subst hw; rfl
  · have : nmF w w.length 0 = false := by
      rw [nmF_eq w w.length 0 (by omega), h]
      have : (w == []) = false := by simpa using hw
      rw [this]; simp
    rw [this]; simp
theorem mk_tok {w : List UInt8} (h : IsW w) (ho : (plnP w []).ok = true) : tokE w = 0 ∧ tokL w = [⟨(plnP w []).k, (plnP w []).s, 0⟩] := by
  have hl := h.len
  have hp := tok_alone h
  rw [if_pos ho] at hp
  have := tok_of (s := w) (by omega) (by rw [hp])
  refine ⟨this.1, ?_⟩
  rw [this.2.2, hp]
  show [mkT w.length (plnP w [], w)] = _
  unfold mkT
  simp
theorem mk_not {w : List UInt8} (h : IsW w) (ho : (plnP w []).ok = false) : tokE w = 40 ∧ tokL w = [] := by
  have hl := h.len
  have hp := tok_alone h
  rw [if_neg (by rw [ho]; decide)] at hp
  have := tok_err (s := w) (x := w) (by omega) (by rw [hp])
  exact ⟨this.1, this.2.2⟩
theorem mk_call {w : List UInt8} (h : IsW w) (h36 : conB 36 w = false) : tokE (w ++ [40]) = 0 ∧ ∃ a, tokL (w ++ [40]) = [⟨7, w, 0⟩, ⟨8, [40], a⟩] := by
  have hl := h.len
  have hp := tok_behind h h36
  have := tok_of (s := w ++ [40]) (by simp; omega) (by rw [hp])
  refine ⟨this.1, (((w ++ [40]).length - ([40] : List UInt8).length : Nat) : Int), ?_⟩
  rw [this.2.2, hp]
  show [mkT (w ++ [40]).length (⟨7, w, true, [40]⟩, w ++ [40]), mkT (w ++ [40]).length (⟨8, [40], true, []⟩, [40])] = _
  unfold mkT
  simp
end Go.Proofs.YtebieapmoaaahaaGreatDoor

/- Layer 4: the chapter's examples. -/
set_option linter.unusedVariables false
namespace Go.Proofs.YtebieapmoaaahaaGreatDoor
open Go Sx
set_option maxRecDepth 1000000
def tabW (T : LxT) (O : LxO) : Tab := (17, eTok T) :: (14, oNam O) :: (59, oRep O) :: (84, oPre O) :: tab0
theorem tabW_ok : TabOK Tryz.prog (tabW lxt lxo) := .cons tokens_ok (.cons isName_ok (.cons repAll_ok (.cons pre_ok tab0_ok)))
theorem examples_ok : EntOK Tryz.prog 10 eTrue := fun args pre => by
  unfold eTrue
  split
  · exact ans_comes (lv := nolv) tabW_ok (by unfold Comes; kernel_rfl)
  · trivial
end Go.Proofs.YtebieapmoaaahaaGreatDoor

/- Layer 4: are two lists of pieces the same, but for places? The contract. -/
set_option linter.unusedVariables false
set_option linter.unusedSimpArgs false
namespace Go.Proofs.YtebieapmoaaahaaGreatDoor
open Go Sx
theorem same_comes (A B : List (List CV)) : Comes tab0 (lvSm A B) 18 [.vec 0 A.length, .vec 1 B.length] [tokO A, tokO B] (.br ((A.length : Int) != (B.length : Int)) (.ret (.bool false) [tokO A, tokO B])
    (.br (eqSt (stSm A.length B.length A B 0) (stSm A.length B.length A B 0)) (.br (Nat.beq A.length B.length) (.br (decide (A.length ≤ 1000)) (.br (samR A B) (.ret (.bool true) [tokO A, tokO B]) (.ret (.bool false) [tokO A, tokO B])) .fail) .fail) .fail)) := by unfold Comes; kernel_rfl
theorem same_nil : Comes tab0 nolv 18 [.nilslice, .nilslice] [] (.ret (.bool true) []) := by unfold Comes; kernel_rfl
noncomputable def lvNo : FuncId → Lv := lvOf 18 (fun _ => some [0, 1, 4, 5]) (oneL 4 (eAt 0 (stSm 0 0 [] [] 0) (.chk false (.out .ret (smOut 0 0 [] [])))))
theorem lansNo {x : Code} {K : Nat} {t : PState} {a : LAns} : LAnsOK Tryz.prog x K t (.chk false a) := by
  unfold LAns.chk
  exact ⟨fun h => absurd h (by decide), fun _ => trivial⟩
theorem lvNo_ok : LvOK Tryz.prog lvNo := lvOne_ok (x := loopSm) Tryz.func18 (by kernel_rfl) fun K t => eAt_ok lansNo K t
theorem same_vn (n : Nat) (A : List (List CV)) : Comes tab0 lvNo 18 [.vec 0 n, .nilslice] [tokO A] (.br ((n : Int) != 0) (.ret (.bool false) [tokO A]) .fail) := by unfold Comes; kernel_rfl
theorem same_nv (n : Nat) (A : List (List CV)) : Comes tab0 nolv 18 [.nilslice, .vec 0 n] [tokO A] (.br ((0 : Int) != (n : Int)) (.ret (.bool false) [tokO A]) (.ret (.bool true) [tokO A])) := by unfold Comes; kernel_rfl
theorem int_ne {n : Nat} (h : Nat.blt 0 n = true) : ((n : Int) != 0) = true ∧ ((0 : Int) != (n : Int)) = true := by
  have : 0 < n := by simpa using h
  exact ⟨bne_iff_ne.2 (by omega), bne_iff_ne.2 (by omega)⟩
theorem same_ok : EntOK Tryz.prog 18 (eSm smf) := fun args pre => by
  unfold eSm
  split
  · exact ans_comes tab0_ok same_nil
  · rename_i n A t
    refine ⟨fun g => ⟨fun g2 => ?_, fun _ => trivial⟩, fun _ => trivial⟩
    obtain rfl := Nat.eq_of_beq_eq_true g
    refine of_run (ans_comes tab0_ok (same_vn n A) lvNo_ok) fun r h => ?_
    rw [← h]
    simp only [Ans.run]
    rw [bcT (int_ne g2).1]
  · rename_i n A t
    refine ⟨fun g => ⟨fun g2 => ?_, fun _ => trivial⟩, fun _ => trivial⟩
    obtain rfl := Nat.eq_of_beq_eq_true g
    refine of_run (ans_comes tab0_ok (same_nv n A)) fun r h => ?_
    rw [← h]
    simp only [Ans.run]
    rw [bcT (int_ne g2).2]
  · rename_i n m A t B u
    refine ⟨fun g1 => ⟨fun g2 => ⟨fun g3 => ⟨fun g4 => ⟨fun g5 => ?_, fun _ => trivial⟩, fun _ => trivial⟩, fun _ => trivial⟩, fun _ => trivial⟩, fun _ => trivial⟩
    obtain rfl := Nat.eq_of_beq_eq_true g1
    obtain rfl := Nat.eq_of_beq_eq_true g2
    obtain rfl := Nat.eq_of_beq_eq_true g3
    obtain rfl := Nat.eq_of_beq_eq_true g4
    refine of_run (ans_comes tab0_ok (same_comes A B) (lvSm_ok A B)) fun r h => ?_
    rw [← h]
    simp only [Ans.run, smf]
    by_cases hl : A.length = B.length
    · rw [bcF (b := (A.length : Int) != (B.length : Int)) (by rw [hl]; simp), bcT (eqSt_refl _), bcT (by rw [hl]; exact Nat.beq_refl _), bcT g5]
      cases samR A B <;> rfl
    · rw [bcT (b := (A.length : Int) != (B.length : Int)) (bne_iff_ne.2 (by omega))]
      have : samR A B = false := Bool.eq_false_iff.2 fun e => hl (by have := congrArg List.length (beq_iff_eq.1 e); simpa using this)
      rw [this]
  · trivial
end Go.Proofs.YtebieapmoaaahaaGreatDoor

/- Layer 4: the law of joins. -/
set_option linter.unusedVariables false
set_option linter.unusedSimpArgs false
namespace Go.Proofs.YtebieapmoaaahaaGreatDoor
open Go Sx
abbrev Sl := Option (Nat × List (List CV))
def roomT (n : Nat) : Bool := decide (2 * n * 32 ≤ 281474976710656 ∧ 2 * n < 9223372036854775808)
def smA (F : SmF) (z w : Sl) : Ans := match z, w with
  | none, none => .ret (.bool true) []
  | some x, none => chkA [Nat.blt 0 x.1] (.ret (.bool false) [])
  | none, some x => chkA [Nat.blt 0 x.1] (.ret (.bool false) [])
  | some x, some y => chkA [Nat.beq x.1 x.2.length, Nat.beq y.1 y.2.length, decide (x.1 ≤ 1000)] (.ret (.bool (F.r x.2 y.2)) [])
def ap1 (y : Sl) (k : Sl → Ans) : Ans := match y with
  | none => k none
  | some x => .br (decide (0 < x.1)) (.br (decide (x.1 ≤ x.2.length) && roomT x.1) (k (some (x.1, x.2.take x.1))) .fail) (.br (decide (x.1 ≤ x.2.length)) (k none) .fail)
def ap2 (x y : Sl) (k : Sl → Ans) : Ans := match x with
  | none => ap1 y k
  | some x => match y with
    | none => .br (true && decide ((tokO x.2).len = x.1 * 3) && roomT (x.1 + 0)) (k (some (x.1 + 0, x.2 ++ []))) .fail
    | some y => .br (decide (y.1 ≤ y.2.length) && decide ((tokO x.2).len = x.1 * 3) && roomT (x.1 + y.1)) (k (some (x.1 + y.1, x.2 ++ y.2.take y.1))) .fail
def slE (b : Bool) (L : List Tk) : Sl := match b with | true => none | false => some (L.length, L.map Tk.row)
def upTo (m : Int) (s : List UInt8) : Int := if m < (s.length : Int) then m else (s.length : Int)
def cutTo (m : Int) (s : List UInt8) : List UInt8 := List.take ((upTo m s).toNat - 0) (List.drop 0 s)
def cutB (m : Int) (s : List UInt8) : Bool := decide (0 ≤ upTo m s ∧ (upTo m s).toNat ≤ s.length)
def joF (T : LxT) (F : SmF) (a b c : List UInt8) (x y z : Bool) : Ans :=
  .br (T.e a != 0) (.ret (.bool true) []) (.br (T.e b != 0) (.br (T.e c == 40) (.ret (.bool (decide (T.n c > (a.length : Int)))) []) (.ret (.bool false) []))
    (.br (T.e c == 0) (ap1 (slE x (T.L a)) fun w => ap2 w (slE y (T.L b)) fun v => smA F (slE z (T.L c)) v) (.ret (.bool false) [])))
def joG (T : LxT) (F : SmF) (a b c : List UInt8) (x y : Bool) : Ans :=
  chkA [mxB (a.length + ([32] : List UInt8).length), mxB ((a ++ [32]).length + b.length)] (.br (T.L c).isEmpty (joF T F a b c x y true) (joF T F a b c x y false))
def joH (T : LxT) (F : SmF) (a b c : List UInt8) : Ans := .br (T.L a).isEmpty (.br (T.L b).isEmpty (joG T F a b c true true) (joG T F a b c true false)) (.br (T.L b).isEmpty (joG T F a b c false true) (joG T F a b c false false))
def tabJ (T : LxT) (F : SmF) : Tab := (10, eTrue) :: (17, eTok T) :: (18, eSm F) :: tab0
theorem joins_comes (T : LxT) (F : SmF) (s t : List UInt8) : Comes (tabJ T F) nolv 9 [.str s, .str t] [] (chkA [cutB 90 s, cutB 90 t] (joH T F (cutTo 90 s) (cutTo 90 t) (cutTo 90 s ++ [32] ++ cutTo 90 t))) := by unfold Comes; kernel_rfl
theorem tabJ_ok : TabOK Tryz.prog (tabJ lxt smf) := .cons examples_ok (.cons tokens_ok (.cons same_ok tab0_ok))
-- mathematics
def slO (L : List Tk) : Sl := slE L.isEmpty L
theorem upTo_ok {m : Int} (hm : 0 ≤ m) (s : List UInt8) : cutB m s = true ∧ cutTo m s = s.take m.toNat := by
  unfold cutB cutTo upTo
  split
  · exact ⟨decide_eq_true (by omega), by simp⟩
  · refine ⟨decide_eq_true (by omega), ?_⟩
    rw [List.drop_zero, List.take_of_length_le (by omega), List.take_of_length_le (by omega)]
theorem roomT_ok {n : Nat} (h : n ≤ 1000) : roomT n = true := decide_eq_true (by omega)
theorem ap1_run {L : List Tk} (h : L.length ≤ 1000) (k : Sl → Ans) : (ap1 (slO L) k).run pure2 = (k (slO L)).run pure2 := by
  cases L with
  | nil => rfl
  | cons t L =>
    show (Ans.br _ (Ans.br _ (k (some ((t :: L).length, ((t :: L).map Tk.row).take (t :: L).length))) _) _).run pure2 = (k (some ((t :: L).length, (t :: L).map Tk.row))).run pure2
    simp only [Ans.run]
    rw [bcT (b := decide (0 < (t :: L).length)) (decide_eq_true (by simp)), bcT (b := decide _ && roomT _) (by rw [roomT_ok h, decide_eq_true (by simp)]; rfl), List.take_of_length_le (by simp)]
theorem ap2_run {L M : List Tk} (h : L.length + M.length ≤ 1000) (k : Sl → Ans) : (ap2 (slO L) (slO M) k).run pure2 = (k (slO (L ++ M))).run pure2 := by
  cases L with
  | nil => exact ap1_run (by omega) k
  | cons t L => cases M with
    | nil =>
      show (Ans.br _ (k (some ((t :: L).length + 0, (t :: L).map Tk.row ++ []))) _).run pure2 = _
      simp only [Ans.run]
      rw [bcT (b := true && _ && _) (by rw [row_len, roomT_ok (by simpa using h)]; simp), List.append_nil, List.append_nil]; rfl
    | cons u M =>
      show (Ans.br _ (k (some ((t :: L).length + (u :: M).length, (t :: L).map Tk.row ++ ((u :: M).map Tk.row).take (u :: M).length))) _).run pure2 = _
      simp only [Ans.run]
      rw [bcT (b := _ && _ && _) (by rw [row_len, roomT_ok h]; simp), List.take_of_length_le (by simp), ← List.map_append, ← List.length_append]; rfl
theorem smA_run {L M : List Tk} (h : L.length ≤ 1000) : (smA smf (slO L) (slO M)).run pure2 = pure2 (.bool (L.map ksT == M.map ksT)) [] := by
  cases L with
  | nil => cases M with
    | nil => rfl
    | cons u M => exact chkA_run (by intro b hb; simp only [List.mem_cons, List.not_mem_nil, or_false] at hb; subst hb; rfl)
  | cons t L => cases M with
    | nil => exact chkA_run (by intro b hb; simp only [List.mem_cons, List.not_mem_nil, or_false] at hb; subst hb; rfl)
    | cons u M =>
      refine (chkA_run ?_).trans ?_
      · intro b hb
        simp only [List.mem_cons, List.not_mem_nil, or_false] at hb
        rcases hb with rfl | rfl | rfl
        · show Nat.beq (t :: L).length ((t :: L).map Tk.row).length = true; rw [List.length_map]; exact Nat.beq_refl _
        · show Nat.beq (u :: M).length ((u :: M).map Tk.row).length = true; rw [List.length_map]; exact Nat.beq_refl _
        · exact decide_eq_true h
      · rw [← sam_iff]; rfl
theorem tokL_len (s : List UInt8) : (tokL s).length ≤ 200 := by
  have key : ∀ (n : Nat) (l : List UInt8), (pcs n l).1.length ≤ l.length := by
    intro n
    induction n with
    | zero => intro l; exact Nat.zero_le _
    | succ n ih =>
      intro l
      have hb := blD_le l
      rw [pcs_succ]
      by_cases he : blD l = []
      · rw [if_pos he]; exact Nat.zero_le _
      · rw [if_neg he]
        by_cases ho : (pcF (blD l)).ok = true
        · have hl := pc_less ho
          have := ih (pcF (blD l)).r
          rw [if_pos ho, List.length_cons]; omega
        · rw [if_neg ho]; exact Nat.zero_le _
  unfold tokL
  by_cases hs : s.length > 200
  · rw [if_pos hs]; exact Nat.zero_le _
  · rw [if_neg hs]
    split
    · have := key s.length s
      rw [List.length_map]; unfold tokP; omega
    · exact Nat.zero_le _
theorem joF_run {a b c : List UInt8} (hc : c = a ++ 32 :: b) (hl : c.length ≤ 200) {x y z : Bool} (hx : x = (tokL a).isEmpty) (hy : y = (tokL b).isEmpty) (hz : z = (tokL c).isEmpty) : (joF lxt smf a b c x y z).run pure2 = pure2 (.bool true) [] := by
  subst hc hx hy hz
  have la := tokL_len a
  have lb := tokL_len b
  have lc := tokL_len (a ++ 32 :: b)
  unfold joF
  simp only [Ans.run, lxt]
  by_cases ha : tokE a = 0
  · obtain ⟨j1, j2⟩ := join_ok ha hl
    rw [bcF (b := tokE a != 0) (by rw [ha]; rfl)]
    by_cases hb : tokE b = 0
    · obtain ⟨e1, e2⟩ := j1 hb
      rw [bcF (b := tokE b != 0) (by rw [hb]; rfl), bcT (b := tokE (a ++ 32 :: b) == 0) (by rw [e1]; rfl)]
      refine (ap1_run (L := tokL a) (by omega) _).trans ?_
      refine (ap2_run (L := tokL a) (M := tokL b) (by omega) _).trans ?_
      refine (smA_run (L := tokL (a ++ 32 :: b)) (M := tokL a ++ tokL b) (by omega)).trans ?_
      rw [e2, List.map_append, beq_self_eq_true]
    · obtain ⟨e1, e2⟩ := j2 hb
      rw [bcT (b := tokE b != 0) (bne_iff_ne.2 hb), bcT (b := tokE (a ++ 32 :: b) == 40) (by rw [e1]; rfl)]; exact congrArg (fun b => pure2 (.bool b) []) (decide_eq_true e2)
  · rw [bcT (b := tokE a != 0) (bne_iff_ne.2 ha)]
theorem joG_run {a b : List UInt8} (ha : a.length ≤ 90) (hb : b.length ≤ 90) {x y : Bool} (hx : x = (tokL a).isEmpty) (hy : y = (tokL b).isEmpty) : (joG lxt smf a b (a ++ [32] ++ b) x y).run pure2 = pure2 (.bool true) [] := by
  unfold joG
  rw [chkA_run (by
    intro c hc
    simp only [List.mem_cons, List.not_mem_nil, or_false] at hc
    rcases hc with rfl | rfl
    · exact mx_ok (by simp; omega)
    · exact mx_ok (by simp; omega))]
  simp only [Ans.run]
  have hc : a ++ [32] ++ b = a ++ 32 :: b := by simp
  have hl : (a ++ [32] ++ b).length ≤ 200 := by simp; omega
  show bcond (tokL (a ++ [32] ++ b)).isEmpty _ _ = _
  cases he : (tokL (a ++ [32] ++ b)).isEmpty with
  | true => exact joF_run hc hl hx hy he.symm
  | false => exact joF_run hc hl hx hy he.symm
theorem joH_run {a b : List UInt8} (ha : a.length ≤ 90) (hb : b.length ≤ 90) : (joH lxt smf a b (a ++ [32] ++ b)).run pure2 = pure2 (.bool true) [] := by
  unfold joH
  simp only [Ans.run]
  show bcond (tokL a).isEmpty (bcond (tokL b).isEmpty _ _) (bcond (tokL b).isEmpty _ _) = _
  cases hx : (tokL a).isEmpty <;> cases hy : (tokL b).isEmpty <;> exact joG_run ha hb hx.symm hy.symm
theorem joins_law (s t : List UInt8) : Meets Tryz.prog 9 [.str s, .str t] [] (.bool true) [] := by
  have h := joins_comes lxt smf s t
  show Meets _ 9 _ (([] : List PObj).map PObj.toA) (.bool true) (([] : List PObj).map PObj.toA)
  refine meets_ent tabJ_ok host (h.trans ?_) nolv_ok
  rw [chkA_run (by
    intro c hc
    simp only [List.mem_cons, List.not_mem_nil, or_false] at hc
    rcases hc with rfl | rfl
    · exact (upTo_ok (by decide) s).1
    · exact (upTo_ok (by decide) t).1), (upTo_ok (by decide) s).2, (upTo_ok (by decide) t).2]
  exact joH_run (by rw [List.length_take]; exact Nat.min_le_left _ _) (by rw [List.length_take]; exact Nat.min_le_left _ _)
end Go.Proofs.YtebieapmoaaahaaGreatDoor

/- Layer 4: the law of kinds: the loop. -/
set_option linter.unusedVariables false
set_option linter.unusedSimpArgs false
namespace Go.Proofs.YtebieapmoaaahaaGreatDoor
open Go Sx
def tabK (T : LxT) (O : LxO) (F : RdF) : Tab := (10, eTrue) :: (17, eTok T) :: (20, entRd 1000000 F.v F.e) :: tabX O
noncomputable abbrev loopKd : Code := (loopBodies (bodyOf Tryz.f7)).headD .skip
def stKd (n : Nat) (e i : Int) (rows : List (List CV)) : PState := ⟨nn 2 ++ [some (.bool false), some (.bool true), some (.vec 0 n)] ++ nn 1 ++ [some (.int .i64 e), some (.int .i64 i)] ++ nn 223, [some (tokO rows)] ++ nn 64⟩
def stKx (n : Nat) (e : Int) (rows : List (List CV)) : PState := ⟨nn 2 ++ [some (.bool false), some (.bool true), some (.vec 0 n)] ++ nn 1 ++ [some (.int .i64 e)] ++ nn 224, [some (tokO rows)] ++ nn 64⟩
def stKn (e : Int) : PState := ⟨nn 2 ++ [some (.bool false), some (.bool true), some .nilslice] ++ nn 1 ++ [some (.int .i64 e), some (.int .i64 0)] ++ nn 223, nn 64⟩
def stKm (e : Int) : PState := ⟨nn 2 ++ [some (.bool false), some (.bool true), some .nilslice] ++ nn 1 ++ [some (.int .i64 e)] ++ nn 224, nn 64⟩
def aR (A : List (List CV)) (i : Int) : Int := (rowCV (Sx.rowAt A i.toNat) 2).n
abbrev W (i : Int) : Int := IntKind.i64.wrap i
abbrev b2 (i : Int) (n : Nat) (A : List (List CV)) : List Bool := [bR i n, rR i A]
abbrev Rd := Option (Ex × PState)
def kd7 (n : Nat) (i : Int) (A : List (List CV)) (g : Bool → Rd) : Rd :=
  bcond (decide (W (i + 1) < (n : Int))) (chks (bcond (kR A (W (i + 1)) == 8) (chks (bcond (sR A (W (i + 1)) == [40]) (chks (g (aR A (W (i + 1)) == W (aR A i + ((sR A i).length : Int)))) (b2 (W (i + 1)) n A ++ b2 i n A ++ b2 i n A)) (g false)) (b2 (W (i + 1)) n A)) (g false)) (b2 (W (i + 1)) n A)) (g false)
def kdM (de re : List UInt8 → Int) (nm : List UInt8 → Bool) (n : Nat) (i : Int) (A : List (List CV)) (g : Bool → Rd) : Rd :=
  bcond (kR A i == 1) (bcond (de (sR A i) == 0) (chks (g (byteAt (sR A i) (Int.toNat 0) != 45)) (b2 i n A ++ [decide ((0 : Int) ≤ 0 ∧ Int.toNat 0 < (sR A i).length)])) (g false))
  (bcond (kR A i == 5) (g (re (sR A i) == 0))
  (bcond (kR A i == 6) (bcond (nm (sR A i)) (bcond (re (sR A i) != 0) (g (de (sR A i) != 0)) (g false)) (g false))
  (bcond (kR A i == 3) (chks (bcond (sR A i == [84, 82, 85, 69]) (g true) (chks (g (sR A i == [70, 65, 76, 83, 69])) (b2 i n A))) (b2 i n A))
  (bcond (kR A i == 4) (chks (bcond (byteAt (sR A i) (Int.toNat 0) == 35) (chks (g (!(sR A i == [35, 82, 69, 70, 33]))) (b2 i n A)) (g false)) (b2 i n A ++ [decide ((0 : Int) ≤ 0 ∧ Int.toNat 0 < (sR A i).length)]))
  (bcond (kR A i == 7) (kd7 n i A g)
  (bcond (kR A i == 9) (chks (g (byteAt (sR A i) (W (((sR A i).length : Int) - 1)).toNat == 93)) (b2 i n A ++ b2 i n A ++ [decide (0 ≤ W (((sR A i).length : Int) - 1) ∧ (W (((sR A i).length : Int) - 1)).toNat < (sR A i).length)]))
  (bcond (kR A i == 8) (chks (bcond (((sR A i).length : Int) == 1) (g true) (chks (g (((sR A i).length : Int) == 2)) (b2 i n A))) (b2 i n A)) (g true))))))))
def stK2 (n : Nat) (e i : Int) (rows : List (List CV)) (b : Bool) : PState := ⟨nn 2 ++ [some (.bool false), some (.bool true), some (.vec 0 n)] ++ nn 1 ++ [some (.int .i64 e), some (.int .i64 i)] ++ nn 5 ++ [some (.bool b)] ++ nn 217, [some (tokO rows)] ++ nn 64⟩
def sqA : Code → Code
  | .seq a _ => a
  | c => c
def sqB : Code → Code
  | .seq _ b => b
  | c => c
def blB : Code → Code
  | .block _ b => b
  | c => c
noncomputable abbrev kdB : Code := blB (sqA (sqB loopKd))
theorem kd_shape : loopKd = .seq (sqA loopKd) (.seq (.block 1 kdB) (sqB (sqB loopKd))) := by kernel_rfl
end Go.Proofs.YtebieapmoaaahaaGreatDoor

/- Layer 4: the law of kinds: a round, in parts. -/
set_option linter.unusedVariables false
set_option linter.unusedSimpArgs false
namespace Go.Proofs.YtebieapmoaaahaaGreatDoor
open Go Sx
theorem kd1 (T : LxT) (O : LxO) (F : RdF) (n : Nat) (e i : Int) (A : List (List CV)) : code (ent (R := Ex × PState) Tryz.prog (tabK T O F) nolv 64 1 20) Tryz.prog {} 0 64 1 (sqA loopKd) (stKd n e i A) (endK 0 64 (fun n => hasN [2, 3, 4, 6, 7] n) (fun n => hasN [2, 3, 4, 6] n)) =
  bcond (decide (i < (n : Int))) (some (.normal, stKd n e i A)) (some (.exit 0, stKx n e A)) := by kernel_rfl
theorem kd2 (T : LxT) (O : LxO) (F : RdF) (n : Nat) (e i : Int) (A : List (List CV)) : runsC (ent (R := Ex × PState) Tryz.prog (tabK T O F) nolv 64 1 20) Tryz.prog {} 0 64 1 (endK 0 64 (fun n => hasN [2, 3, 4, 6, 7, 13] n) (fun n => hasN [2, 3, 4, 6] n)) 5 kdB (stKd n e i A) =
  chks (kdM O.de F.e O.nm n i A fun b => some (.normal, stK2 n e i A b)) (b2 i n A ++ [decide ((sR A i).length ≤ 999999)] ++ b2 i n A ++ [decide ((sR A i).length ≤ 1000000)] ++ b2 i n A ++ b2 i n A) := by kernel_rfl
theorem kd3 (T : LxT) (O : LxO) (F : RdF) (n : Nat) (e i : Int) (A : List (List CV)) : code (ent (R := Ex × PState) Tryz.prog (tabK T O F) nolv 64 1 20) Tryz.prog {} 0 64 1 (restC 5 kdB) (stK2 n e i A true) (endK 0 64 (fun n => hasN [2, 3, 4, 6, 7] n) (fun n => hasN [2, 3, 4, 6] n)) =
  chks (bcond (decide (kR A i < 1)) (some (.ret, stKx n e A)) (chks (bcond (decide (kR A i > 9)) (some (.ret, stKx n e A)) (some (.normal, stKd n e i A))) (b2 i n A))) (b2 i n A) := by kernel_rfl
theorem kd4 (T : LxT) (O : LxO) (F : RdF) (n : Nat) (e i : Int) (A : List (List CV)) : code (ent (R := Ex × PState) Tryz.prog (tabK T O F) nolv 64 1 20) Tryz.prog {} 0 64 1 (sqB (sqB loopKd)) (stKd n e i A) (endK 0 64 (fun n => hasN [2, 3, 4, 6, 7] n) (fun n => hasN [2, 3, 4, 6] n)) = some (.normal, stKd n e (W (i + 1)) A) := by kernel_rfl
theorem roundKn (T : LxT) (O : LxO) (F : RdF) (e : Int) : code (ent (R := Ex × PState) Tryz.prog (tabK T O F) nolv 64 1 20) Tryz.prog {} 0 64 1 loopKd (stKn e) (endK 0 64 (fun n => hasN [2, 3, 4, 6, 7] n) (fun n => hasN [2, 3, 4, 6] n)) = some (.exit 0, stKm e) := by kernel_rfl
end Go.Proofs.YtebieapmoaaahaaGreatDoor

/- Layer 4: the law of kinds. -/
set_option linter.unusedVariables false
set_option linter.unusedSimpArgs false
namespace Go.Proofs.YtebieapmoaaahaaGreatDoor
open Go Sx
-- mathematics
theorem at_row {L : List Tk} {i : Nat} {t : Tk} (h : L[i]? = some t) : kR (L.map Tk.row) i = t.k ∧ sR (L.map Tk.row) i = t.s ∧ aR (L.map Tk.row) i = t.a := by
  have e : Sx.rowAt (L.map Tk.row) ((i : Int)).toNat = t.row := by
    unfold Sx.rowAt; rw [Int.toNat_natCast, List.getD_eq_getElem?_getD, List.getElem?_map, h]; rfl
  unfold kR sR aR
  rw [e]
  exact ⟨rfl, rfl, rfl⟩
theorem b2_ok {L : List Tk} {i : Nat} (h : i < L.length) : ∀ b ∈ b2 (i : Int) L.length (L.map Tk.row), b = true := by
  intro b hb
  simp only [List.mem_cons, List.not_mem_nil, or_false] at hb
  rcases hb with rfl | rfl
  · exact decide_eq_true (by omega)
  · unfold rR; rw [Bool.and_true, Bool.and_true]; exact decide_eq_true (by simpa using h)
theorem all_app {a b : List Bool} (h1 : ∀ x ∈ a, x = true) (h2 : ∀ x ∈ b, x = true) : ∀ x ∈ a ++ b, x = true := fun x hx => (List.mem_append.1 hx).elim (h1 x) (h2 x)
theorem all_one {b : Bool} (h : b = true) : ∀ x ∈ [b], x = true := fun x hx => by rw [List.mem_singleton.1 hx]; exact h
/-- One round of the law goes on. -/
theorem kdM_ok {s : List UInt8} {i : Nat} {t : Tk} (h : (tokL s)[i]? = some t) (g : Bool → Rd) : kdM dcE rdE namB (tokL s).length i ((tokL s).map Tk.row) g = g true ∧ (sR ((tokL s).map Tk.row) i).length ≤ 400 ∧ ¬ kR ((tokL s).map Tk.row) i < 1 ∧ ¬ kR ((tokL s).map Tk.row) i > 9 := by
  obtain ⟨hs, hp, x, hx, rfl⟩ := tokL_one h
  have hi : i < (tokL s).length := (List.getElem?_eq_some_iff.1 h).1
  have hn := tokL_len s
  obtain ⟨h1, h2, h3, kd, h7⟩ := pcs_one _ _ (Nat.le_refl _) i x hx
  obtain ⟨ek, es, ea⟩ := at_row h
  have ek : kR ((tokL s).map Tk.row) i = x.1.k := ek
  have es : sR ((tokL s).map Tk.row) i = x.1.s := es
  have ea : aR ((tokL s).map Tk.row) i = ((s.length - x.2.length : Nat) : Int) := ea
  have hb := b2_ok hi
  have hlen : x.1.s.length ≤ 400 := by
    by_cases hk : x.1.k = 2
    · have := kd.txt hk; omega
    · have := kd.len hk; omega
  refine ⟨?_, by rw [es]; exact hlen, by rw [ek]; have := kd.lo; omega, by rw [ek]; have := kd.hi; omega⟩
  unfold kdM
  rw [ek, es]
  by_cases k1 : x.1.k = 1
  · obtain ⟨n1, n2⟩ := kd.num k1
    obtain ⟨b, r, hr⟩ : ∃ b r, x.1.s = b :: r := by
      cases hr : x.1.s with
      | nil => rw [hr] at n2; cases n2
      | cons b r => exact ⟨b, r, rfl⟩
    rw [bcT (b := x.1.k == 1) (by rw [k1]; rfl), n1, bcT (b := (0 : Int) == 0) rfl, hr, chks_true (all_app hb (all_one (decide_eq_true (by simp))))]
    have hd : byB digB b = true := by rw [hr] at n2; exact n2
    have : byteAt (b :: r) (Int.toNat 0) ≠ 45 := by
      show (b.toNat : Int) ≠ 45
      unfold byB digB at hd; rw [decide_eq_true_eq] at hd; omega
    rw [bne_iff_ne.2 this]
  rw [bcF (b := x.1.k == 1) (beq_f k1)]
  by_cases k5 : x.1.k = 5
  · rw [bcT (b := x.1.k == 5) (by rw [k5]; rfl), show (rdE x.1.s == 0) = true from kd.ref k5]
  rw [bcF (b := x.1.k == 5) (beq_f k5)]
  by_cases k6 : x.1.k = 6
  · obtain ⟨n1, n2, n3⟩ := kd.nam k6
    have n2 : (rdE x.1.s == 0) = false := n2
    rw [bcT (b := x.1.k == 6) (by rw [k6]; rfl), bcT n1, bcT (b := rdE x.1.s != 0) (by unfold bne; rw [n2]; rfl), dec_word n3]; rfl
  rw [bcF (b := x.1.k == 6) (beq_f k6)]
  by_cases k3 : x.1.k = 3
  · rw [bcT (b := x.1.k == 3) (by rw [k3]; rfl), chks_true hb, chks_true hb]
    rcases kd.tru k3 with e | e <;> rw [e] <;> rfl
  rw [bcF (b := x.1.k == 3) (beq_f k3)]
  by_cases k4 : x.1.k = 4
  · obtain ⟨n1, n2, n3⟩ := kd.fau k4
    rw [bcT (b := x.1.k == 4) (by rw [k4]; rfl), chks_true (all_app hb (all_one (decide_eq_true (by simp; omega)))), chks_true hb, show Int.toNat 0 = 0 from rfl, n1, bcT (b := (35 : Int) == 35) rfl, show (x.1.s == [35, 82, 69, 70, 33]) = false from beq_eq_false_iff_ne.2 n2]; rfl
  rw [bcF (b := x.1.k == 4) (beq_f k4)]
  by_cases k7 : x.1.k = 7
  · obtain ⟨t, ht, hnx⟩ := h7 k7
    have hL : tokL s = (tokP s).1.map (mkT s.length) := (tok_of hs hp).2.2
    have hnx' : (tokL s)[i + 1]? = some (mkT s.length (⟨8, [40], true, t⟩, 40 :: t)) := by rw [hL, List.getElem?_map]; exact congrArg _ hnx
    obtain ⟨fk, fs, fa⟩ := at_row hnx'
    have hi2 : i + 1 < (tokL s).length := (List.getElem?_eq_some_iff.1 hnx').1
    have hw : W ((i : Int) + 1) = ((i + 1 : Nat) : Int) := i64_in (by omega) (by omega)
    have hb' := b2_ok hi2
    have hln := kd.len (by omega)
    rw [ht] at hln
    rw [bcT (b := x.1.k == 7) (by rw [k7]; rfl)]
    unfold kd7
    rw [hw, bcT (b := decide (((i + 1 : Nat) : Int) < _)) (decide_eq_true (by omega)), chks_true hb', chks_true hb', chks_true (all_app (all_app hb' hb) hb), fk, fs, fa, ea, es]
    have hwr : W (((s.length - x.2.length : Nat) : Int) + (x.1.s.length : Int)) = (mkT s.length (⟨8, [40], true, t⟩, 40 :: t)).a := by
      show IntKind.i64.wrap _ = ((s.length - (40 :: t).length : Nat) : Int)
      rw [i64_in (by omega) (by omega)]; omega
    rw [hwr, bcT (b := (mkT s.length (⟨8, [40], true, t⟩, 40 :: t)).k == 8) rfl, bcT (b := (mkT s.length (⟨8, [40], true, t⟩, 40 :: t)).s == [40]) rfl, beq_self_eq_true]
  rw [bcF (b := x.1.k == 7) (beq_f k7)]
  by_cases k9 : x.1.k = 9
  · obtain ⟨n1, n2⟩ := kd.col k9
    have hw : W ((x.1.s.length : Int) - 1) = ((x.1.s.length - 1 : Nat) : Int) := by
      show IntKind.i64.wrap _ = _
      rw [i64_in (by omega) (by omega)]; omega
    rw [bcT (b := x.1.k == 9) (by rw [k9]; rfl), hw, chks_true (all_app (all_app hb hb) (all_one (decide_eq_true (by omega)))), Int.toNat_natCast, n2]; rfl
  rw [bcF (b := x.1.k == 9) (beq_f k9)]
  by_cases k8 : x.1.k = 8
  · rw [bcT (b := x.1.k == 8) (by rw [k8]; rfl), chks_true hb, chks_true hb]
    rcases kd.sgn k8 with e | e <;> rw [e] <;> rfl
  rw [bcF (b := x.1.k == 8) (beq_f k8)]
-- the loop
theorem tri_blockN {x : Code} {s s1 : AState} {id K : Nat} (h : Tri Tryz.prog x s .normal s1 K) : Tri Tryz.prog (.block id x) s .normal s1 K := fun ro w0 M E a w hro hR => by
  refine wpIn_block (wpIn_mono (h ro w0 M E a w hro hR) ?_)
  rintro e a' w' ⟨rfl, E', hle, h'⟩
  exact ⟨rfl, E', hle, h'⟩
theorem tri_seqX {a b : Code} {s s1 : AState} {ex : Ex} {K : Nat} (hne : ex ≠ .normal) (h : Tri Tryz.prog a s ex s1 K) : Tri Tryz.prog (.seq a b) s ex s1 K := fun ro w0 M E ac w hro hR => by
  refine wpIn_seq (wpIn_mono (h ro w0 M E ac w (no_left hro) hR) ?_)
  rintro e a' w' ⟨rfl, E', hle, h'⟩
  cases ex with
  | normal => exact absurd rfl hne
  | exit id => exact ⟨rfl, E', hle, h'⟩
  | ret => exact ⟨rfl, E', hle, h'⟩
theorem tabK_ok : TabOK Tryz.prog (tabK lxt lxo rdF) := .cons examples_ok (.cons tokens_ok (.cons rdH_ok tabX_ok))
theorem no_loops {x : Code} {K : Nat} : LoopsOK Tryz.prog {} K x := fun x hx id e h1 h2 => by cases h2
/-- So many statements, then the rest, in parts. -/
theorem tri_cut {H : Hd (Ex × PState)} (hH : HOK Tryz.prog H) {K NF m n : Nat} {c : Code} {kn kx : Nat → Bool} {s st : PState} {ex : Ex} {s2 : AState}
    (h1 : runsC H Tryz.prog {} K NF m (endK K NF kn kx) n c s = some (.normal, st)) (h2 : Tri Tryz.prog (restC n c) st.toA ex s2 K) : Tri Tryz.prog c s.toA ex s2 K := by
  rcases runsC_sound hH n c no_loops s h1 with ⟨ex1, s1, hne, t1, hk⟩ | ⟨s1, t1, hk⟩
  · exfalso
    cases ex1 with
    | normal => exact hne rfl
    | exit id => simp [endK] at hk
    | ret => simp [endK] at hk
  · simp only [endK, Option.map_eq_some_iff, Prod.mk.injEq] at hk
    obtain ⟨t, hc, _, rfl⟩ := hk
    exact t1 _ _ (Tri.preRen hc h2)
theorem loopKd_ok (s : List UInt8) (e : Int) : Tri Tryz.prog (.loop loopKd) (stKd (tokL s).length e 0 ((tokL s).map Tk.row)).toA (.exit 0) (stKx (tokL s).length e ((tokL s).map Tk.row)).toA 0 := by
  have hH : HOK Tryz.prog (ent (R := Ex × PState) Tryz.prog (tabK lxt lxo rdF) nolv 64 1 20) := ent_sound (NF := 64) (m := 1) tabK_ok host nolv_ok 20
  have hn := tokL_len s
  have key := tri_up (P := Tryz.prog) (body := loopKd) (ex := .exit 0) (out := (stKx (tokL s).length e ((tokL s).map Tk.row)).toA) (K := 0) (fun i => (stKd (tokL s).length e (i : Int) ((tokL s).map Tk.row)).toA) (by simp) (tokL s).length (fun i hi => ?_) ?_ 0 (Nat.zero_le _)
  · exact key
  · have hb := b2_ok hi
    obtain ⟨m1, m2, m3, m4⟩ := kdM_ok (List.getElem?_eq_getElem hi) (fun b => some (.normal, stK2 (tokL s).length e i ((tokL s).map Tk.row) b))
    rw [kd_shape]
    have h1 := kd1 lxt lxo rdF (tokL s).length e i ((tokL s).map Tk.row)
    rw [bcT (b := decide ((i : Int) < _)) (decide_eq_true (by omega))] at h1
    have h2 := kd2 lxt lxo rdF (tokL s).length e i ((tokL s).map Tk.row)
    have h2 : _ = chks (kdM dcE rdE namB _ _ _ _) _ := h2
    rw [chks_true (all_app (all_app (all_app (all_app (all_app hb (all_one (decide_eq_true (by omega)))) hb) (all_one (decide_eq_true (by omega)))) hb) hb), m1] at h2
    have h3 := kd3 lxt lxo rdF (tokL s).length e i ((tokL s).map Tk.row)
    rw [chks_true hb, chks_true hb, bcF (decide_eq_false m3), bcF (decide_eq_false m4)] at h3
    have h4 := kd4 lxt lxo rdF (tokL s).length e i ((tokL s).map Tk.row)
    have hw : W ((i : Int) + 1) = ((i + 1 : Nat) : Int) := i64_in (by omega) (by omega)
    rw [hw] at h4
    exact tri_seq (round_sound hH no_loops h1) (tri_seq (tri_blockN (tri_cut hH h2 (round_sound hH no_loops h3))) (round_sound hH no_loops h4))
  · have h1 := kd1 lxt lxo rdF (tokL s).length e (tokL s).length ((tokL s).map Tk.row)
    rw [bcF (b := decide (((tokL s).length : Int) < _)) (decide_eq_false (by omega))] at h1
    rw [kd_shape]
    exact tri_seqX (by simp) (round_sound hH no_loops h1)
theorem loopKn_ok (e : Int) : Tri Tryz.prog (.loop loopKd) (stKn e).toA (.exit 0) (stKm e).toA 0 :=
  loop_rounds (ι := Unit) (ent_sound (NF := 64) (m := 1) tabK_ok host nolv_ok 20) (lv := {}) (NF := 64) (m := 1) no_loops (fun n => hasN [2, 3, 4, 6, 7] n) (fun n => hasN [2, 3, 4, 6] n)
    (fun _ => stKn e) (fun _ => 0) (fun _ => (.exit 0, stKm e)) (fun _ => .inr (roundKn lxt lxo rdF e)) (fun _ => by simp) ()
-- the law
def eNil (j : Nat) (e1 e2 : Nat → PState → LAns) : Nat → PState → LAns := fun K st => match st.slots.getD j none with
  | some .nilslice => e1 K st
  | _ => e2 K st
theorem eNil_ok {x : Code} {j : Nat} {e1 e2 : Nat → PState → LAns} (h1 : ∀ K t, LAnsOK Tryz.prog x K t (e1 K t)) (h2 : ∀ K t, LAnsOK Tryz.prog x K t (e2 K t)) (K : Nat) (t : PState) : LAnsOK Tryz.prog x K t (eNil j e1 e2 K t) := by
  unfold eNil
  split
  · exact h1 K t
  · exact h2 K t
noncomputable def lvKd (T : LxT) (a : List UInt8) : FuncId → Lv := lvOf 7 (fun _ => some [2, 3, 4, 6, 7]) (oneL 6 (eNil 4 (eAt 0 (stKn (T.e a)) (.out (.exit 0) (stKm (T.e a)))) (eAt 0 (stKd (T.L a).length (T.e a) 0 ((T.L a).map Tk.row)) (.out (.exit 0) (stKx (T.L a).length (T.e a) ((T.L a).map Tk.row))))))
theorem lvKd_ok (a : List UInt8) : LvOK Tryz.prog (lvKd lxt a) := lvOne_ok (x := loopKd) Tryz.func7 (by kernel_rfl) (eNil_ok (eAt_ok (loopKn_ok _)) (eAt_ok (loopKd_ok a _)))
theorem kinds_comes (T : LxT) (s : List UInt8) : Comes (tabK T lxo rdF) (lvKd T (cutTo 100 s)) 7 [.str s] [] (chkA [cutB 100 s] (.br (T.L (cutTo 100 s)).isEmpty
    (.br (eqSt (stKn (T.e (cutTo 100 s))) (stKn (T.e (cutTo 100 s)))) (.br (T.e (cutTo 100 s) == 0) (.ret (.bool true) []) (.ret (.bool true) [])) .fail)
    (.br (eqSt (stKd (T.L (cutTo 100 s)).length (T.e (cutTo 100 s)) 0 ((T.L (cutTo 100 s)).map Tk.row)) (stKd (T.L (cutTo 100 s)).length (T.e (cutTo 100 s)) 0 ((T.L (cutTo 100 s)).map Tk.row))) (.br (T.e (cutTo 100 s) == 0) (.ret (.bool true) []) (.ret (.bool (((T.L (cutTo 100 s)).length : Int) == 0)) [])) .fail))) := by unfold Comes; kernel_rfl
theorem kinds_law (s : List UInt8) : Meets Tryz.prog 7 [.str s] [] (.bool true) [] := by
  have h := kinds_comes lxt s
  show Meets _ 7 _ (([] : List PObj).map PObj.toA) (.bool true) (([] : List PObj).map PObj.toA)
  refine meets_ent tabK_ok host (h.trans ?_) (lvKd_ok _)
  rw [chkA_run (all_one (upTo_ok (by decide) s).1)]
  generalize cutTo 100 s = a
  simp only [Ans.run, lxt]
  cases he : (tokL a).isEmpty with
  | true =>
    rw [bcT rfl, bcT (eqSt_refl _)]
    cases tokE a == 0 <;> rfl
  | false =>
    have h0 : tokE a = 0 := by
      unfold tokL at he
      unfold tokE
      by_cases hs : a.length > 200
      · rw [if_pos hs] at he; cases he
      · rw [if_neg hs] at he ⊢
        cases hp : (tokP a).2 with
        | none => rfl
        | some l => rw [hp] at he; cases he
    rw [bcF rfl, bcT (eqSt_refl _), bcT (b := tokE a == 0) (by rw [h0]; rfl)]; rfl
end Go.Proofs.YtebieapmoaaahaaGreatDoor

/- Layer 4: the law of places: rounds, in parts. -/
set_option linter.unusedVariables false
set_option linter.unusedSimpArgs false
namespace Go.Proofs.YtebieapmoaaahaaGreatDoor
open Go Sx
def tabP (T : LxT) : Tab := (10, eTrue) :: (17, eTok T) :: tab0
theorem tabP_ok : TabOK Tryz.prog (tabP lxt) := .cons examples_ok (.cons tokens_ok tab0_ok)
noncomputable abbrev loopPo : Code := (loopBodies (bodyOf Tryz.f6)).headD .skip
noncomputable abbrev plB : Code := blB (sqA (sqB loopPo))
def lpB : Code → Code
  | .loop b => b
  | c => c
noncomputable abbrev loopPi : Code := lpB (blB (sqB (sqA plB)))
theorem pl_shape : loopPo = .seq (sqA loopPo) (.seq (.block 1 plB) (sqB (sqB loopPo))) := by kernel_rfl
theorem pl_shape2 : plB = .seq (.seq (sqA (sqA plB)) (.block 2 (.loop loopPi))) (sqB plB) := by kernel_rfl
def stPl (n : Nat) (a : List UInt8) (A : List (List CV)) (e i : Int) : PState := ⟨nn 2 ++ [some (.bool false), some (.bool true), some (.str a), some (.vec 0 n)] ++ nn 5 ++ [some (.int .i64 e), some (.int .i64 i)] ++ nn 144, [some (tokO A)] ++ nn 64⟩
def stPi (n : Nat) (a : List UInt8) (A : List (List CV)) (e i k : Int) : PState := ⟨nn 2 ++ [some (.bool false), some (.bool true), some (.str a), some (.vec 0 n)] ++ nn 5 ++ [some (.int .i64 e), some (.int .i64 i), some (.int .i64 k)] ++ nn 143, [some (tokO A)] ++ nn 64⟩
def stPx : PState := ⟨nn 2 ++ [some (.bool false), some (.bool true)] ++ nn 153, nn 64⟩
def stPn (a : List UInt8) : PState := ⟨nn 2 ++ [some (.bool false), some (.bool true), some (.str a), some .nilslice] ++ nn 5 ++ [some (.int .i64 0), some (.int .i64 0)] ++ nn 144, nn 64⟩
section
variable (T : LxT) (n : Nat) (a : List UInt8) (A : List (List CV)) (e i k : Int)
theorem pl1 : code (ent (R := Ex × PState) Tryz.prog (tabP T) nolv 64 1 20) Tryz.prog {} 0 64 1 (sqA loopPo) (stPl n a A e i) (endK 0 64 (fun n => hasN [2, 3, 4, 5, 11, 12] n) (fun n => hasN [2, 3] n)) =
  bcond (decide (i < (n : Int))) (some (.normal, stPl n a A e i)) (some (.exit 0, stPx)) := by kernel_rfl
theorem pl2 : code (ent (R := Ex × PState) Tryz.prog (tabP T) nolv 64 1 20) Tryz.prog {} 0 64 1 (sqA (sqA plB)) (stPl n a A e i) (endK 0 64 (fun n => hasN [2, 3, 4, 5, 11, 12, 13] n) (fun n => hasN [2, 3] n)) = some (.normal, stPi n a A e i e) := by kernel_rfl
theorem pl3 : code (ent (R := Ex × PState) Tryz.prog (tabP T) nolv 64 1 20) Tryz.prog {} 0 64 1 loopPi (stPi n a A e i k) (endK 0 64 (fun n => hasN [2, 3, 4, 5, 11, 12, 13] n) (fun n => hasN [2, 3, 4, 5, 11, 12] n)) =
  chks (bcond (decide (k < aR A i)) (bcond (decide (k ≥ (a.length : Int))) (some (.ret, stPl n a A e i)) (chks (bcond (byteAt a k.toNat != 32) (some (.ret, stPl n a A e i)) (some (.normal, stPi n a A e i (W (k + 1))))) [decide (0 ≤ k ∧ k.toNat < a.length)])) (some (.exit 2, stPl n a A e i))) (b2 i n A) := by kernel_rfl
def plX (n : Nat) (a : List UInt8) (A : List (List CV)) (i x : Int) : Rd :=
  chks (bcond (kR A i != 2) (chks (bcond (decide (x < W (aR A i + ((sR A i).length : Int)))) (some (.ret, stPx)) (some (.normal, stPl n a A (W (aR A i + ((sR A i).length : Int))) i))) (b2 i n A ++ b2 i n A)) (bcond (decide (x < x)) (some (.ret, stPx)) (some (.normal, stPl n a A x i)))) (b2 i n A ++ b2 i n A)
theorem pl4 : code (ent (R := Ex × PState) Tryz.prog (tabP T) nolv 64 1 20) Tryz.prog {} 0 64 1 (sqB plB) (stPl n a A e i) (endK 0 64 (fun n => hasN [2, 3, 4, 5, 11, 12] n) (fun n => hasN [2, 3] n)) =
  chks (bcond (decide (aR A i < e)) (some (.ret, stPx)) (chks (bcond (decide (aR A i ≥ (a.length : Int))) (some (.ret, stPx)) (bcond (decide (W (i + 1) < (n : Int))) (chks (plX n a A i (aR A (W (i + 1)))) (b2 (W (i + 1)) n A)) (plX n a A i (a.length : Int)))) (b2 i n A))) (b2 i n A) := by kernel_rfl
theorem pl5 : code (ent (R := Ex × PState) Tryz.prog (tabP T) nolv 64 1 20) Tryz.prog {} 0 64 1 (sqB (sqB loopPo)) (stPl n a A e i) (endK 0 64 (fun n => hasN [2, 3, 4, 5, 11, 12] n) (fun n => hasN [2, 3] n)) = some (.normal, stPl n a A e (W (i + 1))) := by kernel_rfl
theorem pl6 : code (ent (R := Ex × PState) Tryz.prog (tabP T) nolv 64 1 20) Tryz.prog {} 0 64 1 loopPo (stPn a) (endK 0 64 (fun n => hasN [2, 3, 4, 5, 11, 12] n) (fun n => hasN [2, 3] n)) = some (.exit 0, stPx) := by kernel_rfl
end
end Go.Proofs.YtebieapmoaaahaaGreatDoor

/- Layer 4: where pieces stand: plain mathematics. -/
set_option linter.unusedVariables false
set_option linter.unusedSimpArgs false
namespace Go.Proofs.YtebieapmoaaahaaGreatDoor
open Go Sx
theorem dwS (p : UInt8 → Bool) (l : List UInt8) : l.dropWhile p <:+ l := List.dropWhile_suffix p
theorem drS (n : Nat) (l : List UInt8) : l.drop n <:+ l := List.drop_suffix n l
theorem bcS {b : Bool} {x y l : List UInt8} (h1 : x <:+ l) (h2 : y <:+ l) : bcond b x y <:+ l := by cases b <;> assumption
theorem p1S (l : List UInt8) : lxo.p1 l <:+ l := bcS (drS 1 l) (List.suffix_refl l)
theorem blS (c : Int) (l : List UInt8) : betL c l <:+ l := by
  unfold betL; split
  · exact List.suffix_refl l
  · exact drS _ l
theorem tkS (n : Nat) (l : List UInt8) : List.take (l.length - n) (List.drop n l) <:+ l := by
  rw [List.take_of_length_le (by simp)]; exact drS n l
theorem behS' (w r : List UInt8) : (behP w r).r <:+ r := by
  show (cut1 r).dropWhile _ <:+ r
  rw [cut1_eq]
  exact (dwS _ _).trans (drS 1 r)
theorem cocS' (w r : List UInt8) : (cocP w r).r <:+ r := by
  unfold cocP
  cases cocB r with
  | false => exact List.suffix_refl r
  | true =>
    show bcond (decide (ixC 93 (cut1 r) ≥ 0)) ((cut1 r).drop _) [] <:+ r
    rw [cut1_eq]
    exact bcS ((drS _ _).trans (drS 1 r)) (List.nil_suffix)
theorem plnS (w r : List UInt8) : (plnP w r).r <:+ r := by
  unfold plnP
  cases refB w <;> cases truB w <;> exact List.suffix_refl r
theorem worS (w r : List UInt8) : (worQ w r).r <:+ r := by
  unfold worQ
  cases firI r == 33 with
  | true => exact behS' w r
  | false =>
    cases firI r == 40 with
    | true => cases decide (w.length ≤ 30) && !conB 36 w with
      | true => exact List.suffix_refl r
      | false => exact plnS w r
    | false => cases firI r == 91 && namB w with
      | true => exact cocS' w r
      | false => exact plnS w r
theorem sgsS (l : List UInt8) : (sgsP l).r <:+ l := by
  unfold sgsP
  cases decide (2 ≤ l.length) && sgL.contains (l.take 2) with
  | true => exact tkS _ l
  | false => cases decide (1 ≤ l.length) && sgL.contains (l.take 1) with
    | true => exact tkS _ l
    | false => exact List.suffix_refl l
/-- What is left is the end of what was. -/
theorem pc_suf (l : List UInt8) : (pcF l).r <:+ l := by
  unfold pcF
  cases digB (firI l) with
  | true =>
    show (numP l).r <:+ l
    unfold numP
    cases lxo.p2 (lxo.dp digB l) && digB (firI (lxo.p1 (lxo.dp digB l))) with
    | true => exact ((dwS _ _).trans (p1S _)).trans (dwS _ l)
    | false => exact dwS _ l
  | false => cases firI l == 34 with
    | true =>
      show (txtP l).r <:+ l
      unfold txtP
      cases betB 34 l <;> exact blS 34 l
    | false => cases firI l == 35 with
      | true =>
        show (fauP l).r <:+ l
        unfold fauP
        split
        · exact List.suffix_refl l
        · exact tkS _ l
      | false => cases firI l == 39 with
        | true =>
          show (quoP l).r <:+ l
          unfold quoP
          cases betB 39 l && firI (betL 39 l) == 33 with
          | true => exact (behS' _ _).trans (blS 39 l)
          | false => exact blS 39 l
        | false => cases fstB (firI l) with
          | true => exact (worS _ _).trans (dwS _ l)
          | false => exact sgsS l
theorem blD_suf (l : List UInt8) : blD l <:+ l := dwS _ l
theorem pcs_err : ∀ (n : Nat) (l x : List UInt8), (pcs n l).2 = some x → x <:+ l ∧ hdB (byB blkB) x = false
  | 0, l, x, h => by cases h
  | n + 1, l, x, h => by
    rw [pcs_succ] at h
    by_cases he : blD l = []
    · rw [if_pos he] at h; cases h
    · rw [if_neg he] at h
      by_cases ho : (pcF (blD l)).ok = true
      · rw [if_pos ho] at h
        have := pcs_err n _ x h
        exact ⟨this.1.trans ((pc_suf _).trans (blD_suf l)), this.2⟩
      · rw [if_neg ho] at h; cases h
        refine ⟨blD_suf l, ?_⟩
        have : ∀ m : List UInt8, hdB (byB blkB) (m.dropWhile (byB blkB)) = false := by
          intro m
          induction m with
          | nil => rfl
          | cons b m ih =>
            rw [List.dropWhile_cons]
            cases hb : byB blkB b with
            | true => simpa using ih
            | false => exact hb
        exact this l
theorem pcs_chain : ∀ (n : Nat) (l : List UInt8), l.length ≤ n → ∀ (i : Nat) (x : Pc × List UInt8), (pcs n l).1[i]? = some x → ∃ l', x.2 = blD l' ∧ l' <:+ l ∧ (i = 0 → l' = l) ∧ (∀ j y, i = j + 1 → (pcs n l).1[j]? = some y → l' = y.1.r)
  | 0, l, hn, i, x, h => by simp [pcs] at h
  | n + 1, l, hn, i, x, h => by
    have hb := blD_le l
    rw [pcs_succ] at h ⊢
    by_cases he : blD l = []
    · rw [if_pos he] at h; simp at h
    · rw [if_neg he] at h ⊢
      by_cases ho : (pcF (blD l)).ok = true
      · rw [if_pos ho] at h ⊢
        have hl := pc_less ho
        cases i with
        | zero =>
          have h : (pcF (blD l), blD l) = x := by simpa using h
          subst h
          exact ⟨l, rfl, List.suffix_refl l, fun _ => rfl, fun j y hj => by omega⟩
        | succ i =>
          obtain ⟨l', h1, h2, h3, h4⟩ := pcs_chain n (pcF (blD l)).r (by omega) i x h
          refine ⟨l', h1, h2.trans ((pc_suf _).trans (blD_suf l)), fun e => by omega, fun j y hj hy => ?_⟩
          obtain rfl : j = i := by omega
          cases j with
          | zero =>
            have hy : (pcF (blD l), blD l) = y := by simpa using hy
            subst hy
            exact h3 rfl
          | succ j => exact h4 j y rfl hy
      · rw [if_neg ho] at h; simp at h
theorem byteAt_suf {x a : List UInt8} (h : x <:+ a) (j : Nat) : byteAt a (a.length - x.length + j) = byteAt x j := by
  obtain ⟨p, rfl⟩ := h
  unfold byteAt
  rw [List.getD_eq_getElem?_getD, List.getD_eq_getElem?_getD, List.length_append, List.getElem?_append_right (by omega)]
  congr 4; omega
theorem byteAt_blank : ∀ (l : List UInt8) (j : Nat), j < l.length - (blD l).length → byteAt l j = 32
  | [], j, h => by simp at h
  | b :: l, j, h => by
    unfold blD at h
    rw [List.dropWhile_cons] at h
    cases hb : byB blkB b with
    | false => rw [hb] at h; simp at h
    | true =>
      rw [hb] at h
      cases j with
      | zero =>
        have : (b.toNat : Int) = 32 := beq_iff_eq.1 hb
        exact this
      | succ j => exact byteAt_blank l j (by unfold blD; simp only [if_true, List.length_cons] at h; omega)
def nxE (s : List UInt8) (i : Nat) : Nat := match (tokP s).1[i + 1]? with | some y => s.length - y.2.length | none => s.length
/-- How far a text is gone through, ahead of a piece. -/
def endE (s : List UInt8) : Nat → Nat
  | 0 => 0
  | i + 1 => match (tokP s).1[i]? with
    | some x => if x.1.k = 2 then nxE s i else s.length - x.2.length + x.1.s.length
    | none => 0
theorem endE_ok {s : List UInt8} {i : Nat} {x : Pc × List UInt8} (h : (tokP s).1[i]? = some x) : endE s i ≤ s.length - x.2.length ∧ s.length - x.2.length < s.length ∧ x.2.length ≤ s.length ∧ (∀ k, endE s i ≤ k → k < s.length - x.2.length → byteAt s k = 32) ∧ endE s (i + 1) ≤ nxE s i ∧ nxE s i ≤ s.length := by
  obtain ⟨h1, h2, h3, kd, _⟩ := pcs_one _ _ (Nat.le_refl _) i x h
  have hne : 1 ≤ x.2.length := by
    have := pc_less (l := x.2) (by rw [← h1]; exact h2)
    omega
  obtain ⟨l', c1, c2, c3, c4⟩ := pcs_chain _ _ (Nat.le_refl _) i x h
  have hle := c2.length_le
  have hbl : x.2.length ≤ l'.length := by rw [c1]; exact blD_le l'
  have hnx : nxE s i ≤ s.length := by unfold nxE; split <;> omega
  have key : endE s i = s.length - l'.length ∨ endE s i = s.length - x.2.length := by
    cases i with
    | zero => left; rw [c3 rfl]; show 0 = _; omega
    | succ j =>
      have hj : j < (tokP s).1.length := by
        have := (List.getElem?_eq_some_iff.1 h).1; omega
      have hy : (tokP s).1[j]? = some (tokP s).1[j] := List.getElem?_eq_getElem hj
      obtain ⟨y1, y2, y3, yk, _⟩ := pcs_one _ _ (Nat.le_refl _) j _ hy
      have hr := c4 j _ rfl hy
      show (match (tokP s).1[j]? with | some x => if x.1.k = 2 then nxE s j else s.length - x.2.length + x.1.s.length | none => 0) = _ ∨ _
      rw [hy]
      simp only
      by_cases k2 : (tokP s).1[j].1.k = 2
      · right
        show (match (tokP s).1[j]? with | some x => if x.1.k = 2 then nxE s j else s.length - x.2.length + x.1.s.length | none => 0) = _
        rw [hy]
        simp only
        rw [if_pos k2]
        unfold nxE
        rw [h]
      · left
        have := yk.len k2
        rw [if_neg k2, hr]; omega
  refine ⟨by omega, by omega, by omega, fun k k1 k2 => ?_, ?_, hnx⟩
  · rcases key with e | e
    · obtain ⟨j, rfl⟩ : ∃ j, k = s.length - l'.length + j := ⟨k - (s.length - l'.length), by omega⟩
      rw [byteAt_suf c2]
      exact byteAt_blank l' j (by rw [← c1]; omega)
    · omega
  · show (match (tokP s).1[i]? with | some x => if x.1.k = 2 then nxE s i else s.length - x.2.length + x.1.s.length | none => 0) ≤ _
    rw [h]
    simp only
    by_cases k2 : x.1.k = 2
    · rw [if_pos k2]; exact Nat.le_refl _
    · rw [if_neg k2]
      have := kd.len k2
      unfold nxE
      split
      · rename_i y hy
        obtain ⟨m', d1, d2, d3, d4⟩ := pcs_chain _ _ (Nat.le_refl _) (i + 1) y hy
        have hr := d4 i x rfl h
        have : y.2.length ≤ x.1.r.length := by rw [d1, hr]; exact blD_le _
        omega
      · omega
end Go.Proofs.YtebieapmoaaahaaGreatDoor

/- Layer 4: the law of places. -/
set_option linter.unusedVariables false
set_option linter.unusedSimpArgs false
namespace Go.Proofs.YtebieapmoaaahaaGreatDoor
open Go Sx
theorem endE_succ {s : List UInt8} {i : Nat} {x : Pc × List UInt8} (h : (tokP s).1[i]? = some x) : endE s (i + 1) = if x.1.k = 2 then nxE s i else s.length - x.2.length + x.1.s.length := by
  show (match (tokP s).1[i]? with | some x => if x.1.k = 2 then nxE s i else s.length - x.2.length + x.1.s.length | none => 0) = _
  rw [h]
theorem plX_ok {s : List UInt8} {i : Nat} {x : Pc × List UInt8} (hs : s.length ≤ 200) (h : (tokP s).1[i]? = some x) {n : Nat} {A : List (List CV)} (hb : ∀ b ∈ b2 (i : Int) n A, b = true) (ek : kR A i = x.1.k) (es : sR A i = x.1.s) (ea : aR A i = ((s.length - x.2.length : Nat) : Int)) :
    plX n s A i ((nxE s i : Nat) : Int) = some (.normal, stPl n s A (endE s (i + 1) : Nat) i) := by
  obtain ⟨e1, e2, e3, e4, e5, e6⟩ := endE_ok h
  obtain ⟨h1, h2, h3, kd, _⟩ := pcs_one _ _ (Nat.le_refl _) i x h
  unfold plX
  rw [chks_true (all_app hb hb), chks_true (all_app hb hb), ek, es, ea, endE_succ h]
  by_cases k2 : x.1.k = 2
  · rw [bcF (b := x.1.k != 2) (by rw [k2]; rfl), if_pos k2, bcF (b := decide _) (decide_eq_false (by omega))]
  · have := kd.len k2
    have hw : W (((s.length - x.2.length : Nat) : Int) + (x.1.s.length : Int)) = ((s.length - x.2.length + x.1.s.length : Nat) : Int) := by
      show IntKind.i64.wrap _ = _
      rw [i64_in (by omega) (by omega)]; omega
    rw [endE_succ h, if_neg k2] at e5
    rw [bcT (b := x.1.k != 2) (bne_iff_ne.2 k2), if_neg k2, hw, bcF (b := decide _) (decide_eq_false (by omega))]
theorem loopPo_ok {s : List UInt8} (hs : s.length ≤ 200) (hp : (tokP s).2 = none) : Tri Tryz.prog (.loop loopPo) (stPl (tokL s).length s ((tokL s).map Tk.row) 0 0).toA (.exit 0) stPx.toA 0 := by
  have hH : HOK Tryz.prog (ent (R := Ex × PState) Tryz.prog (tabP lxt) nolv 64 1 20) := ent_sound (NF := 64) (m := 1) tabP_ok host nolv_ok 20
  have hn := tokL_len s
  have hL : tokL s = (tokP s).1.map (mkT s.length) := (tok_of hs hp).2.2
  have hlen : (tokL s).length = (tokP s).1.length := by rw [hL, List.length_map]
  have row : ∀ {i : Nat} {x : Pc × List UInt8}, (tokP s).1[i]? = some x → kR ((tokL s).map Tk.row) i = x.1.k ∧ sR ((tokL s).map Tk.row) i = x.1.s ∧ aR ((tokL s).map Tk.row) i = ((s.length - x.2.length : Nat) : Int) := fun {i x} hx => by
    have : (tokL s)[i]? = some (mkT s.length x) := by rw [hL, List.getElem?_map, hx]; rfl
    exact at_row this
  have key := tri_up (P := Tryz.prog) (body := loopPo) (ex := .exit 0) (out := stPx.toA) (K := 0) (fun i => (stPl (tokL s).length s ((tokL s).map Tk.row) (endE s i : Nat) (i : Int)).toA) (by simp) (tokL s).length (fun i hi => ?_) ?_ 0 (Nat.zero_le _)
  · exact key
  · have hb := b2_ok hi
    have hx : (tokP s).1[i]? = some ((tokP s).1[i]'(by omega)) := List.getElem?_eq_getElem (by omega)
    generalize (tokP s).1[i]'(by omega) = x at hx
    obtain ⟨ek, es, ea⟩ := row hx
    obtain ⟨e1, e2, e3, e4, e5, e6⟩ := endE_ok hx
    have h1 := pl1 lxt (tokL s).length s ((tokL s).map Tk.row) (endE s i : Nat) i
    rw [bcT (b := decide ((i : Int) < _)) (decide_eq_true (by omega))] at h1
    have h2 := pl2 lxt (tokL s).length s ((tokL s).map Tk.row) (endE s i : Nat) i
    have h5 := pl5 lxt (tokL s).length s ((tokL s).map Tk.row) (endE s (i + 1) : Nat) i
    rw [show W ((i : Int) + 1) = ((i + 1 : Nat) : Int) from i64_in (by omega) (by omega)] at h5
    have hin : Tri Tryz.prog (.loop loopPi) (stPi (tokL s).length s ((tokL s).map Tk.row) (endE s i : Nat) i (endE s i : Nat)).toA (.exit 2) (stPl (tokL s).length s ((tokL s).map Tk.row) (endE s i : Nat) i).toA 0 := by
      have kin := tri_up (P := Tryz.prog) (body := loopPi) (ex := .exit 2) (out := (stPl (tokL s).length s ((tokL s).map Tk.row) (endE s i : Nat) i).toA) (K := 0) (fun j => (stPi (tokL s).length s ((tokL s).map Tk.row) (endE s i : Nat) i ((endE s i + j : Nat) : Int)).toA) (by simp) (s.length - x.2.length - endE s i) (fun j hj => ?_) ?_ 0 (Nat.zero_le _)
      · exact kin
      · have h3 := pl3 lxt (tokL s).length s ((tokL s).map Tk.row) (endE s i : Nat) i ((endE s i + j : Nat) : Int)
        rw [chks_true hb, ea, bcT (b := decide _) (decide_eq_true (by omega)), bcF (b := decide _) (decide_eq_false (by omega)), chks_true (all_one (decide_eq_true (by omega))), Int.toNat_natCast, e4 (endE s i + j) (by omega) (by omega), bcF (b := (32 : Int) != 32) rfl,
          show W (((endE s i + j : Nat) : Int) + 1) = ((endE s i + (j + 1) : Nat) : Int) from by show IntKind.i64.wrap _ = _; rw [i64_in (by omega) (by omega)]; omega] at h3
        exact round_sound hH no_loops h3
      · have h3 := pl3 lxt (tokL s).length s ((tokL s).map Tk.row) (endE s i : Nat) i ((endE s i + (s.length - x.2.length - endE s i) : Nat) : Int)
        rw [chks_true hb, ea, bcF (b := decide _) (decide_eq_false (by omega))] at h3
        exact round_sound hH no_loops h3
    have h4 := pl4 lxt (tokL s).length s ((tokL s).map Tk.row) (endE s i : Nat) i
    have hX := plX_ok hs hx hb ek es ea
    rw [chks_true hb, ea, bcF (b := decide _) (decide_eq_false (by omega)), chks_true hb, bcF (b := decide _) (decide_eq_false (by omega)), show W ((i : Int) + 1) = ((i + 1 : Nat) : Int) from i64_in (by omega) (by omega)] at h4
    have tail : bcond (decide (((i + 1 : Nat) : Int) < ((tokL s).length : Int))) (chks (plX (tokL s).length s ((tokL s).map Tk.row) i (aR ((tokL s).map Tk.row) ((i + 1 : Nat) : Int))) (b2 ((i + 1 : Nat) : Int) (tokL s).length ((tokL s).map Tk.row))) (plX (tokL s).length s ((tokL s).map Tk.row) i (s.length : Int)) = some (Ex.normal, stPl (tokL s).length s ((tokL s).map Tk.row) (endE s (i + 1) : Nat) i) := by
      by_cases hi1 : i + 1 < (tokL s).length
      · have hy : (tokP s).1[i + 1]? = some ((tokP s).1[i + 1]'(by omega)) := List.getElem?_eq_getElem (by omega)
        generalize (tokP s).1[i + 1]'(by omega) = y at hy
        have hnx : nxE s i = s.length - y.2.length := by unfold nxE; rw [hy]
        rw [bcT (b := decide _) (decide_eq_true (by omega)), chks_true (b2_ok hi1), (row hy).2.2, ← hnx]
        exact hX
      · have hnx : nxE s i = s.length := by unfold nxE; rw [List.getElem?_eq_none (by omega)]
        rw [hnx] at hX
        rw [bcF (b := decide _) (decide_eq_false (by omega))]
        exact hX
    have h4' := h4.trans tail
    have tB := tri_seq (tri_seq (round_sound hH no_loops h2) (tri_block hin)) (round_sound hH no_loops h4')
    rw [← pl_shape2] at tB
    rw [pl_shape]
    exact tri_seq (round_sound hH no_loops h1) (tri_seq (tri_blockN tB) (round_sound hH no_loops h5))
  · have h1 := pl1 lxt (tokL s).length s ((tokL s).map Tk.row) (endE s (tokL s).length : Nat) (tokL s).length
    rw [bcF (b := decide (((tokL s).length : Int) < _)) (decide_eq_false (by omega))] at h1
    rw [pl_shape]
    exact tri_seqX (by simp) (round_sound hH no_loops h1)
theorem loopPn_ok (a : List UInt8) : Tri Tryz.prog (.loop loopPo) (stPn a).toA (.exit 0) stPx.toA 0 :=
  loop_rounds (ι := Unit) (ent_sound (NF := 64) (m := 1) tabP_ok host nolv_ok 20) (lv := {}) (NF := 64) (m := 1) no_loops (fun n => hasN [2, 3, 4, 5, 11, 12] n) (fun n => hasN [2, 3] n)
    (fun _ => stPn a) (fun _ => 0) (fun _ => (.exit 0, stPx)) (fun _ => .inr (pl6 lxt a)) (fun _ => by simp) ()
-- the law
noncomputable def lvPl (T : LxT) (a : List UInt8) (b : Bool) : FuncId → Lv := lvOf 6 (fun _ => some [2, 3, 4, 5, 11, 12]) (oneL 13 (eNil 5 (eAt 0 (stPn a) (.out (.exit 0) stPx)) (eAt 0 (stPl (T.L a).length a ((T.L a).map Tk.row) 0 0) (.chk b (.out (.exit 0) stPx)))))
def plOk (a : List UInt8) : Bool := decide (a.length ≤ 200) && (tokP a).2.isNone
theorem lvPl_ok (a : List UInt8) : LvOK Tryz.prog (lvPl lxt a (plOk a)) := lvOf_ok Tryz.func6 fun y hy id e' hid he => by
  rw [show loopBodies (bodyOf Tryz.f6) = [loopPo, loopPi] by kernel_rfl] at hy
  obtain ⟨rfl, rfl⟩ := oneL_some he
  rcases List.mem_cons.1 hy with rfl | hy
  · refine eNil_ok (eAt_ok (loopPn_ok a)) (eAt_ok ?_)
    refine ⟨fun h => ?_, fun _ => trivial⟩
    unfold plOk at h
    simp only [Bool.and_eq_true, decide_eq_true_eq, Option.isNone_iff_eq_none] at h
    exact loopPo_ok h.1 h.2
  · obtain rfl := List.mem_singleton.1 hy
    rw [show headReg loopPi = some 16 by kernel_rfl] at hid
    cases hid
def noR : Ans := .ret (.bool false) []
def yesR : Ans := .ret (.bool true) []
def plE2 (T : LxT) (a b : List UInt8) : Ans := .br (T.e a == 40) (.br (T.e b == 0) yesR (.ret (.bool (decide (T.n b < T.n a))) [])) noR
def plE1 (T : LxT) (a : List UInt8) : Ans := chkA [decide (0 ≤ T.n a ∧ (T.n a).toNat < a.length)] (.br (byteAt a (T.n a).toNat == 32) noR (chkA [decide (0 ≤ T.n a ∧ (T.n a).toNat ≤ a.length)] (.br (T.L (List.take ((T.n a).toNat - 0) (List.drop 0 a))).isEmpty (plE2 T a (List.take ((T.n a).toNat - 0) (List.drop 0 a))) (plE2 T a (List.take ((T.n a).toNat - 0) (List.drop 0 a))))))
def plE (T : LxT) (a : List UInt8) (x : Ans) : Ans := .br (decide (T.n a < 0)) noR (.br (decide (T.n a ≥ (a.length : Int))) noR x)
theorem places_comes (T : LxT) (s : List UInt8) (b : Bool) : Comes (tabP T) (lvPl T (cutTo 100 s) b) 6 [.str s] [] (chkA [cutB 100 s] (.br (T.L (cutTo 100 s)).isEmpty
    (.br (T.e (cutTo 100 s) != 0) (plE T (cutTo 100 s) (plE1 T (cutTo 100 s))) (.br (eqSt (stPn (cutTo 100 s)) (stPn (cutTo 100 s))) yesR .fail))
    (.br (T.e (cutTo 100 s) != 0) (plE T (cutTo 100 s) (.br (((T.L (cutTo 100 s)).length : Int) != 0) noR (plE1 T (cutTo 100 s))))
      (.br (eqSt (stPl (T.L (cutTo 100 s)).length (cutTo 100 s) ((T.L (cutTo 100 s)).map Tk.row) 0 0) (stPl (T.L (cutTo 100 s)).length (cutTo 100 s) ((T.L (cutTo 100 s)).map Tk.row) 0 0)) (.br b yesR .fail) .fail)))) := by unfold Comes; kernel_rfl
theorem plE1_run {a x : List UInt8} (hs : a.length ≤ 200) (h : (tokP a).2 = some x) : (plE lxt a (plE1 lxt a)).run pure2 = pure2 (.bool true) [] := by
  obtain ⟨t1, t2, t3⟩ := tok_err hs h
  obtain ⟨q1, q2⟩ := pcs_at _ _ _ h
  obtain ⟨q3, q4⟩ := pcs_err _ _ _ h
  have hx : 1 ≤ x.length := by cases x with | nil => exact absurd rfl q2 | cons => simp
  have hn : lxt.n a = ((a.length - x.length : Nat) : Int) := t2
  unfold plE
  simp only [Ans.run]
  rw [hn, bcF (b := decide _) (decide_eq_false (by omega)), bcF (b := decide _) (decide_eq_false (by omega))]
  unfold plE1
  rw [hn, chkA_run (all_one (decide_eq_true (by omega)))]
  simp only [Ans.run, Int.toNat_natCast]
  have hby : byteAt a (a.length - x.length) ≠ 32 := by
    have := byteAt_suf q3 0
    rw [Nat.add_zero] at this
    rw [this]
    cases x with
    | nil => simp at hx
    | cons b r =>
      intro e
      have : byB blkB b = true := by
        show ((b.toNat : Int) == 32) = true
        exact beq_iff_eq.2 e
      rw [show hdB (byB blkB) (b :: r) = byB blkB b from rfl, this] at q4
      cases q4
  rw [bcF (b := byteAt a (a.length - x.length) == 32) (beq_eq_false_iff_ne.2 hby), chkA_run (all_one (decide_eq_true (by omega)))]
  have key : ∀ b : List UInt8, b.length = a.length - x.length → (plE2 lxt a b).run pure2 = pure2 (.bool true) [] := fun b hb => by
    unfold plE2
    simp only [Ans.run]
    have he : lxt.e a = 40 := t1
    rw [bcT (b := lxt.e a == 40) (by rw [he]; rfl)]
    cases hp : (tokP b).2 with
    | none =>
      have : lxt.e b = 0 := (tok_of (by omega) hp).1
      rw [bcT (b := lxt.e b == 0) (by rw [this]; rfl)]; rfl
    | some y =>
      obtain ⟨u1, u2, u3⟩ := tok_err (by omega) hp
      obtain ⟨v1, v2⟩ := pcs_at _ _ _ hp
      have hy : 1 ≤ y.length := by cases y with | nil => exact absurd rfl v2 | cons => simp
      have : lxt.e b = 40 := u1
      rw [bcF (b := lxt.e b == 0) (by rw [this]; rfl)]
      have hnb : lxt.n b = ((b.length - y.length : Nat) : Int) := u2
      exact congrArg (fun c => pure2 (.bool c) []) (decide_eq_true (by rw [hn, hnb]; omega))
  have hl : (List.take (a.length - x.length - 0) (List.drop 0 a)).length = a.length - x.length := by simp
  simp only [Ans.run]
  cases (lxt.L (List.take (a.length - x.length - 0) (List.drop 0 a))).isEmpty with
  | true => exact key _ hl
  | false => exact key _ hl
theorem places_law (s : List UInt8) : Meets Tryz.prog 6 [.str s] [] (.bool true) [] := by
  have h := places_comes lxt s (plOk (cutTo 100 s))
  show Meets _ 6 _ (([] : List PObj).map PObj.toA) (.bool true) (([] : List PObj).map PObj.toA)
  refine meets_ent tabP_ok host (h.trans ?_) (lvPl_ok _)
  rw [chkA_run (all_one (upTo_ok (by decide) s).1)]
  have ha : (cutTo 100 s).length ≤ 200 := by
    rw [(upTo_ok (by decide) s).2, List.length_take]
    show min 100 _ ≤ 200
    omega
  generalize cutTo 100 s = a at ha
  simp only [Ans.run]
  cases hp : (tokP a).2 with
  | some x =>
    obtain ⟨t1, t2, t3⟩ := tok_err ha hp
    have hL : lxt.L a = [] := t3
    have he : lxt.e a = 40 := t1
    rw [bcT (b := (lxt.L a).isEmpty) (by rw [hL]; rfl), bcT (b := lxt.e a != 0) (by rw [he]; rfl)]
    exact plE1_run ha hp
  | none =>
    obtain ⟨t1, t2, t3⟩ := tok_of ha hp
    have he : lxt.e a = 0 := t1
    have hb : plOk a = true := by unfold plOk; rw [hp, decide_eq_true ha]; rfl
    cases (lxt.L a).isEmpty with
    | true => rw [bcT rfl, bcF (b := lxt.e a != 0) (by rw [he]; rfl), bcT (eqSt_refl _)]; rfl
    | false => rw [bcF rfl, bcF (b := lxt.e a != 0) (by rw [he]; rfl), bcT (eqSt_refl _), bcT hb]; rfl
end Go.Proofs.YtebieapmoaaahaaGreatDoor

/- Layer 4: the law of words: its parts. -/
set_option linter.unusedVariables false
set_option linter.unusedSimpArgs false
namespace Go.Proofs.YtebieapmoaaahaaGreatDoor
open Go Sx
def tW : List UInt8 := [65, 98, 84, 49, 95, 46, 48, 36, 57, 114, 85, 101, 70, 65, 76, 83, 69, 90]
def xW (b : List UInt8) (i : Int) : Int := (W (byteAt b (i.toNat * 1))).tmod 18
def cW (b : List UInt8) (i : Int) : Int := byteAt tW (xW b i).toNat
noncomputable abbrev wdB : Code := bodyOf Tryz.f8
noncomputable abbrev loopW1 : Code := (loopBodies wdB).headD .skip
noncomputable abbrev loopW2 : Code := ((loopBodies wdB).drop 1).headD .skip
theorem wd_loops : loopBodies wdB = [loopW1, loopW2] := by kernel_rfl
def stW1 (l : Nat) (b w : List UInt8) (i : Int) : PState := ⟨[some (.dsl 0 l)] ++ nn 2 ++ [some (.bool true), some (.str w), some (.int .i64 i)] ++ nn 213, [some (.flatU false b)] ++ nn 64⟩
def stW2 (b w : List UInt8) : PState := ⟨nn 3 ++ [some (.bool true), some (.str w)] ++ nn 214, [some (.flatU false b)] ++ nn 64⟩
theorem roundW1 (T : LxT) (O : LxO) (F : RdF) (l : Nat) (b w : List UInt8) (i : Int) : code (ent (R := Ex × PState) Tryz.prog (tabK T O F) nolv 64 1 20) Tryz.prog {} 1 64 1 loopW1 (stW1 l b w i) (endK 1 64 (fun n => hasN [0, 3, 4, 5] n) (fun n => hasN [3, 4] n)) =
  bcond (decide (i < (l : Int))) (bcond (decide (i < 12)) (chks (some (.normal, stW1 l b (w ++ [toByte (cW b i)]) (W (i + 1))))
    [bR i l, decide (i.toNat * 1 < b.length), decide (0 ≤ xW b i ∧ (xW b i).toNat < tW.length), decide (0 ≤ cW b i ∧ cW b i < 256) && true && true && true, decide (w.length + [toByte (cW b i)].length ≤ 9223372036854775807)])
    (some (.exit 0, stW2 b w))) (some (.exit 0, stW2 b w)) := by kernel_rfl
def lsV (x : Bool) (n : Nat) : AV := match x with | true => .nilslice | false => .vec 1 n
def msV (x y : Bool) (n : Nat) : AV := match y with | true => .nilslice | false => match x with | true => .vec 1 n | false => .vec 2 n
def lmM (x y : Bool) (b : List UInt8) (L M : List Tk) : List (Option PObj) := some (.flatU false b) :: match x, y with
  | true, true => nn 64
  | true, false => some (tokO (M.map Tk.row)) :: nn 64
  | false, true => some (tokO (L.map Tk.row)) :: nn 64
  | false, false => some (tokO (L.map Tk.row)) :: some (tokO (M.map Tk.row)) :: nn 64
structure Wd where
  b : List UInt8
  w : List UInt8
  L : List Tk
  M : List Tk
  e : Int
  f : Int
  g : Int
def stW3 (x y : Bool) (d : Wd) : PState := ⟨nn 3 ++ [some (.bool true), some (.str d.w)] ++ nn 2 ++ [some (lsV x d.L.length)] ++ nn 1 ++ [some (.int .i64 d.e), some (msV x y d.M.length)] ++ nn 1 ++ [some (.int .i64 d.f)] ++ nn 1 ++ [some (.int .i64 d.g)] ++ nn 204, lmM x y d.b d.L d.M⟩
def stW4 (x y : Bool) (d : Wd) (c : Bool) (i : Int) : PState := ⟨nn 3 ++ [some (.bool true), some (.str d.w)] ++ nn 2 ++ [some (lsV x d.L.length)] ++ nn 1 ++ [some (.int .i64 d.e), some (msV x y d.M.length)] ++ nn 1 ++ [some (.int .i64 d.f)] ++ nn 1 ++ [some (.int .i64 d.g), some (.bool c), some (.int .i64 i)] ++ nn 202, lmM x y d.b d.L d.M⟩
def stW5 (x y : Bool) (d : Wd) (c : Bool) : PState := ⟨nn 3 ++ [some (.bool true), some (.str d.w)] ++ nn 2 ++ [some (lsV x d.L.length)] ++ nn 1 ++ [some (.int .i64 d.e), some (msV x y d.M.length)] ++ nn 1 ++ [some (.int .i64 d.f)] ++ nn 1 ++ [some (.int .i64 d.g), some (.bool c)] ++ nn 203, lmM x y d.b d.L d.M⟩
def wdOf (T : LxT) (F : RdF) (b w : List UInt8) : Wd := ⟨b, w, T.L w, T.L (w ++ [40]), T.e w, T.e (w ++ [40]), F.e w⟩
theorem partC (T : LxT) (O : LxO) (F : RdF) (b w : List UInt8) : runsC (ent (R := Ex × PState) Tryz.prog (tabK T O F) nolv 64 1 20) Tryz.prog {} 1 64 1 (endK 1 64 (fun n => hasN [3, 4, 7, 9, 10, 12, 14] n) (fun n => hasN [2] n)) 3 (restC 6 wdB) (stW2 b w) =
  bcond (T.L w).isEmpty (chks (bcond (T.L (w ++ [40])).isEmpty (chks (some (.normal, stW3 true true (wdOf T F b w))) [decide (w.length ≤ 1000000)]) (chks (some (.normal, stW3 true false (wdOf T F b w))) [decide (w.length ≤ 1000000)])) [mxB (w.length + ([40] : List UInt8).length)])
    (chks (bcond (T.L (w ++ [40])).isEmpty (chks (some (.normal, stW3 false true (wdOf T F b w))) [decide (w.length ≤ 1000000)]) (chks (some (.normal, stW3 false false (wdOf T F b w))) [decide (w.length ≤ 1000000)])) [mxB (w.length + ([40] : List UInt8).length)]) := by kernel_rfl
theorem roundW2 (T : LxT) (O : LxO) (F : RdF) (x y : Bool) (d : Wd) (c : Bool) (i : Int) : code (ent (R := Ex × PState) Tryz.prog (tabK T O F) nolv 64 1 20) Tryz.prog {} 1 64 1 loopW2 (stW4 x y d c i) (endK 1 64 (fun n => hasN [3, 4, 7, 9, 10, 12, 14, 15, 16] n) (fun n => hasN [3, 4, 7, 9, 10, 12, 14, 15] n)) =
  bcond (decide (i < (d.w.length : Int))) (bcond c (some (.normal, stW4 x y d true (W (i + 1)))) (chks (some (.normal, stW4 x y d (byteAt d.w i.toNat == 36) (W (i + 1)))) [decide (0 ≤ i ∧ i.toNat < d.w.length)])) (some (.exit 2, stW5 x y d c)) := by
  cases x <;> cases y <;> kernel_rfl
end Go.Proofs.YtebieapmoaaahaaGreatDoor

/- Layer 4: the law of words: its parts, told. -/
set_option linter.unusedVariables false
set_option linter.unusedSimpArgs false
namespace Go.Proofs.YtebieapmoaaahaaGreatDoor
open Go Sx
abbrev Fn := Option (AV × List PObj)
noncomputable def fin1 (b : List UInt8) (ex : Ex) (s : PState) : Fn := match ex with
  | .normal => none
  | .exit id => finP Tryz.prog Tryz.f8 1 [.flatU false b] pure2 (.exit id) s
  | .ret => finP Tryz.prog Tryz.f8 1 [.flatU false b] pure2 .ret s
def rv (b : List UInt8) (v : Bool) : Fn := pure2 (.bool v) [.flatU false b]
def wrSt (b : List UInt8) (v : Bool) : PState := ⟨nn 2 ++ [some (.bool v)] ++ nn 216, [some (.flatU false b)] ++ nn 64⟩
noncomputable def lvW1 (l : Nat) (b w : List UInt8) : Lv := { keep := fun _ => some [0, 3, 4, 5], ent := oneL 6 (eAt 1 (stW1 l b [] 0) (.chk (Nat.beq l b.length) (.out (.exit 0) (stW2 b w)))) }
noncomputable def lvW2 (x y : Bool) (d : Wd) (c : Bool) : Lv := { keep := fun _ => some [3, 4, 7, 9, 10, 12, 14, 15, 16], ent := oneL 17 (eAt 1 (stW4 x y d false 0) (.out (.exit 2) (stW5 x y d c))) }
theorem partA (T : LxT) (O : LxO) (F : RdF) (l : Nat) (b w : List UInt8) : runsC (ent (R := Ex × PState) Tryz.prog (tabK T O F) nolv 64 1 20) Tryz.prog (lvW1 l b w) 1 64 1 (endK 1 64 (fun n => hasN [3, 4] n) (fun n => hasN [2] n)) 5 wdB (startP Tryz.f8.ntmps [.dsl 0 l] [.flatU false b] 64) =
  bcond (eqSt (stW1 l b [] 0) (stW1 l b [] 0)) (bcond (Nat.beq l b.length) (some (.normal, stW2 b w)) none) none := by kernel_rfl
abbrev c0W (w : List UInt8) : List Bool := [decide ((0 : Int) ≤ 0 ∧ Int.toNat 0 < w.length)]
def badT {α : Type} (w : List UInt8) (bad good : Option α) : Option α := bcond (w == []) bad (chks (bcond (byteAt w (Int.toNat 0) == 46) bad (chks (bcond (decide (byteAt w (Int.toNat 0) ≥ 48)) (chks (bcond (decide (byteAt w (Int.toNat 0) ≤ 57)) bad good) (c0W w)) good) (c0W w))) (c0W w))
theorem partB1 (T : LxT) (O : LxO) (F : RdF) (b w : List UInt8) : runsC (ent (R := Ex × PState) Tryz.prog (tabK T O F) nolv 64 1 20) Tryz.prog {} 1 64 1 (endK 1 64 (fun n => hasN [3, 4] n) (fun n => hasN [2] n)) 1 (restC 5 wdB) (stW2 b w) = badT w (some (.ret, wrSt b (!O.nm w))) (some (.normal, stW2 b w)) := by kernel_rfl
theorem partB2 (T : LxT) (O : LxO) (F : RdF) (b w : List UInt8) : runsC (ent (R := AV × List PObj) Tryz.prog (tabK T O F) nolv 64 1 20) Tryz.prog {} 1 64 1 (fin1 b) 1 (restC 5 wdB) (stW2 b w) = badT w (rv b (!O.nm w)) none := by kernel_rfl
end Go.Proofs.YtebieapmoaaahaaGreatDoor

/- Layer 4: the law of words: its parts, told (the loop). -/
set_option linter.unusedVariables false
set_option linter.unusedSimpArgs false
namespace Go.Proofs.YtebieapmoaaahaaGreatDoor
open Go Sx
theorem partD (T : LxT) (O : LxO) (F : RdF) (x y : Bool) (d : Wd) (c : Bool) : runsC (ent (R := Ex × PState) Tryz.prog (tabK T O F) nolv 64 1 20) Tryz.prog (lvW2 x y d c) 1 64 1 (endK 1 64 (fun n => hasN [3, 4, 7, 9, 10, 12, 14, 15] n) (fun n => hasN [2] n)) 2 (restC 9 wdB) (stW3 x y d) =
  bcond (eqSt (stW4 x y d false 0) (stW4 x y d false 0)) (some (.normal, stW5 x y d c)) none := by
  cases x <;> cases y <;> kernel_rfl
end Go.Proofs.YtebieapmoaaahaaGreatDoor

/- Layer 4: the law of words: its parts, told (the bracket). -/
set_option linter.unusedVariables false
set_option linter.unusedSimpArgs false
namespace Go.Proofs.YtebieapmoaaahaaGreatDoor
open Go Sx
def tl3 {α : Type} (c : Bool) (f : Int) (out nrm : Option α) : Option α := bcond (!c) (bcond (f != 0) out nrm) nrm
def mp3 {α : Type} (y : Bool) (M : List Tk) (w : List UInt8) (out z : Option α) : Option α := match y with
  | true => out
  | false => bcond ((M.length : Int) != 2) out (chks (bcond (kR (M.map Tk.row) 0 != 7) out (chks (bcond (!(sR (M.map Tk.row) 0 == w)) out z) (b2 0 M.length (M.map Tk.row)))) (b2 0 M.length (M.map Tk.row)))
theorem partE (T : LxT) (O : LxO) (F : RdF) (x y : Bool) (d : Wd) (c : Bool) : runsC (ent (R := Ex × PState) Tryz.prog (tabK T O F) nolv 64 1 20) Tryz.prog {} 1 64 1 (endK 1 64 (fun n => hasN [3, 4, 7, 9, 10, 12, 14, 15] n) (fun n => hasN [2] n)) 1 (restC 11 wdB) (stW5 x y d c) =
  bcond (d.f == 0) (bcond (!c) (mp3 y d.M d.w (some (.ret, wrSt d.b false)) (tl3 c d.f (some (.ret, wrSt d.b false)) (some (.normal, stW5 x y d c)))) (tl3 c d.f (some (.ret, wrSt d.b false)) (some (.normal, stW5 x y d c)))) (tl3 c d.f (some (.ret, wrSt d.b false)) (some (.normal, stW5 x y d c))) := by
  cases x <;> cases y <;> kernel_rfl
end Go.Proofs.YtebieapmoaaahaaGreatDoor

/- Layer 4: the law of words: its parts, told (the end). -/
set_option linter.unusedVariables false
set_option linter.unusedSimpArgs false
namespace Go.Proofs.YtebieapmoaaahaaGreatDoor
open Go Sx
def ro4 (x : Bool) (L : List Tk) (w : List UInt8) (k : Int) (no z : Fn) : Fn := match x with
  | true => no
  | false => bcond ((L.length : Int) == 1) (chks (bcond (kR (L.map Tk.row) 0 == k) (chks (bcond (sR (L.map Tk.row) 0 == w) z no) (b2 0 L.length (L.map Tk.row))) no) (b2 0 L.length (L.map Tk.row))) no
def ro5 (x : Bool) (L : List Tk) (b : List UInt8) : Fn := match x with
  | true => rv b false
  | false => bcond ((L.length : Int) == 1) (chks (rv b (kR (L.map Tk.row) 0 == 3)) (b2 0 L.length (L.map Tk.row))) (rv b false)
theorem partF (T : LxT) (O : LxO) (F : RdF) (x y : Bool) (d : Wd) (c : Bool) : code (ent (R := AV × List PObj) Tryz.prog (tabK T O F) nolv 64 1 20) Tryz.prog {} 1 64 1 (restC 12 wdB) (stW5 x y d c) (finP Tryz.prog Tryz.f8 1 [.flatU false d.b] pure2) =
  bcond (d.g == 0) (bcond (d.e == 0) (ro4 x d.L d.w 5 (rv d.b false) (rv d.b (!O.nm d.w))) (rv d.b false))
    (bcond (O.nm d.w) (bcond (d.e == 0) (ro4 x d.L d.w 6 (rv d.b false) (rv d.b (!c))) (rv d.b false))
      (bcond (d.e == 40) (bcond c (rv d.b true) (bcond (d.e == 0) (ro5 x d.L d.b) (rv d.b false))) (bcond (d.e == 0) (ro5 x d.L d.b) (rv d.b false)))) := by
  cases x <;> cases y <;> kernel_rfl
end Go.Proofs.YtebieapmoaaahaaGreatDoor

/- Layer 4: the law of words. -/
set_option linter.unusedVariables false
set_option linter.unusedSimpArgs false
namespace Go.Proofs.YtebieapmoaaahaaGreatDoor
open Go Sx
/-- What a byte is turned to. -/
def trW (c : UInt8) : UInt8 := toByte (byteAt tW ((c.toNat : Int).tmod 18).toNat)
theorem trW_wrd (c : UInt8) : byB wrdB (trW c) = true := by
  have h : (List.range 18).all (fun k => byB wrdB (toByte (byteAt tW k))) = true := by kernel_rfl
  have h1 : ((c.toNat : Int).tmod 18) = ((c.toNat % 18 : Nat) : Int) := rfl
  unfold trW
  rw [h1, Int.toNat_natCast]
  exact List.all_eq_true.1 h _ (List.mem_range.2 (Nat.mod_lt _ (by decide)))
theorem byteAt_bd (l : List UInt8) (k : Nat) : 0 ≤ byteAt l k ∧ byteAt l k < 256 := by
  unfold byteAt
  have := (l.getD k 0).toNat_lt
  omega
theorem all_cons {b : Bool} {l : List Bool} (h : b = true) (hl : ∀ x ∈ l, x = true) : ∀ x ∈ b :: l, x = true := fun x hx => (List.mem_cons.1 hx).elim (fun e => e.trans h) (hl x)
theorem loopW1_ok (b : List UInt8) : Tri Tryz.prog (.loop loopW1) (stW1 b.length b [] 0).toA (.exit 0) (stW2 b ((b.take 12).map trW)).toA 1 := by
  have hH : HOK Tryz.prog (ent (R := Ex × PState) Tryz.prog (tabK lxt lxo rdF) nolv 64 1 20) := ent_sound (NF := 64) (m := 1) tabK_ok host nolv_ok 20
  have key := tri_up (P := Tryz.prog) (body := loopW1) (ex := .exit 0) (out := (stW2 b ((b.take 12).map trW)).toA) (K := 1) (fun i => (stW1 b.length b ((b.take i).map trW) (i : Int)).toA) (by simp) (min b.length 12) (fun i hi => ?_) ?_ 0 (Nat.zero_le _)
  · rw [List.take_zero] at key; exact key
  · have hi1 : i < b.length := by omega
    have h := roundW1 lxt lxo rdF b.length b ((b.take i).map trW) i
    have hb : byteAt b (((i : Int)).toNat * 1) = ((b[i].toNat : Nat) : Int) := by
      unfold byteAt
      rw [Int.toNat_natCast, Nat.mul_one, List.getD_eq_getElem?_getD, List.getElem?_eq_getElem hi1]; rfl
    have hlt := (b[i]).toNat_lt
    have hx : xW b i = ((b[i].toNat : Nat) : Int).tmod 18 := by
      unfold xW
      rw [hb]
      show (IntKind.i64.wrap _).tmod 18 = _
      rw [i64_in (by omega) (by omega)]
    have hx2 : xW b i = ((b[i].toNat % 18 : Nat) : Int) := by rw [hx]; rfl
    have hm : b[i].toNat % 18 < 18 := Nat.mod_lt _ (by decide)
    have hc : toByte (cW b i) = trW b[i] := by unfold cW trW; rw [hx]
    have hcb := byteAt_bd tW (xW b i).toNat
    have hwl : ((b.take i).map trW).length ≤ 12 := by simp; omega
    have hs : (b.take i).map trW ++ [trW b[i]] = (b.take (i + 1)).map trW := by rw [List.take_add_one, List.getElem?_eq_getElem hi1, List.map_append]; rfl
    have f1 : bR (i : Int) b.length = true := decide_eq_true (by omega)
    have f2 : decide (((i : Int)).toNat * 1 < b.length) = true := decide_eq_true (by omega)
    have f3 : decide (0 ≤ xW b i ∧ (xW b i).toNat < tW.length) = true := decide_eq_true (by rw [hx2]; show 0 ≤ _ ∧ _ < 18; omega)
    have f4 : (decide (0 ≤ cW b i ∧ cW b i < 256) && true && true && true) = true := by rw [Bool.and_true, Bool.and_true, Bool.and_true]; exact decide_eq_true hcb
    have f5 : decide (((b.take i).map trW).length + [toByte (cW b i)].length ≤ 9223372036854775807) = true := decide_eq_true (by simp only [List.length_cons, List.length_nil]; omega)
    rw [bcT (b := decide ((i : Int) < _)) (decide_eq_true (by omega)), bcT (b := decide ((i : Int) < 12)) (decide_eq_true (by omega)), chks_true (all_cons f1 (all_cons f2 (all_cons f3 (all_cons f4 (all_one f5))))), hc, hs, show W ((i : Int) + 1) = ((i + 1 : Nat) : Int) from i64_in (by omega) (by omega)] at h
    exact round_sound hH no_loops h
  · have h := roundW1 lxt lxo rdF b.length b ((b.take (min b.length 12)).map trW) (min b.length 12 : Nat)
    have hs : b.take (min b.length 12) = b.take 12 := by
      by_cases hl : b.length ≤ 12
      · rw [Nat.min_eq_left hl, List.take_of_length_le (Nat.le_refl _), List.take_of_length_le hl]
      · rw [Nat.min_eq_right (by omega)]
    rw [hs] at h ⊢
    by_cases hl : b.length ≤ 12
    · rw [bcF (b := decide (((min b.length 12 : Nat) : Int) < _)) (decide_eq_false (by omega))] at h
      exact round_sound hH no_loops h
    · rw [bcT (b := decide (((min b.length 12 : Nat) : Int) < (b.length : Int))) (decide_eq_true (by omega)), bcF (b := decide (((min b.length 12 : Nat) : Int) < 12)) (decide_eq_false (by omega))] at h
      exact round_sound hH no_loops h
theorem loopW2_ok (x y : Bool) (d : Wd) (hd : d.w.length ≤ 12) : Tri Tryz.prog (.loop loopW2) (stW4 x y d false 0).toA (.exit 2) (stW5 x y d (conB 36 d.w)).toA 1 := by
  have hH : HOK Tryz.prog (ent (R := Ex × PState) Tryz.prog (tabK lxt lxo rdF) nolv 64 1 20) := ent_sound (NF := 64) (m := 1) tabK_ok host nolv_ok 20
  have key := tri_up (P := Tryz.prog) (body := loopW2) (ex := .exit 2) (out := (stW5 x y d (conB 36 d.w)).toA) (K := 1) (fun i => (stW4 x y d ((d.w.take i).contains 36) (i : Int)).toA) (by simp) d.w.length (fun i hi => ?_) ?_ 0 (Nat.zero_le _)
  · rw [List.take_zero] at key; exact key
  · have h := roundW2 lxt lxo rdF x y d ((d.w.take i).contains 36) i
    have hs : (d.w.take (i + 1)).contains 36 = ((d.w.take i).contains 36 || (byteAt d.w i == 36)) := by
      have hb : byteAt d.w i = ((d.w[i].toNat : Nat) : Int) := by
        unfold byteAt
        rw [List.getD_eq_getElem?_getD, List.getElem?_eq_getElem hi]; rfl
      rw [List.take_add_one, List.getElem?_eq_getElem hi, hb, Bool.eq_iff_iff]
      simp only [Option.toList_some, List.contains_iff_mem, List.mem_append, List.mem_singleton, Bool.or_eq_true, beq_iff_eq]
      refine or_congr Iff.rfl ⟨fun e => by rw [← e]; rfl, fun e => ?_⟩
      exact (UInt8.toNat_inj.1 (by show d.w[i].toNat = 36; omega)).symm
    rw [bcT (b := decide ((i : Int) < _)) (decide_eq_true (by omega)), chks_true (all_one (decide_eq_true (by rw [Int.toNat_natCast]; omega))), Int.toNat_natCast, show W ((i : Int) + 1) = ((i + 1 : Nat) : Int) from i64_in (by omega) (by omega)] at h
    rw [hs]
    cases hc : (d.w.take i).contains 36 with
    | true => rw [hc] at h; exact round_sound hH no_loops h
    | false => rw [hc] at h; exact round_sound hH no_loops h
  · have h := roundW2 lxt lxo rdF x y d ((d.w.take d.w.length).contains 36) (d.w.length : Nat)
    rw [bcF (b := decide (((d.w.length : Nat) : Int) < _)) (decide_eq_false (by omega))] at h
    have hs : (d.w.take d.w.length).contains 36 = conB 36 d.w := by rw [List.take_of_length_le (Nat.le_refl _), con_iff]
    rw [hs] at h ⊢
    exact round_sound hH no_loops h
theorem loops_one {i : Nat} {e : Nat → PState → LAns} {kp : Nat → Option (List Nat)} {c x : Code} {K : Nat} (h : ∀ y ∈ loopBodies c, headReg y = some i → y = x) (hx : ∀ t, LAnsOK Tryz.prog x K t (e K t)) : LoopsOK Tryz.prog { keep := kp, ent := oneL i e } K c := fun y hy id e' hid he t => by
  obtain ⟨rfl, rfl⟩ := oneL_some he
  rw [h y hy hid]; exact hx t
theorem goes_end {b : List UInt8} {H : Hd (AV × List PObj)} (hH : HOK Tryz.prog H) {NF m n : Nat} {c : Code} {s : PState} {r : AV × List PObj}
    (h : runsC H Tryz.prog {} 1 NF m (fin1 b) n c s = some r) : GoesTo Tryz.prog Tryz.f8 [.flatU false b] pure2 c s r := by
  rcases runsC_sound hH n c no_loops s h with ⟨ex1, s1, hne, t1, hk⟩ | ⟨s1, t1, hk⟩
  · cases ex1 with
    | normal => exact absurd rfl hne
    | exit id => exact ⟨_, s1, t1, hk⟩
    | ret => exact ⟨_, s1, t1, hk⟩
  · cases hk
theorem goesW {b : List UInt8} {lv : Lv} {NF m n : Nat} {H : Hd (Ex × PState)} (hH : HOK Tryz.prog H) {c c' : Code} {kn kx : Nat → Bool} (hl : LoopsOK Tryz.prog lv 1 c) {s st : PState} {r : AV × List PObj}
    (h1 : runsC H Tryz.prog lv 1 NF m (endK 1 NF kn kx) n c s = some (.normal, st)) (hc : restC n c = c') (h2 : GoesTo Tryz.prog Tryz.f8 [.flatU false b] pure2 c' st r) : GoesTo Tryz.prog Tryz.f8 [.flatU false b] pure2 c s r :=
  goes_runs (pre := [.flatU false b]) hH hl h1 hc h2
theorem badT_bad {α : Type} {w : List UInt8} (hw : ∀ b ∈ w, byB wrdB b = true) (h : hdB (byB fstB) w = false) (bad good : Option α) : badT w bad good = bad := by
  unfold badT
  cases w with
  | nil => rfl
  | cons b r =>
    have c0 : ∀ x ∈ c0W (b :: r), x = true := all_one (decide_eq_true (by simp))
    rw [bcF (b := (b :: r) == []) rfl, chks_true c0, chks_true c0, chks_true c0]
    have hb := hw b (List.mem_cons_self ..)
    have hf : byB fstB b = false := h
    show bcond ((b.toNat : Int) == 46) bad (bcond (decide ((b.toNat : Int) ≥ 48)) (bcond (decide ((b.toNat : Int) ≤ 57)) bad good) good) = bad
    unfold byB fstB at hf
    have hb' : wrdB (b.toNat : Int) = true := hb
    rw [hb', Bool.true_and] at hf
    cases h46 : (b.toNat : Int) == 46 with
    | true => rfl
    | false =>
      unfold bne at hf
      rw [h46] at hf
      simp only [Bool.not_false, Bool.and_true, Bool.not_eq_false'] at hf
      unfold digB at hf
      rw [decide_eq_true_eq] at hf
      rw [bcF rfl, bcT (b := decide ((b.toNat : Int) ≥ 48)) (decide_eq_true (by omega)), bcT (b := decide ((b.toNat : Int) ≤ 57)) (decide_eq_true (by omega))]
theorem badT_good {α : Type} {w : List UInt8} (h : hdB (byB fstB) w = true) (bad good : Option α) : badT w bad good = good := by
  unfold badT
  cases w with
  | nil => cases h
  | cons b r =>
    have c0 : ∀ x ∈ c0W (b :: r), x = true := all_one (decide_eq_true (by simp))
    rw [bcF (b := (b :: r) == []) rfl, chks_true c0, chks_true c0, chks_true c0]
    have hf : byB fstB b = true := h
    show bcond ((b.toNat : Int) == 46) bad (bcond (decide ((b.toNat : Int) ≥ 48)) (bcond (decide ((b.toNat : Int) ≤ 57)) bad good) good) = good
    unfold byB fstB at hf
    simp only [Bool.and_eq_true, Bool.not_eq_true', bne_iff_ne, ne_eq] at hf
    obtain ⟨_, h1, h2⟩ := hf
    unfold digB at h1
    rw [decide_eq_false_iff_not] at h1
    rw [bcF (beq_eq_false_iff_ne.2 h2)]
    by_cases h3 : (b.toNat : Int) ≥ 48
    · rw [bcT (decide_eq_true h3), bcF (b := decide ((b.toNat : Int) ≤ 57)) (decide_eq_false (by omega))]
    · rw [bcF (decide_eq_false h3)]
theorem b20 {t : Tk} {L : List Tk} : ∀ x ∈ b2 0 (t :: L).length ((t :: L).map Tk.row), x = true := b2_ok (i := 0) (L := t :: L) (by simp)
theorem row0 (t : Tk) (L : List Tk) : kR ((t :: L).map Tk.row) 0 = t.k ∧ sR ((t :: L).map Tk.row) 0 = t.s := by
  have := at_row (L := t :: L) (i := 0) (t := t) rfl
  exact ⟨this.1, this.2.1⟩
/-- A word that is none, or one: the law says so. -/
theorem end_ok {w b : List UInt8} (h : IsW w) (y : Bool) : bcond ((rdE w) == 0) (bcond (tokE w == 0) (ro4 (tokL w).isEmpty (tokL w) w 5 (rv b false) (rv b (!namB w))) (rv b false))
    (bcond (namB w) (bcond (tokE w == 0) (ro4 (tokL w).isEmpty (tokL w) w 6 (rv b false) (rv b (!conB 36 w))) (rv b false))
      (bcond (tokE w == 40) (bcond (conB 36 w) (rv b true) (bcond (tokE w == 0) (ro5 (tokL w).isEmpty (tokL w) b) (rv b false))) (bcond (tokE w == 0) (ro5 (tokL w).isEmpty (tokL w) b) (rv b false)))) = rv b true := by
  have hnm := nm_all h
  have four : ∀ (k : Int) (s : List UInt8) (no z : Fn), ro4 ([⟨k, s, 0⟩] : List Tk).isEmpty [⟨k, s, 0⟩] s k no z = z := fun k s no z => by
    have : ro4 false ([⟨k, s, 0⟩] : List Tk) s k no z = z := by
      unfold ro4
      simp only
      rw [bcT (b := ((([⟨k, s, 0⟩] : List Tk).length : Nat) : Int) == 1) rfl, chks_true b20, chks_true b20, (row0 _ _).1, (row0 _ _).2, bcT (b := k == k) (beq_self_eq_true k), bcT (b := s == s) (beq_self_eq_true s)]
    exact this
  cases hr : refB w with
  | true =>
    have hp : plnP w [] = w5 w [] := by unfold plnP; rw [hr]; rfl
    obtain ⟨e1, e2⟩ := mk_tok h (by rw [hp]; rfl)
    rw [hp] at e2
    have e2 : tokL w = [⟨5, w, 0⟩] := e2
    rw [bcT (b := rdE w == 0) hr, e1, bcT (b := (0 : Int) == 0) rfl, e2, four, hnm, hr]
    show rv b (!(!conB 36 w && false)) = _
    rw [Bool.and_false]; rfl
  | false =>
    rw [bcF (b := rdE w == 0) hr]
    cases ht : truB w with
    | true =>
      have hp : plnP w [] = w3 lxo w [] := by unfold plnP; rw [hr, ht]; rfl
      obtain ⟨e1, e2⟩ := mk_tok h (by rw [hp]; rfl)
      rw [hp] at e2
      have e2 : tokL w = [⟨3, w.map upB, 0⟩] := e2
      have hn : namB w = false := by rw [hnm, hr, ht]; simp
      rw [hn, bcF (b := false) rfl, e1, bcF (b := (0 : Int) == 40) rfl, bcT (b := (0 : Int) == 0) rfl, e2]
      have : ro5 false ([⟨3, w.map upB, 0⟩] : List Tk) b = rv b true := by
        unfold ro5
        simp only
        rw [bcT (b := ((([⟨3, w.map upB, 0⟩] : List Tk).length : Nat) : Int) == 1) rfl, chks_true b20, (row0 _ _).1]; rfl
      exact this
    | false =>
      have hp : plnP w [] = w6 lxo w [] := by unfold plnP; rw [hr, ht]; rfl
      rw [hr, ht] at hnm
      cases hn : namB w with
      | true =>
        obtain ⟨e1, e2⟩ := mk_tok h (by rw [hp]; exact hn)
        rw [hp] at e2
        have e2 : tokL w = [⟨6, w, 0⟩] := e2
        have hc : conB 36 w = false := by rw [hn] at hnm; simpa using hnm
        rw [bcT rfl, e1, bcT (b := (0 : Int) == 0) rfl, e2, four, hc]; rfl
      | false =>
        obtain ⟨e1, e2⟩ := mk_not h (by rw [hp]; exact hn)
        have hc : conB 36 w = true := by rw [hn] at hnm; simpa using hnm
        rw [bcF (b := false) rfl, e1, bcT (b := (40 : Int) == 40) rfl, hc]; rfl
theorem bracket_ok {w : List UInt8} (hw : IsW w) {y : Bool} (hy : (tokL (w ++ [40])).isEmpty = y) {α : Type} (out nrm : Option α) :
    bcond (tokE (w ++ [40]) == 0) (bcond (!conB 36 w) (mp3 y (tokL (w ++ [40])) w out (tl3 (conB 36 w) (tokE (w ++ [40])) out nrm)) (tl3 (conB 36 w) (tokE (w ++ [40])) out nrm)) (tl3 (conB 36 w) (tokE (w ++ [40])) out nrm) = nrm := by
  have tl : tl3 (conB 36 w) (tokE (w ++ [40])) out nrm = nrm := by
    unfold tl3
    cases hc : conB 36 w with
    | true => rfl
    | false => rw [(mk_call hw hc).1]; rfl
  rw [tl]
  cases hc : conB 36 w with
  | true => cases tokE (w ++ [40]) == 0 <;> rfl
  | false =>
    obtain ⟨q1, a, q2⟩ := mk_call hw hc
    have hy' : y = false := by rw [← hy, q2]; rfl
    subst hy'
    rw [q1, bcT (b := (0 : Int) == 0) rfl, bcT (b := !false) rfl, q2]
    unfold mp3
    simp only
    rw [bcF (b := ((([⟨7, w, 0⟩, ⟨8, [40], a⟩] : List Tk).length : Nat) : Int) != 2) rfl, chks_true b20, chks_true b20, (row0 _ _).1, (row0 _ _).2, bcF (b := (7 : Int) != 7) rfl, bcF (b := !(w == w)) (by rw [beq_self_eq_true]; rfl)]
theorem words_law (b : List UInt8) : Meets Tryz.prog 8 [.dsl 0 b.length] ([PObj.flatU false b].map PObj.toA) (.bool true) ([PObj.flatU false b].map PObj.toA) := by
  have hH : HOK Tryz.prog (ent (R := Ex × PState) Tryz.prog (tabK lxt lxo rdF) nolv 64 1 20) := ent_sound (NF := 64) (m := 1) tabK_ok host nolv_ok 20
  have hG : HOK Tryz.prog (ent (R := AV × List PObj) Tryz.prog (tabK lxt lxo rdF) nolv 64 1 20) := ent_sound (NF := 64) (m := 1) tabK_ok host nolv_ok 20
  have hbody : Tryz.f8.body = some wdB := by kernel_rfl
  obtain ⟨w, hwd⟩ : ∃ w, w = (b.take 12).map trW := ⟨_, rfl⟩
  have hall : ∀ c ∈ w, byB wrdB c = true := by
    intro c hc
    rw [hwd] at hc
    obtain ⟨x, _, rfl⟩ := List.mem_map.1 hc
    exact trW_wrd x
  have hlen : w.length ≤ 12 := by rw [hwd, List.length_map, List.length_take]; omega
  have hA := partA lxt lxo rdF b.length b w
  rw [bcT (eqSt_refl _), bcT (Nat.beq_refl _)] at hA
  have l1 : headReg loopW1 = some 6 := by kernel_rfl
  have l2 : headReg loopW2 = some 17 := by kernel_rfl
  have hlA : LoopsOK Tryz.prog (lvW1 b.length b w) 1 wdB := loops_one (x := loopW1) (fun y hy hid => by
    rw [wd_loops] at hy
    rcases List.mem_cons.1 hy with rfl | hy
    · rfl
    · obtain rfl := List.mem_singleton.1 hy
      rw [l2] at hid; cases hid) fun t => eAt_ok (by
        refine ⟨fun _ => ?_, fun _ => trivial⟩
        have := loopW1_ok b
        rw [← hwd] at this; exact this) 1 t
  suffices hrest : GoesTo Tryz.prog Tryz.f8 [.flatU false b] pure2 (restC 5 wdB) (stW2 b w) (.bool true, [.flatU false b]) by
    obtain ⟨res, post, k1, k2⟩ := goes_meets (R := AV × List PObj) (NF := 64) (args := [.dsl 0 b.length]) (pre := [.flatU false b]) (k := pure2) (r := (.bool true, [.flatU false b])) host Tryz.func8 hbody
      (goesW hH hlA hA rfl hrest)
    cases k2
    exact k1
  cases hf : hdB (byB fstB) w with
  | false =>
    have hB := partB2 lxt lxo rdF b w
    rw [badT_bad hall hf, show lxo.nm w = false from nm_bad hf] at hB
    exact goes_end hG hB
  | true =>
    have hw : IsW w := ⟨hall, hf, hlen⟩
    have hB := partB1 lxt lxo rdF b w
    rw [badT_good hf] at hB
    refine goesW hH no_loops hB (restC_add 5 1 wdB) ?_
    have hC : runsC (ent (R := Ex × PState) Tryz.prog (tabK lxt lxo rdF) nolv 64 1 20) Tryz.prog {} 1 64 1 (endK 1 64 (fun n => hasN [3, 4, 7, 9, 10, 12, 14] n) (fun n => hasN [2] n)) 3 (restC 6 wdB) (stW2 b w) = some (.normal, stW3 (tokL w).isEmpty (tokL (w ++ [40])).isEmpty (wdOf lxt rdF b w)) := by
      refine (partC lxt lxo rdF b w).trans ?_
      have m1 : ∀ x ∈ [mxB (w.length + ([40] : List UInt8).length)], x = true := all_one (mx_ok (by simp only [List.length_cons, List.length_nil]; omega))
      have m2 : ∀ x ∈ [decide (w.length ≤ 1000000)], x = true := all_one (decide_eq_true (by omega))
      rw [chks_true m1, chks_true m1, chks_true m2, chks_true m2, chks_true m2, chks_true m2]
      show bcond (tokL w).isEmpty (bcond (tokL (w ++ [40])).isEmpty _ _) (bcond (tokL (w ++ [40])).isEmpty _ _) = _
      cases (tokL w).isEmpty <;> cases (tokL (w ++ [40])).isEmpty <;> rfl
    refine goesW hH no_loops hC (restC_add 6 3 wdB) ?_
    generalize hx : (tokL w).isEmpty = x
    generalize hy : (tokL (w ++ [40])).isEmpty = y
    have hD := partD lxt lxo rdF x y (wdOf lxt rdF b w) (conB 36 w)
    rw [bcT (eqSt_refl _)] at hD
    have hl9 : loopBodies (restC 9 wdB) = [loopW2] := by kernel_rfl
    refine goesW hH (loops_one (x := loopW2) (fun y hy hid => by rw [hl9] at hy; exact List.mem_singleton.1 hy) fun t => eAt_ok (show LAnsOK _ _ _ _ (.out _ _) from loopW2_ok x y (wdOf lxt rdF b w) hlen) 1 t) hD (restC_add 9 2 wdB) ?_
    have hE := partE lxt lxo rdF x y (wdOf lxt rdF b w) (conB 36 w)
    have hE' := hE.trans (bracket_ok hw hy _ _)
    refine goesW hH no_loops hE' (restC_add 11 1 wdB) ?_
    have hF := partF lxt lxo rdF x y (wdOf lxt rdF b w) (conB 36 w)
    have he := end_ok (b := b) hw y
    rw [hx] at he
    have hF' := hF.trans he
    exact goes_code (pre := [.flatU false b]) hG no_loops hF'
end Go.Proofs.YtebieapmoaaahaaGreatDoor
