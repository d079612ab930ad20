/- Layer 26: what is written is read: it is so. -/
import Derived.Test.YtoekeplljjaehaaGr06
set_option linter.unusedVariables false
set_option linter.unusedSimpArgs false
namespace Go.Proofs.Ytoekeplljjaehaa
open Go Sx
theorem chk_to {b : Bool} {x : Ans} {r : Option (AV × List PObj)} (h : b = true) (hx : x.run pure2 = r) : (Ans.chk b x).run pure2 = r := by subst h; exact hx
theorem loS_nat (k : Nat) (s : List UInt8) : loS (k : Int) s = s.take k := rfl
theorem hiS_nat (k : Nat) (s : List UInt8) : hiS (k : Int) s = s.drop k := by
  unfold hiS
  simp only [Int.toNat_natCast]
  rw [List.take_of_length_le (by rw [List.length_drop]; exact Nat.le_refl _)]
theorem minL_nat {p : Nat} {s : List UInt8} (hp : p ≤ 320) : minL (p : Int) s = (((s.take (320 - p)).length : Nat) : Int) := by
  unfold minL
  rw [i64_in (by omega) (by omega), List.length_take]
  split <;> omega
theorem take_min {p : Nat} {s : List UInt8} : s.take (s.take p).length = s.take p := by
  rw [List.length_take]
  by_cases h2 : p ≤ s.length
  · rw [Nat.min_eq_left h2]
  · rw [Nat.min_eq_right (by omega), List.take_length, List.take_of_length_le (by omega)]
theorem tS_nat {at_ : Int} {s : List UInt8} (h : i64B at_ = true) : tS at_ s = s.take (320 - pk at_ 320) := by
  have := pk_lt (c := at_) (n := 320) (by omega)
  unfold tS
  have e : pkI at_ 320 = (pk at_ 320 : Nat) := pkI_nat (n := 320) h
  rw [e, minL_nat (by omega), loS_nat, take_min]
theorem splice_read {a : Nat} {s t : List UInt8} (h : a + s.length ≤ t.length) : ((splice a s t).drop a).take s.length = s := by
  unfold splice
  have h1 : (t.take a).length = a := by rw [List.length_take]; omega
  rw [List.append_assoc, List.drop_append, h1, Nat.sub_self, List.drop_zero, List.drop_of_length_le (by omega), List.nil_append, List.take_left']
  rfl
theorem reads_true {l1 : Nat} {r1 : List (List CV)} {at_ n : Int} {s : List UInt8} (hl : okA l1 r1 = true) (ha : i64B at_ = true) (hn : i64B n = true) : (xReads l1 r1 at_ s n).run pure2 = some (.bool true, [fr r1]) := by
  have hp := pk_lt (c := at_) (n := 320) (by omega)
  have ep : pkI at_ 320 = (pk at_ 320 : Nat) := pkI_nat (n := 320) ha
  have et := tS_nat (s := s) ha
  generalize pk at_ 320 = p at hp ep et
  generalize hT : s.take (320 - p) = T at et
  have hTl : p + T.length ≤ 320 := by rw [← hT, List.length_take]; omega
  have ek : kS at_ n s = (pk n (T.length + 1) : Nat) := by
    unfold kS
    rw [et, i64_in (by omega) (by omega)]
    exact pkI_nat (n := T.length + 1) hn
  have hk := pk_lt (c := n) (n := T.length + 1) (by omega)
  generalize pk n (T.length + 1) = k at ek hk
  have h1 := sT1_len r1
  have hd : DD.ok ⟨sT1 r1, sT1 r1, none⟩ := ⟨h1, h1, fun rows m h => by cases h⟩
  have ew : IntKind.i64.wrap (pkI at_ 320 + kS at_ n s) = ((p + k : Nat) : Int) := by rw [ep, ek, i64_in (by omega) (by omega)]; omega
  have ev : IntKind.i64.wrap (pkI at_ 320 + ((tS at_ s).length : Int)) = ((p + T.length : Nat) : Int) := by rw [ep, et, i64_in (by omega) (by omega)]; omega
  generalize hS : sT1 r1 = S at h1 hd
  unfold xReads
  rw [hS]
  refine ansChks_run ?_ (by intro b hb; simp only [List.mem_cons, List.not_mem_nil, or_false, or_self] at hb; rw [hb]; exact hl)
  rw [ew, ev, ep, ek, et]
  refine rdC_run (a := 0) (c := 320) hd (by omega) ?_
  rw [List.drop_zero, List.take_of_length_le (by rw [h1]; omega)]
  refine ansChks_run ?_ ?_
  rotate_left
  · intro b hb
    simp only [List.mem_cons, List.not_mem_nil, or_false] at hb
    rcases hb with rfl | rfl | rfl | rfl
    · exact ha
    · rw [minL_nat (by omega), hT]; exact decide_eq_true ⟨by omega, by rw [← hT]; simp only [Int.toNat_natCast, List.length_take]; omega⟩
    · exact hn
    · rw [i64_in (by omega) (by omega)]; exact posB_to (by omega)
  -- what comes of a, of b
  have main : ∀ da db0 db : DD, da.ok → db.ok → da.t = splice p T S → db.t = splice p T S → (rdC da (p : Int) (T.length : Int) fun r => rdC da 0 320 fun now =>
    .br ((S.length : Int) != 320) (.ret (.bool false) [fr r1]) (.br ((now.length : Int) != 320) (.ret (.bool false) [fr r1])
      (.br (r == T) (.chk (slB (p : Int) S) (.chk (catB (loS (p : Int) S) T) (.chk (slB ((p + T.length : Nat) : Int) S) (.chk (catB (loS (p : Int) S ++ T) (hiS ((p + T.length : Nat) : Int) S))
        (.br (now == loS (p : Int) S ++ T ++ hiS ((p + T.length : Nat) : Int) S) (rdC db 0 320 fun nb => .ret (.bool (nb == now)) [fr r1]) (.ret (.bool false) [fr r1]))))))
        (.ret (.bool false) [fr r1])))).run pure2 = some (.bool true, [fr r1]) := by
    intro da db0 db ha hb hat hbt
    refine rdC_run ha (by omega) ?_
    refine rdC_run (a := 0) (c := 320) ha (by omega) ?_
    have hs : (splice p T S).length = 320 := by rw [splice_len (by omega)]; exact h1
    rw [List.drop_zero, hat, List.take_of_length_le (by rw [hs]; omega), splice_read (by omega), loS_nat, hiS_nat]
    simp only [Ans.run, Ans.chk]
    rw [bcF (b := (S.length : Int) != 320) (by rw [h1]; rfl), bcF (b := ((splice p T S).length : Int) != 320) (by rw [hs]; rfl), bcT (b := T == T) (by simp)]
    have b1 : slB (p : Int) S = true := decide_eq_true ⟨by omega, by simp only [Int.toNat_natCast]; omega⟩
    have b2 : catB (S.take p) T = true := decide_eq_true (by rw [List.length_take]; omega)
    have b3 : slB ((p + T.length : Nat) : Int) S = true := decide_eq_true ⟨by omega, by simp only [Int.toNat_natCast]; omega⟩
    have b4 : catB (S.take p ++ T) (S.drop (p + T.length)) = true := decide_eq_true (by rw [List.length_append, List.length_take, List.length_drop]; omega)
    rw [bcT b1, bcT b2, bcT b3, bcT b4, bcT (b := splice p T S == _) (by unfold splice; simp)]
    refine rdC_run (a := 0) (c := 320) hb (by omega) ?_
    rw [List.drop_zero, hbt, List.take_of_length_le (by rw [hs]; omega)]
    simp [Ans.run, pure2]
  have nil : ∀ q : Nat, q ≤ 320 → splice q [] S = S := fun q hq => splice_nil (by omega)
  have hkT : slB (k : Int) T = true := decide_eq_true ⟨by omega, by simp only [Int.toNat_natCast]; omega⟩
  have rest : ∀ da : DD, da.ok → da.t = splice p T S → (Ans.chk (slB (k : Int) T) (wrC ⟨S, S, none⟩ (p : Int) (loS (k : Int) T) fun db0 =>
    .chk (slB (k : Int) T) (wrC db0 ((p + k : Nat) : Int) (hiS (k : Int) T) fun db =>
    rdC da (p : Int) (T.length : Int) fun r => rdC da 0 320 fun now =>
    .br ((S.length : Int) != 320) (.ret (.bool false) [fr r1]) (.br ((now.length : Int) != 320) (.ret (.bool false) [fr r1])
      (.br (r == T) (.chk (slB (p : Int) S) (.chk (catB (loS (p : Int) S) T) (.chk (slB ((p + T.length : Nat) : Int) S) (.chk (catB (loS (p : Int) S ++ T) (hiS ((p + T.length : Nat) : Int) S))
        (.br (now == loS (p : Int) S ++ T ++ hiS ((p + T.length : Nat) : Int) S) (rdC db 0 320 fun nb => .ret (.bool (nb == now)) [fr r1]) (.ret (.bool false) [fr r1]))))))
        (.ret (.bool false) [fr r1])))))).run pure2 = some (.bool true, [fr r1]) := by
    intro da hda hat
    refine chk_to hkT ?_
    rw [loS_nat, hiS_nat]
    have hl1 : (T.take k).length = k := by rw [List.length_take]; omega
    have hl2 : (T.drop k).length = T.length - k := by rw [List.length_drop]
    have step2 : ∀ db0 : DD, db0.ok → db0.t = splice p (T.take k) S → (∀ rows m, db0.p = some (rows, m) → m ≤ 1000000000) → (Ans.chk (slB (k : Int) T) (wrC db0 ((p + k : Nat) : Int) (T.drop k) fun db =>
    rdC da (p : Int) (T.length : Int) fun r => rdC da 0 320 fun now =>
    .br ((S.length : Int) != 320) (.ret (.bool false) [fr r1]) (.br ((now.length : Int) != 320) (.ret (.bool false) [fr r1])
      (.br (r == T) (.chk (slB (p : Int) S) (.chk (catB (loS (p : Int) S) T) (.chk (slB ((p + T.length : Nat) : Int) S) (.chk (catB (loS (p : Int) S ++ T) (hiS ((p + T.length : Nat) : Int) S))
        (.br (now == loS (p : Int) S ++ T ++ hiS ((p + T.length : Nat) : Int) S) (rdC db 0 320 fun nb => .ret (.bool (nb == now)) [fr r1]) (.ret (.bool false) [fr r1]))))))
        (.ret (.bool false) [fr r1]))))).run pure2 = some (.bool true, [fr r1]) := by
      intro db0 h0 h0t h0m
      refine chk_to hkT ?_
      refine wrC_run (a := p + k) (s := T.drop k) h0 (by omega) ⟨fun e => ?_, fun e => ?_⟩
      · refine main da db0 db0 hda h0 hat ?_
        have := splice_two (a := p) (m := k) (s := T) (t := S) (by omega) (by omega)
        rw [e, splice_nil (by rw [splice_len (by omega)]; omega)] at this
        rw [h0t]; exact this
      · refine main da db0 _ hda (DD.wr_ok h0 (by omega) h0m) hat ?_
        rw [DD.wr_t, h0t]
        simp only [Int.toNat_natCast]
        exact splice_two (by omega) (by omega)
    refine wrC_run (a := p) (s := T.take k) hd (by omega) ⟨fun e => ?_, fun e => ?_⟩
    · exact step2 _ hd (by rw [e, nil p (by omega)]) (fun rows m h => by cases h)
    · refine step2 _ (DD.wr_ok hd (by omega) (fun rows m h => by cases h)) (by rw [DD.wr_t]; rfl) ?_
      intro rows m h
      have hl := parts_len _ p (T.take k) (Nat.le_refl _)
      simp only [DD.wr, Option.some.injEq, Prod.mk.injEq, Int.toNat_natCast] at h
      omega
  refine wrC_run (a := p) (s := T) hd (by omega) ⟨fun e => ?_, fun e => ?_⟩
  · exact rest _ hd (by rw [e, nil p (by omega)])
  · exact rest _ (DD.wr_ok hd (by omega) (fun rows m h => by cases h)) (by rw [DD.wr_t]; rfl)
end Go.Proofs.Ytoekeplljjaehaa
