/- What is shown is read back. -/
import Derived.Test.YtabgphldbgdbpaaDecY
set_option linter.unusedVariables false
set_option linter.unusedSimpArgs false
set_option maxRecDepth 20000
namespace Go.Proofs.Ytabgphldbgdbpaa
open Go Sx Dc
attribute [local semireducible] aV sV nearV mV qV

/-- So many figures from one on, as bytes. -/
def sg (ds : List Int) (i n : Nat) : List UInt8 := ((ds.drop i).take n).map chB
theorem chB_ok {d : Int} (h : 0 ≤ d ∧ d ≤ 9) : (chB d).toNat = (48 + d).toNat := by
  unfold chB
  rw [UInt8.toNat_ofNat']
  exact Nat.mod_eq_of_lt (by omega)
theorem sg_ok {ds : List Int} (hd : Dig ds) {i n : Nat} : ∀ b ∈ sg ds i n, okDig b := by
  intro b hb
  obtain ⟨d, hm, rfl⟩ := List.mem_map.1 hb
  have h := hd d (List.mem_of_mem_drop (List.mem_of_mem_take hm))
  unfold okDig
  rw [chB_ok h]; omega
theorem okDig_ne {b : UInt8} (h : okDig b) : b ≠ 46 ∧ b ≠ 45 := by
  unfold okDig at h
  constructor
  · rintro rfl; revert h; decide
  · rintro rfl; revert h; decide
theorem sg_bytes {ds : List Int} (hd : Dig ds) (i n : Nat) : bytesD (sg ds i n) = (ds.drop i).take n := by
  unfold bytesD sg
  rw [List.map_map]
  have : ∀ d ∈ (ds.drop i).take n, ((fun b : UInt8 => (b.toNat : Int) - 48) ∘ chB) d = d := by
    intro d hm
    have h := hd d (List.mem_of_mem_drop (List.mem_of_mem_take hm))
    simp only [Function.comp, chB_ok h]; omega
  rw [List.map_congr_left this, List.map_id']
theorem sg_length {ds : List Int} {i n : Nat} (h : i + n ≤ ds.length) : (sg ds i n).length = n := by
  unfold sg; simp; omega
theorem sg_succ {ds : List Int} {i n : Nat} (h : i + n < ds.length) : sg ds i (n + 1) = sg ds i n ++ [chB (ds.getD (i + n) 0)] := by
  unfold sg
  rw [List.take_succ_eq_append_getElem (by simp; omega), List.map_append]
  simp [List.getD, h]
theorem txt_left {ds : List Int} (hl : ds.length = 88) (a : Nat) : ∀ n, a + n ≤ 48 → txt ds a n = sg ds a n
  | 0, _ => by simp [txt, sg]
  | n + 1, h => by
    rw [txt, txt_left hl a n (by omega), if_neg (by omega), sg_succ (by omega)]; simp
theorem txt_right {ds : List Int} (hl : ds.length = 88) (a : Nat) (ha : a ≤ 48) : ∀ k, 48 + k ≤ 88 → txt ds a (48 - a + k) = sg ds a (48 - a) ++ (if k = 0 then [] else 46 :: sg ds 48 k)
  | 0, _ => by rw [if_pos rfl, Nat.add_zero, txt_left hl a _ (by omega)]; simp
  | k + 1, h => by
    rw [← Nat.add_assoc, txt, txt_right hl a ha k (by omega), show a + (48 - a + k) = 48 + k by omega, sg_succ (by omega), if_neg (by omega : ¬ k + 1 = 0)]
    by_cases hk : k = 0
    · subst hk
      rw [if_pos rfl, if_pos rfl]; simp [sg]
    · rw [if_neg hk, if_neg (by omega)]; simp

theorem idx46_dot : ∀ (W P : List UInt8), (∀ b ∈ W, b ≠ 46) → idx46 (W ++ 46 :: P) = W.length
  | [], P, _ => by simp [idx46, Lib.indexByte]
  | w :: W, P, h => by
    have ih := idx46_dot W P fun b hb => h b (by simp [hb])
    have hw := h w (by simp)
    unfold idx46 at *
    rw [List.cons_append, Lib.indexByte, if_neg (by simpa using hw), ih, if_neg (by simp), List.length_cons]; omega
theorem idx46_no : ∀ (W : List UInt8), (∀ b ∈ W, b ≠ 46) → idx46 W = -1
  | [], _ => by simp [idx46, Lib.indexByte]
  | w :: W, h => by
    have ih := idx46_no W fun b hb => h b (by simp [hb])
    have hw := h w (by simp)
    unfold idx46 at *
    rw [Lib.indexByte, if_neg (by simpa using hw), ih, if_pos (by simp)]
theorem whole_of {W P : List UInt8} (k : Nat) (h : ∀ b ∈ W, b ≠ 46) (hP : k = 0 → P = []) : wholeS (W ++ (if k = 0 then [] else 46 :: P)) = W ∧ partS (W ++ (if k = 0 then [] else 46 :: P)) = P ∧ (decide (0 ≤ idx46 (W ++ (if k = 0 then [] else 46 :: P))) = !decide (k = 0)) := by
  unfold wholeS partS
  by_cases hk : k = 0
  · simp only [if_pos hk, List.append_nil, idx46_no W h]
    rw [if_neg (by omega), if_neg (by omega), hP hk]
    simp [hk]
  · simp only [if_neg hk, idx46_dot W P h]
    rw [if_pos (by omega), if_pos (by omega)]
    simp [hk]

theorem fstGo_zero (ds : List Int) : ∀ (f k i : Nat), k ≤ i → i < fstGo ds f k → ds.getD i 0 = 0
  | 0, k, i, h1, h2 => by simp only [fstGo] at h2; omega
  | f + 1, k, i, h1, h2 => by
    rw [fstGo] at h2
    split at h2
    · rename_i hc
      by_cases e : i = k
      · subst e; exact hc.2
      · exact fstGo_zero ds f (k + 1) i (by omega) h2
    · omega
theorem fstGo_end (ds : List Int) : ∀ (f k : Nat), f + k = 47 → fstGo ds f k = 47 ∨ ds.getD (fstGo ds f k) 0 ≠ 0
  | 0, k, h => .inl (by simp only [fstGo]; omega)
  | f + 1, k, h => by
    rw [fstGo]
    split
    · exact fstGo_end ds f (k + 1) (by omega)
    · rename_i hc
      exact .inr fun h0 => hc ⟨by omega, h0⟩
theorem lstGo_zero (ds : List Int) : ∀ (f k i : Nat), lstGo ds f k ≤ i → i < k → ds.getD i 0 = 0
  | 0, k, i, h1, h2 => by simp only [lstGo] at h1; omega
  | f + 1, k, i, h1, h2 => by
    rw [lstGo] at h1
    split at h1
    · rename_i hc
      by_cases e : i = k - 1
      · subst e; exact hc.2
      · exact lstGo_zero ds f (k - 1) i h1 (by omega)
    · omega
theorem val_zero_of {l : List Int} (h : Dig l) (hz : ∀ i, i < l.length → l.getD i 0 = 0) : val l = 0 := by
  rw [val_zero_iff h]
  intro d hd
  obtain ⟨i, hi, rfl⟩ := List.getElem_of_mem hd
  have := hz i hi
  simpa [List.getD, hi] using this
theorem getD_drop (l : List Int) (b i : Nat) : (l.drop b).getD i 0 = l.getD (b + i) 0 := by
  simp [List.getD]
theorem getD_take {l : List Int} {b i : Nat} (h : i < b) : (l.take b).getD i 0 = l.getD i 0 := by
  simp [List.getD, List.getElem?_take, h]

/-- The text of a number below ten to 73, parted at its point: what it is worth. -/
theorem parts_val {X : Int} (hX : 0 ≤ X ∧ X < 10 ^ 73) : ∃ a k : Nat, 15 ≤ a ∧ a ≤ 47 ∧ k ≤ 40 ∧ txt (digs 88 X) (fstGo (digs 88 X) 47 0) (lstGo (digs 88 X) 40 88 - fstGo (digs 88 X) 47 0) = sg (digs 88 X) a (48 - a) ++ (if k = 0 then [] else 46 :: sg (digs 88 X) 48 k) ∧
    val ((digs 88 X).drop a |>.take (48 - a)) * 10 ^ 40 + val (((digs 88 X).drop 48).take k) * 10 ^ (40 - k) = X := by
  have hl := digs_length 88 X
  have hd := digs_dig 88 X
  have hX88 : X < 10 ^ 88 := Int.lt_trans hX.2 (by decide)
  obtain ⟨a, ha⟩ : ∃ a, fstGo (digs 88 X) 47 0 = a := ⟨_, rfl⟩
  obtain ⟨b, hb⟩ : ∃ b, lstGo (digs 88 X) 40 88 = b := ⟨_, rfl⟩
  have a1 := fstGo_le (digs 88 X) 47 0 (by omega)
  have b1 := lstGo_ge (digs 88 X) 40 88 (by omega)
  have a2 := fstGo_zero (digs 88 X) 47 0
  have a3 := fstGo_end (digs 88 X) 47 0 (by omega)
  have b2 := lstGo_zero (digs 88 X) 40 88
  rw [ha] at a1 a2 a3
  rw [hb] at b1 b2
  have a15 : 15 ≤ a := by
    rcases Nat.lt_or_ge a 15 with g | g
    · exfalso
      rcases a3 with h | h
      · omega
      · apply h
        rw [digs_get X (by omega)]
        have hle : (10 : Int) ^ 73 ≤ 10 ^ (88 - 1 - a) := pow_mono (by omega)
        rw [Int.ediv_eq_zero_of_lt hX.1 (by omega)]; rfl
    · exact g
  refine ⟨a, b - 48, a15, a1, by omega, ?_, ?_⟩
  · rw [ha, hb, show b - a = 48 - a + (b - 48) by omega]
    exact txt_right hl a (by omega) _ (by omega)
  · have v1 : val ((digs 88 X).take 48) = X / 10 ^ 40 := val_take_digs (by omega) ⟨hX.1, hX88⟩
    have v2 : val ((digs 88 X).drop 48) = X % 10 ^ 40 := val_drop_digs (by omega)
    generalize hds : digs 88 X = ds at *
    have t1 : ds.take 48 = ds.take a ++ (ds.drop a).take (48 - a) := by
      have := List.take_append_drop a (ds.take 48)
      rw [List.take_take, Nat.min_eq_left (by omega), List.drop_take] at this
      exact this.symm
    have z1 : val (ds.take a) = 0 := val_zero_of (hd.take a) fun i hi => by
      rw [List.length_take] at hi
      rw [getD_take (by omega)]; exact a2 i (by omega) (by omega)
    rw [t1, val_append, z1, Int.zero_mul, Int.zero_add] at v1
    have t2 : ds.drop 48 = (ds.drop 48).take (b - 48) ++ ds.drop b := by
      have := List.take_append_drop (b - 48) (ds.drop 48)
      rw [List.drop_drop, show 48 + (b - 48) = b by omega] at this
      exact this.symm
    have z2 : val (ds.drop b) = 0 := val_zero_of (hd.drop b) fun i hi => by
      rw [List.length_drop] at hi
      rw [getD_drop]; exact b2 (b + i) (by omega) (by omega)
    have l2 : (ds.drop b).length = 88 - b := by rw [List.length_drop, hl]
    rw [t2, val_append, z2, Int.add_zero, l2] at v2
    rw [v1, show 40 - (b - 48) = 88 - b by omega, v2]
    have := Int.mul_ediv_add_emod X (10 ^ 40)
    rw [Int.mul_comm] at this
    exact this

theorem isDigs_of {s : List UInt8} (h1 : s ≠ []) (h2 : s.length ≤ 40) (h3 : ∀ b ∈ s, okDig b) : isDigs s = true := decide_eq_true ⟨h1, h2, h3⟩

theorem near_parts {m e : Int} (h : rightB m e = true) : nearM (decide (m < 0)) (digs 88 (aV m e)) = (m, e) ∧ nearE (digs 88 (aV m e)) = 0 := by
  have h1 := near_right h
  unfold nearV at h1
  rw [← aV_abs] at h1
  have hs : decide (sV m e < 0) = decide (m < 0) := by
    unfold sV
    have hp := pow_pos' (e + 40).toNat
    rw [decide_eq_decide]
    rcases Int.lt_trichotomy m 0 with g | g | g
    · have := Int.mul_neg_of_neg_of_pos g hp; omega
    · subst g; simp
    · have := Int.mul_pos g hp; omega
  rw [hs] at h1
  simp only [Prod.mk.injEq] at h1
  exact ⟨Prod.ext h1.1 h1.2.1, h1.2.2⟩

/-- A text of these parts is read as the decimal. -/
theorem read_parts {m e : Int} (h : rightB m e = true) {pre W P s : List UInt8} {k : Nat} (hb : bodyS s = (pre ++ W) ++ (if k = 0 then [] else 46 :: P)) (hm : minusB s = decide (m < 0)) (hpre : pre = [] ∨ pre = [48]) (hW : ∀ b ∈ W, okDig b) (hP : ∀ b ∈ P, okDig b)
    (lW : 0 < W.length ∧ W.length ≤ 39) (lP : P.length = k ∧ k ≤ 40) (hv : val (bytesD W) * 10 ^ 40 + val (bytesD P) * 10 ^ (40 - k) = aV m e) : readR s = (m, e, 0) := by
  have hpW : ∀ b ∈ pre ++ W, okDig b := by
    intro b hb
    rcases List.mem_append.1 hb with g | g
    · rcases hpre with rfl | rfl
      · cases g
      · rw [List.mem_singleton.1 g]; unfold okDig; decide
    · exact hW b g
  have hlp : pre.length ≤ 1 := by rcases hpre with rfl | rfl <;> simp
  obtain ⟨w1, w2, w3⟩ := whole_of (W := pre ++ W) (P := P) k (fun b hb => (okDig_ne (hpW b hb)).1) (fun hk => List.length_eq_zero_iff.1 (by omega))
  have hok : okW s = true := by
    rw [okW_spec, hb, w1, w2, w3]
    refine ⟨isDigs_of (fun h0 => ?_) (by simp; omega) hpW, fun hk => isDigs_of (fun h0 => ?_) (by omega) hP⟩
    · have := congrArg List.length h0; rw [List.length_append] at this; simp only [List.length_nil] at this; omega
    · have := lP.1; rw [h0] at this; simp at this hk; omega
  have hwr : wrS s = aV m e := by
    unfold wrS wrV
    rw [hb, w1, w2, lP.1, ← hv]
    congr 2
    rcases hpre with rfl | rfl
    · rfl
    · show val (bytesD (48 :: W)) = _
      have : bytesD (48 :: W) = 0 :: bytesD W := rfl
      rw [this, val_cons]; omega
  obtain ⟨n1, n2⟩ := near_parts h
  unfold readR
  rw [if_pos hok, hwr, hm, n1, n2, if_pos ⟨rfl, rfl⟩]

theorem minus_app {pre W rest : List UInt8} (hW : ∀ b ∈ pre ++ W, okDig b) (h0 : 0 < (pre ++ W).length) : minusB ((pre ++ W) ++ rest) = false := by
  generalize pre ++ W = V at *
  cases V with
  | nil => simp at h0
  | cons v V =>
    have := (okDig_ne (hW v (by simp))).2
    simp [minusB, this]

theorem text_law {m e : Int} (h : rightB m e = true) : ∃ t : List UInt8, textR m e = (t, 0) ∧ readR t = (m, e, 0) ∧ (m < 0 → readR ([48] ++ t) = (0, 0, 12)) ∧ (¬ m < 0 → readR ([48] ++ t) = (m, e, 0)) ∧ t.length ≤ 200 := by
  have hr := right_spec h
  have hX := aV_bounds (m := m) (e := e) (by omega) (by omega)
  obtain ⟨a, k, a1, a2, k1, ht, hv⟩ := parts_val hX
  obtain ⟨ds, hds⟩ : ∃ ds, digs 88 (aV m e) = ds := ⟨_, rfl⟩
  have hl : ds.length = 88 := by rw [← hds, digs_length]
  have hd : Dig ds := by rw [← hds]; exact digs_dig _ _
  rw [hds] at ht hv
  have hW : ∀ b ∈ sg ds a (48 - a), okDig b := sg_ok hd
  have hP : ∀ b ∈ sg ds 48 k, okDig b := sg_ok hd
  have lW : (sg ds a (48 - a)).length = 48 - a := sg_length (by omega)
  have lP : (sg ds 48 k).length = k := sg_length (by omega)
  rw [← sg_bytes hd, ← sg_bytes hd] at hv
  generalize sg ds a (48 - a) = W at *
  generalize sg ds 48 k = P at *
  have hT : textR m e = ((if decide (m < 0) = true then [45] else []) ++ (W ++ (if k = 0 then [] else 46 :: P)), 0) := by
    unfold textR textB
    rw [if_pos h, hds, ht]
  have hlen : (W ++ (if k = 0 then [] else 46 :: P)).length ≤ 100 := by
    rw [List.length_append]; split <;> simp <;> omega
  refine ⟨_, hT, ?_, fun hm => ?_, fun hm => ?_, ?_⟩
  · by_cases hm : m < 0
    · rw [if_pos (by simpa using hm)]
      have hmin : minusB ([45] ++ (W ++ (if k = 0 then [] else 46 :: P))) = true := by simp [minusB]
      refine read_parts h (pre := []) (W := W) (P := P) (k := k) ?_ (by rw [hmin]; simp [hm]) (.inl rfl) hW hP (by omega) ⟨lP, k1⟩ hv
      unfold bodyS
      rw [if_pos hmin]; simp
    · rw [if_neg (by simpa using hm)]
      have hmin : minusB ([] ++ (W ++ (if k = 0 then [] else 46 :: P))) = false := by
        have := minus_app (pre := []) (W := W) (rest := if k = 0 then [] else 46 :: P) (by simpa using hW) (by simp; omega)
        simpa using this
      refine read_parts h (pre := []) (W := W) (P := P) (k := k) ?_ (by rw [hmin]; simp [hm]) (.inl rfl) hW hP (by omega) ⟨lP, k1⟩ hv
      unfold bodyS
      rw [hmin]; simp
  · rw [if_pos (by simpa using hm)]
    have hne : ∀ b ∈ (48 :: 45 :: W : List UInt8), b ≠ 46 := by
      intro b hb
      simp only [List.mem_cons] at hb
      rcases hb with rfl | rfl | g
      · decide
      · decide
      · exact (okDig_ne (hW b g)).1
    obtain ⟨w1, _, _⟩ := whole_of (W := 48 :: 45 :: W) (P := P) k hne (fun hk => List.length_eq_zero_iff.1 (by omega))
    have hmin : minusB ([48] ++ ([45] ++ (W ++ (if k = 0 then [] else 46 :: P)))) = false := by simp [minusB]
    have hb : bodyS ([48] ++ ([45] ++ (W ++ (if k = 0 then [] else 46 :: P)))) = (48 :: 45 :: W) ++ (if k = 0 then [] else 46 :: P) := by
      unfold bodyS; rw [hmin]; simp
    have hno : ¬ okW ([48] ++ ([45] ++ (W ++ (if k = 0 then [] else 46 :: P)))) = true := by
      rw [okW_spec, hb, w1]
      rintro ⟨g, _⟩
      have := (isDigs_spec g).2.2 45 (by simp)
      revert this; unfold okDig; decide
    unfold readR
    rw [if_neg hno]
  · rw [if_neg (by simpa using hm)]
    have hpW : ∀ b ∈ [48] ++ W, okDig b := by
      intro b hb
      rcases List.mem_append.1 hb with g | g
      · rw [List.mem_singleton.1 g]; unfold okDig; decide
      · exact hW b g
    have hmin : minusB ([48] ++ ([] ++ (W ++ (if k = 0 then [] else 46 :: P)))) = false := by
      have := minus_app (pre := [48]) (W := W) (rest := if k = 0 then [] else 46 :: P) hpW (by simp)
      simpa using this
    refine read_parts h (pre := [48]) (W := W) (P := P) (k := k) ?_ (by rw [hmin]; simp [hm]) (.inr rfl) hW hP (by omega) ⟨lP, k1⟩ hv
    unfold bodyS
    rw [hmin]; simp
  · rw [List.length_append]
    have : (if decide (m < 0) = true then [45] else [] : List UInt8).length ≤ 1 := by split <;> simp
    omega

/-- What is read is right, or nothing. -/
theorem read_cases (s : List UInt8) : ∃ m e c : Int, readR s = (m, e, c) ∧ rightB m e = true ∧ (c = 0 ∨ (c = 10 ∧ m = 0 ∧ e = 0) ∨ (c = 12 ∧ m = 0 ∧ e = 0)) := by
  have hz : rightB 0 0 = true := by decide +kernel
  unfold readR
  split
  · split
    · rename_i hc
      refine ⟨_, _, _, rfl, ?_, .inl rfl⟩
      have h0 := hc.1
      unfold nearE at h0
      unfold nearM
      cases hg : nearGo (digs 88 (wrS s)) 19 0 with
      | none => rw [hg] at h0; simp at h0
      | some q =>
        obtain ⟨N, e⟩ := q
        have hb := nearGo_bounds (digs_dig _ _) 19 0 N e rfl hg
        exact trimmedS_right (by split <;> omega) (by split <;> omega) hb.2.2.1 hb.2.2.2
    · exact ⟨0, 0, 10, rfl, hz, .inr (.inl ⟨rfl, rfl, rfl⟩)⟩
  · exact ⟨0, 0, 12, rfl, hz, .inr (.inr ⟨rfl, rfl, rfl⟩)⟩

end Go.Proofs.Ytabgphldbgdbpaa
