/- Layer 26: the law of all calls: the rounds come to what they should. -/
import Derived.Test.YtoekeplljjaehaaDvU2
import Derived.Test.YtoekeplljjaehaaGr08
set_option linter.unusedVariables false
set_option linter.unusedSimpArgs false
namespace Go.Proofs.Ytoekeplljjaehaa
open Go Sx
theorem rowsB_ofN {n : Nat} {P : List (Nat × List UInt8)} (hP : ∀ p ∈ P, p.1 + p.2.length ≤ n) : rowsB n (P.map rowOf) = true := by
  refine List.all_eq_true.2 fun r hr => ?_
  obtain ⟨p, hp, rfl⟩ := List.mem_map.1 hr
  have := hP p hp
  show (decide (0 ≤ ((p.1 : Nat) : Int)) && decide (((p.1 : Nat) : Int).toNat + p.2.length ≤ n)) = true
  rw [decide_eq_true (by omega), decide_eq_true (by simpa using this)]; rfl
theorem rdT_same {α : Type} {n : Nat} {t : List UInt8} {a c : Int} (κ : List UInt8 → Int → Option α) (r : Option α) (h : ∀ s e, κ s e = r) : rdT n t a c κ = r := by
  unfold rdT
  cases (decide (0 ≤ c) && inD n a c.toNat) <;> exact h _ _
theorem rdT_two {α : Type} {n : Nat} {t : List UInt8} {a c : Int} (κ : List UInt8 → Int → List UInt8 → Int → Option α) (r : Option α) (h : ∀ s e, κ s e s e = r) : (rdT n t a c fun s e => rdT n t a c fun s' e' => κ s e s' e') = r := by
  unfold rdT
  cases (decide (0 ≤ c) && inD n a c.toNat) <;> exact h _ _
theorem rdT_chk {α : Type} {n : Nat} {t : List UInt8} {a c : Int} (κ κ' : List UInt8 → Int → Option α) (h : ∀ s e, κ s e = κ' s e) : rdT n t a c κ = rdT n t a c κ' := by
  unfold rdT
  cases (decide (0 ≤ c) && inD n a c.toNat) <;> exact h _ _
theorem restM_ok {α : Type} {n : Nat} {t u : List UInt8} {cp cr : List Bool} {at_ c : Int} {ret nx : Option α} (hu : u = t) (h1 : ∀ b ∈ cp, b = true) (h2 : ∀ b ∈ cr, b = true) (ha : i64B at_ = true) (hc : i64B c = true) (hn : i64B n = true) : restM n t u cp cr at_ c ret nx = nx := by
  subst hu
  have two : ∀ (l : List Bool), (∀ b ∈ l, b = true) → ∀ x y : Bool, x = true → y = true → ∀ b ∈ l ++ [x, y], b = true := fun l hl x y hx hy b hb => by
    rcases List.mem_append.1 hb with hb | hb
    · exact hl b hb
    · simp only [List.mem_cons, List.not_mem_nil, or_false] at hb
      rcases hb with rfl | rfl
      · exact hx
      · exact hy
  have z : i64B 0 = true := rfl
  unfold restM
  rw [chks_true (two cp h1 _ _ ha hc)]
  have e1 : ∀ (s : List UInt8) (e : Int) (s' : List UInt8) (e' : Int) (w : List UInt8) (f : Int), (bcond (!(s == s')) ret (bcond (!(e == e')) ret (chks (rdT n u 0 n fun w' _ => bcond (!(w' == w)) ret nx) (cp ++ [i64B 0, i64B n])))) = (bcond (!(s == s')) ret (bcond (!(e == e')) ret (rdT n u 0 n fun w' _ => bcond (!(w' == w)) ret nx))) := fun s e s' e' w f => by
    rw [chks_true (two cp h1 _ _ z hn)]
  refine (rdT_chk _ _ fun s e => (chks_true (two cr h2 _ _ ha hc)).trans (rdT_chk _ _ fun s' e' => (chks_true (two cr h2 _ _ z hn)).trans (rdT_chk _ _ fun w f => e1 s e s' e' w f))).trans ?_
  refine rdT_two _ nx fun s e => ?_
  simp only [beq_self_eq_true, Bool.not_true, bcond]
  exact rdT_two (fun w _ w' _ => bcond (!(w' == w)) ret nx) nx fun s e => by simp only [beq_self_eq_true, Bool.not_true, bcond]
/-- What a round may count on. -/
structure Hd (L n : Nat) (R : List (List CV)) (at_ c : Int) (j : Nat) : Prop where
  hR : okX L R = true
  hj : j < L
  h20 : j < 20
  hn : 0 < n ∧ n ≤ 320
  ha : i64B at_ = true
  hc : i64B c = true
theorem n64 {n : Nat} (h : n ≤ 320) : i64B n = true := i64B_to (by omega)
section
variable {L n : Nat} {R : List (List CV)} {at_ c : Int} {j : Nat}
theorem Hd.row (h : Hd L n R at_ c j) : j < R.length ∧ i64B (aR R (j : Int)) = true ∧ askN (lR R (j : Int)).length (lR R (j : Int)) = true := by
  have hR := h.hR
  unfold okX at hR
  rw [Bool.and_eq_true] at hR
  obtain ⟨h1, h2⟩ := okA_of hR.1
  have hj : j < R.length := by rw [h1]; exact h.hj
  have hm : Sx.rowAt R j ∈ R := by unfold Sx.rowAt; rw [List.getD_eq_getElem?_getD, List.getElem?_eq_getElem hj]; exact List.getElem_mem hj
  have h3 := List.all_eq_true.1 hR.2 _ hm
  rw [Bool.and_eq_true] at h3
  refine ⟨hj, h2 _ hm, ?_⟩
  unfold askN
  rw [Bool.and_eq_true]
  exact ⟨decide_eq_true ⟨rfl, of_decide_eq_true h3.2⟩, h3.1⟩
theorem Hd.two (h : Hd L n R at_ c j) : ∀ b ∈ [bF (j : Int) L, decide ((j : Int).toNat < R.length) && true && true], b = true := by
  intro b hb
  have := h.hj
  simp only [List.mem_cons, List.not_mem_nil, or_false] at hb
  rcases hb with rfl | rfl
  · exact decide_eq_true (by omega)
  · rw [decide_eq_true (by have := h.row.1; simpa using this)]; rfl
theorem roundM0_ok {α : Type} (h : Hd L n R at_ c j) {k : List UInt8} (hk : k.length = n) (ret n0 : Option α) (n1 : Nat → List UInt8 → List (List CV) → Option α) (ex : Option α) :
    roundM0 L n R at_ c k (j : Int) ret n0 n1 ex = bcond (wrQ n (kdR R j) (aR R j) (sR R j))
      (n1 (pl (aW n (kdR R j) (aR R j)) (sW n (kdR R j) (aR R j) (sR R j))) (splice (aW n (kdR R j) (aR R j)).toNat (sW n (kdR R j) (aR R j) (sR R j)) k) (pr (aW n (kdR R j) (aR R j)) (sW n (kdR R j) (aR R j) (sR R j)))) n0 := by
  obtain ⟨r1, r2, r3⟩ := h.row
  have h1 := h.hj
  have h2 := h.h20
  have hn := h.hn
  unfold roundM0
  rw [bcT (b := decide ((j : Int) < _)) (decide_eq_true (by omega)), bcT (b := decide ((j : Int) < _)) (decide_eq_true (by omega)), chks_true h.two, chks_true (by
    intro b hb
    simp only [List.mem_cons, List.not_mem_nil, or_false] at hb
    rcases hb with rfl | rfl | rfl
    · exact eqAs_refl _
    · exact eqPs_refl _
    · unfold ask0D; rw [decide_eq_true (show k.length = n ∧ 0 < n ∧ n ≤ 320 from ⟨hk, hn⟩), r2, r3]; rfl)]
  have lD1 := lD_ok n
  cases hw : wrQ n (kdR R j) (aR R j) (sR R j) with
  | false =>
    simp only [bcond]
    rw [restM_ok rfl (by
      intro b hb
      simp only [List.mem_cons, List.not_mem_nil, or_false] at hb
      rcases hb with rfl | rfl
      · exact lD1
      · exact decide_eq_true ⟨hk, hk, by omega⟩) (by
      intro b hb
      rw [List.mem_singleton.1 hb]; exact decide_eq_true ⟨hk, hn.1, by omega⟩) h.ha h.hc (n64 hn.2)]
    simp [bcond]
  | true =>
    simp only [bcond]
    unfold wrQ at hw
    simp only [Bool.and_eq_true] at hw
    have hin := of_decide_eq_true hw.2.1
    generalize aW n (kdR R j) (aR R j) = a at hin hw ⊢
    generalize sW n (kdR R j) (aR R j) (sR R j) = s at hin hw ⊢
    have hin2 : a.toNat + s.length ≤ k.length := by omega
    have hsl : (splice a.toNat s k).length = n := by rw [splice_len hin2]; exact hk
    have hpl : pl a s ≤ 320 := by have := parts_len s.length a.toNat s (Nat.le_refl _); unfold pl; omega
    have hp0 : 0 < pl a s := by
      have : s ≠ [] := by intro e; rw [e] at hw; simp at hw
      exact List.length_pos_iff.2 (parts_ne this)
    have hrl : (pr a s).length = pl a s := by unfold pr pl; rw [List.length_map]
    have hrB : rowsB n (pr a s) = true := rowsB_ofN fun p hp => by have := parts_in _ _ _ (Nat.le_refl _) p hp; omega
    rw [restM_ok (layR_parts hin.1 hin2) (by
      intro b hb
      simp only [List.mem_cons, List.not_mem_nil, or_false] at hb
      rcases hb with rfl | rfl | rfl
      · exact lD1
      · exact decide_eq_true ⟨hk, hsl, by omega⟩
      · exact decide_eq_true ⟨hrl, by omega⟩) (by
      intro b hb
      rw [List.mem_singleton.1 hb]; unfold askT; rw [decide_eq_true (show k.length = n ∧ 0 < n ∧ n ≤ 1099511627776 ∧ (pr a s).length = pl a s ∧ 0 < pl a s ∧ pl a s ≤ 1099511627776 from ⟨hk, hn.1, by omega, hrl, hp0, by omega⟩), hrB]; rfl) h.ha h.hc (n64 hn.2)]
    simp [bcond]
theorem rV_ok {α : Type} (h : Hd L n R at_ c j) {m : Nat} {k t : List UInt8} {rows : List (List CV)} (hk : k.length = n) (ht : t.length = n) (hm : rows.length = m) (hm2 : 0 < m ∧ m ≤ 1099511627776) (hr : rowsB n rows = true) (hl : layR rows k = t) (ret nx : Option α) : rV n m k t rows at_ c ret nx = nx := by
  have hn := h.hn
  unfold rV
  rw [restM_ok hl (by
    intro b hb
    simp only [List.mem_cons, List.not_mem_nil, or_false] at hb
    rcases hb with rfl | rfl | rfl
    · exact lD_ok n
    · exact decide_eq_true ⟨hk, ht, by omega⟩
    · exact decide_eq_true ⟨hm, hm2.2⟩) (by
    intro b hb
    rw [List.mem_singleton.1 hb]; unfold askT; rw [decide_eq_true (show k.length = n ∧ 0 < n ∧ n ≤ 1099511627776 ∧ rows.length = m ∧ 0 < m ∧ m ≤ 1099511627776 from ⟨hk, hn.1, by omega, hm, hm2⟩), hr]; rfl) h.ha h.hc (n64 hn.2)]
  simp [bcond]
theorem rN_ok {α : Type} (h : Hd L n R at_ c j) {k : List UInt8} (hk : k.length = n) (ret nx : Option α) : rN n k k k at_ c ret nx = nx := by
  have hn := h.hn
  unfold rN
  rw [restM_ok rfl (by
    intro b hb
    simp only [List.mem_cons, List.not_mem_nil, or_false] at hb
    rcases hb with rfl | rfl
    · exact lD_ok n
    · exact decide_eq_true ⟨hk, hk, by omega⟩) (by
    intro b hb
    rw [List.mem_singleton.1 hb]; exact decide_eq_true ⟨hk, hn.1, by omega⟩) h.ha h.hc (n64 hn.2)]
  simp [bcond]
theorem roundM1_ok {α : Type} (h : Hd L n R at_ c j) {m : Nat} {k t : List UInt8} {rows : List (List CV)} (x ex : Option α) : roundM1 L n m R k t rows (j : Int) true x ex = x := by
  have h1 := h.hj
  have h2 := h.h20
  unfold roundM1
  rw [bcT (b := decide ((j : Int) < _)) (decide_eq_true (by omega)), bcT (b := decide ((j : Int) < _)) (decide_eq_true (by omega)), chks_true h.two, chks_true (by
    intro b hb
    simp only [List.mem_cons, List.not_mem_nil, or_false] at hb
    rcases hb with rfl | rfl | rfl
    · exact eqAs_refl _
    · exact eqPs_refl _
    · rfl)]
end
end Go.Proofs.Ytoekeplljjaehaa

/- Layer 26: the law of all calls: its loop. -/
set_option linter.unusedVariables false
set_option linter.unusedSimpArgs false
namespace Go.Proofs.Ytoekeplljjaehaa
open Go Sx
theorem eDoQ_ok {n m : Nat} {l : List Int} {k t : List UInt8} {rows : List (List CV)} {kd a : Int} {s : List UInt8} {q : Bool} {ms : List PObj} (h : q = true → (yDo1 n m l k t rows kd a s).run pure2 = (Ans.ret (.bool true) ms).run pure2) (hk : k.length = n) (hn : 0 < n ∧ n ≤ 320) (hm : rows.length = m) (hm2 : 0 < m ∧ m ≤ 1099511627776) (hr : rowsB n rows = true) (hl : layR rows k = t) (ha : i64B a = true) (hN : askN l.length l = true) :
    EntOK Try.prog 12 (eDoQ false n m l.length l k t rows kd a s q ms) := fun args pre => by
  unfold eDoQ
  refine ⟨fun g1 => ⟨fun g2 => ⟨fun g3 => ?_, fun _ => trivial⟩, fun _ => trivial⟩, fun _ => trivial⟩
  obtain rfl := eqAs_of g1
  obtain rfl := eqPs_of g2
  exact of_run (ans_comes tDo_ok (cDo1 false n m l.length l k t k rows kd a s)) fun r hr' => (do1_run hk hl hn hm hm2 hr ha hN).trans ((h g3).trans hr')
/-- A state between calls. -/
abbrev WM := List UInt8 × Option (Nat × List UInt8 × List (List CV))
def wS (L : Nat) (R : List (List CV)) (at_ c : Int) (n : Nat) (w : WM) (j : Nat) : PState := match w with
  | (k, none) => sM0 L R at_ c n k (j : Int)
  | (k, some (m, t, rows)) => sM1 L R at_ c n m k t rows (j : Int)
def wInv (n j : Nat) (w : WM) : Prop := match w with
  | (k, none) => k.length = n
  | (k, some (m, t, rows)) => k.length = n ∧ rows.length = m ∧ 0 < m ∧ m ≤ 320 * j ∧ rowsB n rows = true ∧ layR rows k = t
section
variable {L n : Nat} {R : List (List CV)} {at_ c : Int} {j : Nat}
theorem sound1 {T : Tab} (hT : TabOK Try.prog T) {s : PState} {r : Ex × PState} (h : code (ent Try.prog T nolv 64 1 20) Try.prog {} 1 64 1 loopM1 s (endK 1 64 (fun n => hasN [1, 2, 3, 9, 10, 11, 12] n) (fun n => hasN [2, 8, 9] n)) = some r) : Tri Try.prog loopM1 s.toA r.1 r.2.toA 1 :=
  round_sound (ent_sound (T := T) hT host nolv_ok (NF := 64) (m := 1) 20) loops_none h
theorem tM0_ok {k : List UInt8} {i : Int} : TabOK Try.prog (tM0 n k R i) := .cons (fun args pre => eDo0_ok false n _ _ k _ _ _ args pre) (.cons eRead_ok (.cons eRRd_ok .nil))
theorem exitM {w : WM} (hw : wInv n j w) (hj : ¬ (j < L ∧ j < 20)) : Tri Try.prog loopM1 (wS L R at_ c n w j).toA (.exit 0) (sMX R at_).toA 1 := by
  have ex : ∀ {α : Type} (x ex : Option α), bcond (decide ((j : Int) < (L : Int))) (bcond (decide ((j : Int) < 20)) x ex) ex = ex := fun x ex => by
    by_cases h1 : j < L
    · rw [bcT (b := decide _) (decide_eq_true (by omega)), bcF (b := decide _) (decide_eq_false (by omega))]
    · rw [bcF (b := decide _) (decide_eq_false (by omega))]
  obtain ⟨k, p⟩ := w
  cases p with
  | none => exact sound1 tM0_ok ((rM0 L n R at_ c k (j : Int)).trans (ex _ _))
  | some p =>
    obtain ⟨m, t, rows⟩ := p
    exact sound1 (T := tM1 n m k t rows R (j : Int) false (d1 false n m (lR R j) k t k rows)) (.cons (fun args pre => by
      unfold eDoQ
      exact ⟨fun _ => ⟨fun _ => ⟨fun g => absurd g (by simp), fun _ => trivial⟩, fun _ => trivial⟩, fun _ => trivial⟩) (.cons eRead_ok (.cons eRRd_ok .nil))) ((rMA L n m R at_ c k t rows (j : Int) false).trans (ex _ _))
theorem okK_inN {m : Nat} {rows : List (List CV)} (hm : rows.length = m) {l : List Int} {tk : List Bool} (h : okK m tk l = true) : ∀ x ∈ l, ixm (nmI x) rows.length = true := by rw [hm]; exact okK_in h
theorem stepM (h : Hd L n R at_ c j) {w : WM} (hw : wInv n j w) : ∃ w', wInv n (j + 1) w' ∧ Tri Try.prog loopM1 (wS L R at_ c n w j).toA .normal (wS L R at_ c n w' (j + 1)).toA 1 := by
  obtain ⟨r1, r2, r3⟩ := h.row
  have h20 := h.h20
  have hn := h.hn
  have hi : iN (j : Int) = ((j + 1 : Nat) : Int) := iN_nat (by omega)
  obtain ⟨k, p⟩ := w
  cases p with
  | none =>
    have hk : k.length = n := hw
    have key := (rM0 L n R at_ c k (j : Int)).trans (roundM0_ok h hk _ _ _ _)
    rw [hi] at key
    cases hq : wrQ n (kdR R j) (aR R j) (sR R j) with
    | false =>
      rw [hq] at key
      exact ⟨(k, none), hk, sound1 tM0_ok key⟩
    | true =>
      rw [hq] at key
      refine ⟨(k, some (_, _, _)), ?_, sound1 tM0_ok key⟩
      unfold wrQ at hq
      simp only [Bool.and_eq_true] at hq
      have hin := of_decide_eq_true hq.2.1
      generalize aW n (kdR R j) (aR R j) = a at hin hq ⊢
      generalize sW n (kdR R j) (aR R j) (sR R j) = s at hin hq ⊢
      have hin2 : a.toNat + s.length ≤ k.length := by omega
      have hpl : pl a s ≤ 320 := by have := parts_len s.length a.toNat s (Nat.le_refl _); unfold pl; omega
      have hp0 : 0 < pl a s := by
        have : s ≠ [] := by intro e; rw [e] at hq; simp at hq
        exact List.length_pos_iff.2 (parts_ne this)
      exact ⟨hk, by unfold pr pl; rw [List.length_map], hp0, by omega, rowsB_ofN fun p hp => by have := parts_in _ _ _ (Nat.le_refl _) p hp; omega, layR_parts hin.1 hin2⟩
  | some p =>
    obtain ⟨m, t, rows⟩ := p
    obtain ⟨hk, hm, h0, hm3, hr, hl⟩ : k.length = n ∧ rows.length = m ∧ 0 < m ∧ m ≤ 320 * j ∧ rowsB n rows = true ∧ layR rows k = t := hw
    have hm2 : 0 < m ∧ m ≤ 1099511627776 := by omega
    have ht : t.length = n := hl ▸ layR_len hr hk
    have tab : ∀ {ms : List PObj}, (yDo1 n m (lR R j) k t rows (kdR R j) (aR R j) (sR R j)).run pure2 = (Ans.ret (.bool true) ms).run pure2 → TabOK Try.prog (tM1 n m k t rows R (j : Int) true ms) := fun hy => .cons (eDoQ_ok (fun _ => hy) hk hn hm hm2 hr hl r2 r3) (.cons eRead_ok (.cons eRRd_ok .nil))
    have same : (yDo1 n m (lR R j) k t rows (kdR R j) (aR R j) (sR R j)).run pure2 = (Ans.ret (.bool true) (d1 false n m (lR R j) k t k rows)).run pure2 → ∃ w', wInv n (j + 1) w' ∧ Tri Try.prog loopM1 (wS L R at_ c n (k, some (m, t, rows)) j).toA .normal (wS L R at_ c n w' (j + 1)).toA 1 := fun hy => by
      have key := (rMA L n m R at_ c k t rows (j : Int) true).trans ((roundM1_ok h _ _).trans (rV_ok h hk ht hm hm2 hr hl _ _))
      rw [hi] at key
      exact ⟨(k, some (m, t, rows)), ⟨hk, hm, h0, by omega, hr, hl⟩, sound1 (tab hy) key⟩
    cases hw : (kdR R j).tmod 4 == 0 || (kdR R j).tmod 4 == 1 with
    | true =>
      cases hin : inD n (aW n (kdR R j) (aR R j)) (sW n (kdR R j) (aR R j) (sR R j)).length with
      | false => exact same (by unfold yDo1; simp only [Ans.run]; rw [bcT hw, bcF hin])
      | true =>
        cases he : (sW n (kdR R j) (aR R j) (sR R j)).isEmpty with
        | true =>
          have hy : (yDo1 n m (lR R j) k t rows (kdR R j) (aR R j) (sR R j)).run pure2 = (Ans.ret (.bool true) (dWV false true false n m (lR R j) k t k rows (aW n (kdR R j) (aR R j)) (sW n (kdR R j) (aR R j) (sR R j)))).run pure2 := by unfold yDo1; simp only [Ans.run]; rw [bcT hw, bcT hin, bcT he]
          have key := (rMB L n m R at_ c k t rows (j : Int) (aW n (kdR R j) (aR R j)) true (sW n (kdR R j) (aR R j) (sR R j))).trans ((roundM1_ok h _ _).trans (rV_ok h hk ht hm hm2 hr hl _ _))
          rw [hi] at key
          exact ⟨(k, some (m, t, rows)), ⟨hk, hm, h0, by omega, hr, hl⟩, sound1 (tab hy) key⟩
        | false =>
          have hy : (yDo1 n m (lR R j) k t rows (kdR R j) (aR R j) (sR R j)).run pure2 = (Ans.ret (.bool true) (dWV true true true n m (lR R j) k t k rows (aW n (kdR R j) (aR R j)) (sW n (kdR R j) (aR R j) (sR R j)))).run pure2 := by unfold yDo1; simp only [Ans.run]; rw [bcT hw, bcT hin, bcF he]
          have kC := rMC L n m R at_ c k t rows (j : Int) (aW n (kdR R j) (aR R j)) true (sW n (kdR R j) (aR R j) (sR R j))
          have tb := tab hy
          have hin' := of_decide_eq_true hin
          generalize aW n (kdR R j) (aR R j) = a at hin' kC tb
          generalize sW n (kdR R j) (aR R j) (sR R j) = s at hin' kC tb
          have hin2 : a.toNat + s.length ≤ t.length := by omega
          have hpl : pl a s ≤ 320 := by have := parts_len s.length a.toNat s (Nat.le_refl _); unfold pl; omega
          have hrl : (rows ++ pr a s).length = m + pl a s := by unfold pr pl; rw [List.length_append, List.length_map, hm]
          have hrB : rowsB n (rows ++ pr a s) = true := by
            unfold rowsB
            rw [List.all_append, Bool.and_eq_true]
            exact ⟨hr, rowsB_ofN fun p hp => by have := parts_in _ _ _ (Nat.le_refl _) p hp; omega⟩
          have hl2 : layR (rows ++ pr a s) k = splice a.toNat s t := by rw [layR_app, hl]; exact layR_parts hin'.1 hin2
          have key := kC.trans ((roundM1_ok h _ _).trans (rV_ok h hk (by rw [splice_len hin2]; exact ht) hrl (by omega) hrB hl2 _ _))
          rw [hi] at key
          exact ⟨(k, some (m + pl a s, _, _)), ⟨hk, hrl, by omega, by omega, hrB, hl2⟩, sound1 tb key⟩
    | false =>
      cases h2 : (kdR R j).tmod 4 == 2 with
      | true =>
        have hy : (yDo1 n m (lR R j) k t rows (kdR R j) (aR R j) (sR R j)).run pure2 = (Ans.ret (.bool true) (dV false n .nilslice (.vec 8 n) .nilslice (lR R j) t t (.vecR shP rows pT) k (.vecR shP rows qT) [.vecB (layR rows k) 5])).run pure2 := by unfold yDo1; simp only [Ans.run]; rw [bcF hw, bcT h2]
        rw [hl] at hy
        have key := (rMD L n m R at_ c k t rows (j : Int) true t t).trans ((roundM1_ok h _ _).trans (rN_ok h ht _ _))
        rw [hi] at key
        exact ⟨(t, none), ht, sound1 (tab hy) key⟩
      | false =>
        cases he : (cLs m (aR R j) (lR R j)).isEmpty with
        | true =>
          have hy : (yDo1 n m (lR R j) k t rows (kdR R j) (aR R j) (sR R j)).run pure2 = (Ans.ret (.bool true) (dC n (lR R j) k k rows k none)).run pure2 := by unfold yDo1; simp only [Ans.run]; rw [bcF hw, bcF h2, bcT he]
          have key := (rME L n m R at_ c k t rows (j : Int) true k).trans ((roundM1_ok h _ _).trans (rN_ok h hk _ _))
          rw [hi] at key
          exact ⟨(k, none), hk, sound1 (tab hy) key⟩
        | false =>
          cases ho : okK m (tk m) (cLs m (aR R j) (lR R j)) with
          | false => exact same (by unfold yDo1; simp only [Ans.run]; rw [bcF hw, bcF h2, bcF he, bcF ho])
          | true =>
            have hy : (yDo1 n m (lR R j) k t rows (kdR R j) (aR R j) (sR R j)).run pure2 = (Ans.ret (.bool true) (dC n (lR R j) k k rows (layAll rows (cLs m (aR R j) (lR R j)) k) (some (layAll rows (cLs m (aR R j) (lR R j)) k)))).run pure2 := by unfold yDo1; simp only [Ans.run]; rw [bcF hw, bcF h2, bcF he, bcT ho]
            have hx : (layAll rows (cLs m (aR R j) (lR R j)) k).length = n := layAll_len hr (okK_inN hm ho) hk
            generalize layAll rows (cLs m (aR R j) (lR R j)) k = x at hy hx
            have key := (rMD L n m R at_ c k t rows (j : Int) true x x).trans ((roundM1_ok h _ _).trans (rN_ok h hx _ _))
            rw [hi] at key
            exact ⟨(x, none), hx, sound1 (tab hy) key⟩
end
theorem loopM {L n : Nat} {R : List (List CV)} {at_ c : Int} (hR : okX L R = true) (hn : 0 < n ∧ n ≤ 320) (ha : i64B at_ = true) (hc : i64B c = true) {k : List UInt8} (hk : k.length = n) : Tri Try.prog (.loop loopM1) (sM0 L R at_ c n k 0).toA (.exit 0) (sMX R at_).toA 1 := by
  refine tri_loop (ι := { w : Nat × WM // w.1 ≤ 20 ∧ wInv n w.1 w.2 }) (fun w => (wS L R at_ c n w.1.2 w.1.1).toA) (fun w => 20 - w.1.1) (by simp) ?_ ⟨(0, k, none), by simp, hk⟩
  rintro ⟨⟨j, w⟩, h1, h2⟩
  simp only at h1 h2 ⊢
  by_cases hj : j < L ∧ j < 20
  · left
    obtain ⟨w', h3, h4⟩ := stepM ⟨hR, hj.1, hj.2, hn, ha, hc⟩ h2
    exact ⟨⟨(j + 1, w'), by simp only; omega, h3⟩, by simp only; omega, h4⟩
  · exact .inr (exitM h2 hj)
noncomputable def eML (L n : Nat) (R : List (List CV)) (at_ c : Int) (k : List UInt8) : Nat → PState → LAns := fun K st =>
  .chk (Nat.beq K 1) (.chk (eqSt st (sM0 L R at_ c n k 0)) (.chk (okX L R && (decide (0 < n ∧ n ≤ 320) && (i64B at_ && (i64B c && Nat.beq k.length n)))) (.out (.exit 0) (sMX R at_))))
theorem eML_ok (L n : Nat) (R : List (List CV)) (at_ c : Int) (k : List UInt8) (K : Nat) (st : PState) : LAnsOK Try.prog loopM1 K st (eML L n R at_ c k K st) := by
  unfold eML
  refine ⟨fun g1 => ⟨fun g2 => ⟨fun g3 => ?_, fun _ => trivial⟩, fun _ => trivial⟩, fun _ => trivial⟩
  obtain rfl := beqT.1 g1
  obtain rfl := eqSt_of g2
  simp only [Bool.and_eq_true] at g3
  exact loopM g3.1 (of_decide_eq_true g3.2.1) g3.2.2.1 g3.2.2.2.1 (beqT.1 g3.2.2.2.2)
noncomputable def lvM (L n : Nat) (R : List (List CV)) (at_ c : Int) (k : List UInt8) : FuncId → Lv := fun f => match f with
  | 3 => { keep := fun _ => some [1, 2, 3, 9, 10, 11, 12], ent := fun i => match i with | 4 => some (eML L n R at_ c k) | _ => none }
  | _ => {}
theorem lvM_ok (L n : Nat) (R : List (List CV)) (at_ c : Int) (k : List UInt8) : LvOK Try.prog (lvM L n R at_ c k) := by
  intro f fn body hf hb K x hx id e hid he st
  by_cases h : f = 3
  · subst h
    obtain rfl : fn = Try.f3 := (Option.some.inj (Try.func3.symm.trans hf)).symm
    have hbody : body = bodyOf Try.f3 := by unfold bodyOf; rw [hb]; rfl
    subst hbody
    have h1 : loopBodies (bodyOf Try.f3) = [loopM1] := by kernel_rfl
    rw [h1] at hx
    have hx' := List.mem_singleton.1 hx
    have h2 : id = 4 := by
      have h3 : headReg loopM1 = some 4 := by kernel_rfl
      rw [hx', h3] at hid; exact (Option.some.inj hid).symm
    subst h2
    have he' : eML L n R at_ c k = e := Option.some.inj he
    subst he'
    rw [hx']
    exact eML_ok L n R at_ c k K st
  · exfalso
    have : (lvM L n R at_ c k f).ent id = none := by
      unfold lvM
      split
      · exact absurd rfl h
      · rfl
    rw [this] at he; cases he
end Go.Proofs.Ytoekeplljjaehaa

/- Layer 26: the law of all calls, evaluated. -/
set_option linter.unusedVariables false
set_option linter.unusedSimpArgs false
namespace Go.Proofs.Ytoekeplljjaehaa
open Go Sx
def zeros (n : Nat) (k : List UInt8) : Bool := k == List.replicate n 0
def eTwoQ (n : Nat) (k : List UInt8) : Ent := fun args pre => match args, pre with
  | [.int .i64 a], [] => .chk (i64B a) (.chk (Nat.beq (szTw a) n && zeros n k) (.ret (.tuple [.ptr 0 0, .ptr 1 0]) (t0 n k k k)))
  | _, _ => .fail
theorem eTwoQ_ok (n : Nat) (k : List UInt8) : EntOK Try.prog 11 (eTwoQ n k) := fun args pre => by
  have h := eTwo_ok args pre
  unfold eTwo at h
  unfold eTwoQ
  split
  · refine ⟨fun g1 => ⟨fun g2 => ?_, fun _ => trivial⟩, fun _ => trivial⟩
    rw [Bool.and_eq_true] at g2
    have e1 := beqT.1 g2.1
    have e2 : k = List.replicate n 0 := eq_of_beq g2.2
    have h := h.1 g1
    rw [e1, ← e2] at h
    exact h
  · trivial
def tMl (n : Nat) (k : List UInt8) : Tab := [(10, eTrue), (11, eTwoQ n k), (18, eNewD), (19, eNewR)]
theorem tMl_ok (n : Nat) (k : List UInt8) : TabOK Try.prog (tMl n k) := .cons awake_ok (.cons (eTwoQ_ok n k) (.cons eNewD_ok (.cons eNewR_ok .nil)))
def fN (R : List (List CV)) : List PObj := [.raw (.flatN shN R)]
noncomputable def xMl (L n : Nat) (R : List (List CV)) (a at_ c : Int) (k : List UInt8) : Ans :=
  ansChks (.br (okN at_) (.br (okN at_) (.ret (.bool ((at_.toNat : Int) == (at_.toNat : Int))) (fN R)) (.ret (.bool false) (fN R))) (.br (okN at_) (.ret (.bool false) (fN R)) (.ret (.bool true) (fN R))))
    [i64B a, Nat.beq (szTw a) n && zeros n k, eqSt (sM0 L R at_ c n k 0) (sM0 L R at_ c n k 0), okX L R && (decide (0 < n ∧ n ≤ 320) && (i64B at_ && (i64B c && Nat.beq k.length n)))]
set_option maxRecDepth 100000 in
theorem cMl (L n : Nat) (R : List (List CV)) (a at_ c : Int) (k : List UInt8) : Comes (tMl n k) (lvM L n R at_ c k) 3 [.int .i64 a, .dsl 0 L, .int .i64 at_, .int .i64 c] (fN R) (xMl L n R a at_ c k) := by unfold Comes; kernel_rfl
theorem does_true {L : Nat} {R : List (List CV)} {a at_ c : Int} (hR : okX L R = true) (h0 : i64B a = true) (h1 : i64B at_ = true) (h2 : i64B c = true) :
    (xMl L (szTw a) R a at_ c (List.replicate (szTw a) 0)).run pure2 = (Ans.ret (.bool true) (fN R)).run pure2 := by
  have hz := szTw_le a
  unfold xMl
  refine ansChks_run ?_ (by
    intro b hb
    simp only [List.mem_cons, List.not_mem_nil, or_false] at hb
    rcases hb with rfl | rfl | rfl | rfl
    · exact h0
    · rw [Nat.beq_refl, Bool.true_and]; unfold zeros; exact beq_self_eq_true _
    · exact eqSt_refl _
    · rw [hR, decide_eq_true (show 0 < szTw a ∧ szTw a ≤ 320 by omega), h1, h2, List.length_replicate, Nat.beq_refl]; rfl)
  simp only [Ans.run]
  cases okN at_ with
  | true => simp only [bcond]; rw [beq_self_eq_true]
  | false => rfl
end Go.Proofs.Ytoekeplljjaehaa
