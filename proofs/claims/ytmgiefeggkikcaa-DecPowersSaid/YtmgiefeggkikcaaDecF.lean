import Derived.Test.YtmgiefeggkikcaaDecE
set_option linter.unusedVariables false
set_option linter.unusedSimpArgs false
set_option maxRecDepth 20000
namespace Go.Proofs.Ytmgiefeggkikcaa
open Go Sx Dc

def capN (n : Int) : Int := if n ≤ 999999999999999 then n else 0
def capB (n : Int) : Bool := decide (n ≤ 999999999999999)
theorem cap_pos {r : List Nat} {n : Int} (h : n ≤ 999999999999999) : AV.ren r (AV.tuple [.int .i64 (capN n), .bool (capB n)]) = AV.tuple [.int .i64 n, .bool true] := by simp [AV.ren, renL, capN, capB, h]
theorem cap_neg {r : List Nat} {n : Int} (h : ¬ n ≤ 999999999999999) : AV.ren r (AV.tuple [.int .i64 (capN n), .bool (capB n)]) = AV.tuple [.int .i64 0, .bool false] := by simp [AV.ren, renL, capN, capB, h]
theorem capE_pos {n : Int} (h : n ≤ 999999999999999) : AV.tuple [.int .i64 n, .bool true] = AV.tuple [.int .i64 (capN n), .bool (capB n)] := by simp [capN, capB, h]
theorem capE_neg {n : Int} (h : ¬ n ≤ 999999999999999) : AV.tuple [.int .i64 0, .bool false] = AV.tuple [.int .i64 (capN n), .bool (capB n)] := by simp [capN, capB, h]
theorem val_take_succ {l : List Int} {k : Nat} (h : k < l.length) : val (l.take (k + 1)) = val (l.take k) * 10 + l.getD k 0 := by
  rw [List.take_succ_eq_append_getElem h, val_snoc]; simp [List.getD, h]
theorem val_take_mono {l : List Int} (hd : Dig l) : ∀ {k n : Nat}, k ≤ n → n ≤ l.length → val (l.take k) ≤ val (l.take n)
  | k, 0, h, _ => by rw [show k = 0 by omega]; exact Int.le_refl _
  | k, n + 1, h, hn => by
    by_cases e : k = n + 1
    · rw [e]; exact Int.le_refl _
    · have h1 := val_take_mono hd (k := k) (n := n) (by omega) (by omega)
      rw [val_take_succ (by omega)]
      have := hd.getD n
      have := (val_bounds _ (hd.take n)).1
      omega

def whole_inv (mx : Bool) (ds : List Int) (e : Int) (w : Nat) (n : Int) (k : Nat) : AState :=
  ⟨[sP 0 0, sI e, none, none, none, none, sI n, none, none, none, none, none, none, none, some (AV.slice 0 1 w 88), sI ((w : Nat) : Int), sI ((k : Nat) : Int), none, none, none, none, none, none, none, none, none, none, none, none], [some (jC ((jB mx) :: (ints .u8 ds)) 50)]⟩

theorem whole_round (mx : Bool) (ds : List Int) (e : Int) (w : Nat) (n : Int) (k : Nat) (hl : ds.length = 88) (hw : w ≤ 88) (hk : k < w) (hn : 0 ≤ n ∧ n ≤ 999999999999999) (hd : 0 ≤ ds.getD k 0 ∧ ds.getD k 0 ≤ 9) (h : ¬ (n * 10 + ds.getD k 0) > 999999999999999) : Tri Try.prog (loopN (bodyOf Try.f58) 0) (whole_inv mx ds e w n k) .normal (whole_inv mx ds e w (n * 10 + ds.getD k 0) (k + 1)) 1 := by
  exact tri_weak [rG [hhB 0 true], rG [hhV 0 (jP 0 (k + 1)), hhV 1 (jU (ds.getD k 0))], rG [hhI 1 (n * 10), hhI 3 (ds.getD k 0), hhI 4 ((n * 10) + (ds.getD k 0))], rG [hhB 1 false], rG [hhI 0 ((k + 1 : Nat) : Int)]]
    (oA (oS (show AV.bool (decide (((k : Nat) : Int) < ((w : Nat) : Int))) = jB true from bT (by omega))) <| oA (oS (show 0 ≤ ((k : Nat) : Int) from by omega)) <| oA (oS (show ((k : Nat) : Int) < ((w : Nat) : Int) from by omega)) <| oA (oS (show AV.ptr 0 (1 + Int.toNat ((k : Nat) : Int) * 1) = jP 0 (k + 1) from ptrE (by omega))) <| oA (oLf ((jB mx) :: (ints .u8 ds)) ((k + 1)) (jU (ds.getD k 0)) (ints_get' (by omega))) <| oA (oWs (n * 10) (by omega)) <| oA (oWs (ds.getD k 0) (by omega)) <| oA (oWs ((n * 10) + (ds.getD k 0)) (by omega)) <| oA (oS (bF h)) <| oW (((k : Nat) : Int) + 1) ((k + 1 : Nat) : Int) (by omega))
    (oA (oR [jP 0 0, jI e, jI ((n * 10) + (ds.getD k 0)), AV.slice 0 1 w 88, jI ((w : Nat) : Int), jI ((k + 1 : Nat) : Int)]) <| oQ [jC ((jB mx) :: (ints .u8 ds)) 50]) (by kernel_rfl)

def whole_ret (mx : Bool) (ds : List Int) : AState :=
  ⟨[none, none, none, none, sI 0, sB false, none, none, none, none, none, none, none, none, none, none, none, none, none, none, none, none, none, none, none, none, none, none, none], [some (jC ((jB mx) :: (ints .u8 ds)) 50)]⟩

theorem whole_over (mx : Bool) (ds : List Int) (e : Int) (w : Nat) (n : Int) (k : Nat) (hl : ds.length = 88) (hw : w ≤ 88) (hk : k < w) (hn : 0 ≤ n ∧ n ≤ 999999999999999) (hd : 0 ≤ ds.getD k 0 ∧ ds.getD k 0 ≤ 9) (h : (n * 10 + ds.getD k 0) > 999999999999999) : Tri Try.prog (loopN (bodyOf Try.f58) 0) (whole_inv mx ds e w n k) .ret (whole_ret mx ds) 1 := by
  exact tri_weak [rG [hhB 0 true], rG [hhV 0 (jP 0 (k + 1)), hhV 1 (jU (ds.getD k 0))], rG [hhI 1 (n * 10), hhI 3 (ds.getD k 0), hhI 4 ((n * 10) + (ds.getD k 0))], rG [hhB 1 true], rG []]
    (oA (oS (show AV.bool (decide (((k : Nat) : Int) < ((w : Nat) : Int))) = jB true from bT (by omega))) <| oA (oS (show 0 ≤ ((k : Nat) : Int) from by omega)) <| oA (oS (show ((k : Nat) : Int) < ((w : Nat) : Int) from by omega)) <| oA (oS (show AV.ptr 0 (1 + Int.toNat ((k : Nat) : Int) * 1) = jP 0 (k + 1) from ptrE (by omega))) <| oA (oLf ((jB mx) :: (ints .u8 ds)) ((k + 1)) (jU (ds.getD k 0)) (ints_get' (by omega))) <| oA (oWs (n * 10) (by omega)) <| oA (oWs (ds.getD k 0) (by omega)) <| oA (oWs ((n * 10) + (ds.getD k 0)) (by omega)) <| oS (bT h))
    (oA (oR [jI 0, jB false]) <| oQ [jC ((jB mx) :: (ints .u8 ds)) 50]) (by kernel_rfl)

def whole_out (mx : Bool) (ds : List Int) (n : Int) : AState :=
  ⟨[none, none, none, none, none, none, sI n, none, none, none, none, none, none, none, none, none, none, none, none, none, none, none, none, none, none, none, none, none, none], [some (jC ((jB mx) :: (ints .u8 ds)) 50)]⟩

theorem whole_last (mx : Bool) (ds : List Int) (e : Int) (w : Nat) (n : Int) : Tri Try.prog (loopN (bodyOf Try.f58) 0) (whole_inv mx ds e w n w) (.exit 0) (whole_out mx ds n) 1 := by
  exact tri_weak [rG [hhB 0 false]]
    (oS (show AV.bool (decide (((w : Nat) : Int) < ((w : Nat) : Int))) = jB false from bF (by omega)))
    (oA (oR [jI n]) <| oQ [jC ((jB mx) :: (ints .u8 ds)) 50]) (by kernel_rfl)

theorem whole_loop_ok (mx : Bool) (ds : List Int) (e : Int) (w : Nat) (hl : ds.length = 88) (hw : w ≤ 88) (hd : Dig ds) (hN : val (ds.take w) ≤ 999999999999999) :
    Tri Try.prog (.loop (loopN (bodyOf Try.f58) 0)) (whole_inv mx ds e w 0 0) (.exit 0) (whole_out mx ds (val (ds.take w))) 1 := by
  have h := tri_up (P := Try.prog) (body := loopN (bodyOf Try.f58) 0) (ex := .exit 0) (out := whole_out mx ds (val (ds.take w))) (K := 1) (fun k => whole_inv mx ds e w (val (ds.take k)) k) (ne_normal_exit 0) w
    (fun k hk => by
      have h1 := val_take_mono hd (k := k + 1) (n := w) (by omega) (by omega)
      have h2 := val_take_mono hd (k := k) (n := w) (by omega) (by omega)
      have h3 := (val_bounds _ (hd.take k)).1
      rw [val_take_succ (by omega)] at h1
      have hr := whole_round mx ds e w (val (ds.take k)) k hl hw hk (by omega) (hd.getD k) (by omega)
      rw [← val_take_succ (by omega)] at hr
      exact hr) (whole_last mx ds e w _) 0 (Nat.zero_le _)
  simp only [List.take_zero, val_nil] at h
  exact h
theorem whole_loop_over (mx : Bool) (ds : List Int) (e : Int) (w : Nat) (hl : ds.length = 88) (hw : w ≤ 88) (hd : Dig ds) (hN : ¬ val (ds.take w) ≤ 999999999999999) :
    Tri Try.prog (.loop (loopN (bodyOf Try.f58) 0)) (whole_inv mx ds e w 0 0) .ret (whole_ret mx ds) 1 := by
  have h := tri_loop (P := Try.prog) (body := loopN (bodyOf Try.f58) 0) (ex := .ret) (out := whole_ret mx ds) (K := 1) (ι := {k : Nat // k ≤ w ∧ val (ds.take k) ≤ 999999999999999}) (fun i => whole_inv mx ds e w (val (ds.take i.1)) i.1) (fun i => w - i.1) ne_normal_ret
    (fun ⟨k, hk, hv⟩ => by
      have h0 : k < w := by
        rcases Nat.lt_or_ge k w with h | h
        · exact h
        · rw [show k = w by omega] at hv; exact absurd hv hN
      have h3 := (val_bounds _ (hd.take k)).1
      have hs := val_take_succ (l := ds) (k := k) (by omega)
      by_cases hc : val (ds.take (k + 1)) ≤ 999999999999999
      · refine .inl ⟨⟨k + 1, by omega, hc⟩, by simp only; omega, ?_⟩
        have hr := whole_round mx ds e w (val (ds.take k)) k hl hw h0 (by omega) (hd.getD k) (by omega)
        rw [← hs] at hr
        exact hr
      · exact .inr (whole_over mx ds e w (val (ds.take k)) k hl hw h0 (by omega) (hd.getD k) (by omega))) ⟨0, Nat.zero_le _, by simp [val_nil]⟩
  simp only [List.take_zero, val_nil] at h
  exact h

theorem whole_meets (mx : Bool) (ds : List Int) (e : Int) (w : Nat) (hl : ds.length = 88) (hd : Dig ds) (he : -40 ≤ e ∧ e ≤ 48) (hw' : 48 - e = w) : Meets Try.prog 58 [jP 0 0, jI e] [jC ((jB mx) :: (ints .u8 ds)) 50] (jT [jI (capN (val (ds.take w))), jB (capB (val (ds.take w)))]) [jC ((jB mx) :: (ints .u8 ds)) 50] := by
  have hw : w ≤ 88 := by omega
  have o1 := oA (oW (48 - e) ((w : Nat) : Int) (by omega)) <| oA (oS (show 0 ≤ (((w : Nat) : Int) : Int) from by omega)) <| oA (oS (show (0 : Nat) ≤ (Int.toNat (((w : Nat) : Int))) from by omega)) <| oA (oS (show ((Int.toNat (((w : Nat) : Int))) : Nat) ≤ 88 from by omega)) <| oA (oS (show (88 : Nat) ≤ 88 from by omega)) <| oS (show AV.slice 0 (if 88 = 0 then 1 else 1 + 0 * 1) ((Int.toNat (((w : Nat) : Int))) - 0) (88 - 0) = AV.slice 0 1 w 88 from sliceE (by first | (split <;> omega) | (simp; omega) | simp) (by omega) (by omega))
  let q1 : List Orc := [rG [], rG [], rG [hhI 4 ((w : Nat) : Int), hhV 5 (AV.slice 0 1 w 88)]]
  by_cases c1 : val (ds.take w) ≤ 999999999999999
  · exact meets_run (fn := Try.f58) 0 (q1 ++ [.loop (⟨[sP 0 0, sI e, none, none, none, none, sI 0, none, none, none, none, none, none, none, some (AV.slice 0 1 w 88), sI ((w : Nat) : Int), sI 0, none, none, none, none, none, none, none, none, none, none, none, none], [some (jC ((jB mx) :: (ints .u8 ds)) 50)]⟩) (.exit 0) (⟨[none, none, none, none, none, none, sI (val (ds.take w)), none, none, none, none, none, none, none, none, none, none, none, none, none, none, none, none, none, none, none, none, none, none], [some (jC ((jB mx) :: (ints .u8 ds)) 50)]⟩), rG []]) [{}, {}] Try.func58 (by kernel_rfl) Try.call58
      (oA o1 <| oA (oR [jP 0 0, jI e, jI 0, AV.slice 0 1 w 88, jI ((w : Nat) : Int), jI 0]) <| oA (oQ [jC ((jB mx) :: (ints .u8 ds)) 50]) <| oS (show Tri Try.prog (.loop (loopN (bodyOf Try.f58) 0)) (⟨[sP 0 0, sI e, none, none, none, none, sI 0, none, none, none, none, none, none, none, some (AV.slice 0 1 w 88), sI ((w : Nat) : Int), sI 0, none, none, none, none, none, none, none, none, none, none, none, none], [some (jC ((jB mx) :: (ints .u8 ds)) 50)]⟩) (.exit 0) (⟨[none, none, none, none, none, none, sI (val (ds.take w)), none, none, none, none, none, none, none, none, none, none, none, none, none, none, none, none, none, none, none, none, none, none], [some (jC ((jB mx) :: (ints .u8 ds)) 50)]⟩) 1 from whole_loop_ok mx ds e w hl hw hd c1))
      (oA (oS (show jT [jI (val (ds.take w)), jB true] = jT [jI (capN (val (ds.take w))), jB (capB (val (ds.take w)))] from capE_pos c1)) <| oA (oV (D := (fun n => decide (1 ≤ n))) (jT [jI (capN (val (ds.take w))), jB (capB (val (ds.take w)))]) rfl) <| oA (oS (show jC ((jB mx) :: (ints .u8 ds)) 50 = jC ((jB mx) :: (ints .u8 ds)) 50 from rfl)) <| oS (show AvoidO (fun n => decide (1 ≤ n)) (jC ((jB mx) :: (ints .u8 ds)) 50) from AvoidO.cells (AvoidL.cons (Avoid.bool _ _) (AvoidL.ints _ _ _)))) (by kernel_rfl)
  · exact meets_run (fn := Try.f58) 0 (q1 ++ [.loop (⟨[sP 0 0, sI e, none, none, none, none, sI 0, none, none, none, none, none, none, none, some (AV.slice 0 1 w 88), sI ((w : Nat) : Int), sI 0, none, none, none, none, none, none, none, none, none, none, none, none], [some (jC ((jB mx) :: (ints .u8 ds)) 50)]⟩) .ret (⟨[none, none, none, none, sI 0, sB false, none, none, none, none, none, none, none, none, none, none, none, none, none, none, none, none, none, none, none, none, none, none, none], [some (jC ((jB mx) :: (ints .u8 ds)) 50)]⟩)]) [{}, {}] Try.func58 (by kernel_rfl) Try.call58
      (oA o1 <| oA (oR [jP 0 0, jI e, jI 0, AV.slice 0 1 w 88, jI ((w : Nat) : Int), jI 0]) <| oA (oQ [jC ((jB mx) :: (ints .u8 ds)) 50]) <| oS (show Tri Try.prog (.loop (loopN (bodyOf Try.f58) 0)) (⟨[sP 0 0, sI e, none, none, none, none, sI 0, none, none, none, none, none, none, none, some (AV.slice 0 1 w 88), sI ((w : Nat) : Int), sI 0, none, none, none, none, none, none, none, none, none, none, none, none], [some (jC ((jB mx) :: (ints .u8 ds)) 50)]⟩) .ret (⟨[none, none, none, none, sI 0, sB false, none, none, none, none, none, none, none, none, none, none, none, none, none, none, none, none, none, none, none, none, none, none, none], [some (jC ((jB mx) :: (ints .u8 ds)) 50)]⟩) 1 from whole_loop_over mx ds e w hl hw hd c1))
      (oA (oS (show jT [jI 0, jB false] = jT [jI (capN (val (ds.take w))), jB (capB (val (ds.take w)))] from capE_neg c1)) <| oA (oV (D := (fun n => decide (1 ≤ n))) (jT [jI (capN (val (ds.take w))), jB (capB (val (ds.take w)))]) rfl) <| oA (oS (show jC ((jB mx) :: (ints .u8 ds)) 50 = jC ((jB mx) :: (ints .u8 ds)) 50 from rfl)) <| oS (show AvoidO (fun n => decide (1 ≤ n)) (jC ((jB mx) :: (ints .u8 ds)) 50) from AvoidO.cells (AvoidL.cons (Avoid.bool _ _) (AvoidL.ints _ _ _)))) (by kernel_rfl)

end Go.Proofs.Ytmgiefeggkikcaa
