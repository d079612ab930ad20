import Derived.Test.YtabgphldbgdbpaaDecE
set_option linter.unusedVariables false
set_option linter.unusedSimpArgs false
set_option maxRecDepth 20000
namespace Go.Proofs.Ytabgphldbgdbpaa
open Go Sx Dc

def capN (n : Int) : Int := if n ≤ 999999999999999 then n else 0
def capB (n : Int) : Bool := decide (n ≤ 999999999999999)
theorem cap_pos {r : List Nat} {n : Int} (h : n ≤ 999999999999999) : AV.ren r (AV.tuple [.int .i64 (capN n), .bool (capB n)]) = AV.tuple [.int .i64 n, .bool true] := by simp [AV.ren, renL, capN, capB, h]
theorem cap_neg {r : List Nat} {n : Int} (h : ¬ n ≤ 999999999999999) : AV.ren r (AV.tuple [.int .i64 (capN n), .bool (capB n)]) = AV.tuple [.int .i64 0, .bool false] := by simp [AV.ren, renL, capN, capB, h]
theorem capE_pos {n : Int} (h : n ≤ 999999999999999) : AV.tuple [.int .i64 n, .bool true] = AV.tuple [.int .i64 (capN n), .bool (capB n)] := by simp [capN, capB, h]
theorem capE_neg {n : Int} (h : ¬ n ≤ 999999999999999) : AV.tuple [.int .i64 0, .bool false] = AV.tuple [.int .i64 (capN n), .bool (capB n)] := by simp [capN, capB, h]
theorem val_take_succ {l : List Int} {k : Nat} (h : k < l.length) : val (l.take (k + 1)) = val (l.take k) * 10 + l.getD k 0 := by
  rw [List.take_succ_eq_append_getElem h, val_snoc]; simp [List.getD, h]
theorem val_take_mono {l : List Int} (hd : Dig l) : ∀ {k n : Nat}, k ≤ n → n ≤ l.length → val (l.take k) ≤ val (l.take n)
  | k, 0, h, _ => by rw [show k = 0 by omega]; exact Int.le_refl _
  | k, n + 1, h, hn => by
    by_cases e : k = n + 1
    · rw [e]; exact Int.le_refl _
    · have h1 := val_take_mono hd (k := k) (n := n) (by omega) (by omega)
      rw [val_take_succ (by omega)]
      have := hd.getD n
      have := (val_bounds _ (hd.take n)).1
      omega

def whole_inv (mx : Bool) (ds : List Int) (e : Int) (w : Nat) (n : Int) (k : Nat) : AState :=
  ⟨[some (AV.ptr 0 0), some (AV.int .i64 e), none, none, none, none, some (AV.int .i64 n), none, none, none, none, none, none, none, some (AV.slice 0 1 w 88), some (AV.int .i64 ((w : Nat) : Int)), some (AV.int .i64 ((k : Nat) : Int)), none, none, none, none, none, none, none, none, none, none, none, none], [some (AObj.cells ((AV.bool mx) :: (ints .u8 ds)) 50)]⟩

theorem whole_round (mx : Bool) (ds : List Int) (e : Int) (w : Nat) (n : Int) (k : Nat) (hl : ds.length = 88) (hw : w ≤ 88) (hk : k < w) (hn : 0 ≤ n ∧ n ≤ 999999999999999) (hd : 0 ≤ ds.getD k 0 ∧ ds.getD k 0 ≤ 9) (h : ¬ (n * 10 + ds.getD k 0) > 999999999999999) : Tri Try.prog (loopN (bodyOf Try.f58) 0) (whole_inv mx ds e w n k) .normal (whole_inv mx ds e w (n * 10 + ds.getD k 0) (k + 1)) 1 := by
  exact Tri.weak (ob := [AV.ptr 0 0 = AV.ptr 0 0,
        AV.int .i64 e = AV.int .i64 e,
        AV.int .i64 ((n * 10) + (ds.getD k 0)) = AV.int .i64 (n * 10 + ds.getD k 0),
        AV.slice 0 1 w 88 = AV.slice 0 1 w 88,
        AV.int .i64 ((w : Nat) : Int) = AV.int .i64 ((w : Nat) : Int),
        AV.int .i64 ((k + 1 : Nat) : Int) = AV.int .i64 ((k + 1 : Nat) : Int),
        AObj.cells ((AV.bool mx) :: (ints .u8 ds)) 50 = AObj.cells ((AV.bool mx) :: (ints .u8 ds)) 50]) (exec_sound _ [.reg [(0, {val := some (AV.bool true)})], .reg [(0, {val := some (AV.ptr 0 (k + 1))}), (1, {val := some (AV.int .u8 (ds.getD k 0))})], .reg [(1, {val := some (AV.int .i64 (n * 10))}), (3, {val := some (AV.int .i64 (ds.getD k 0))}), (4, {val := some (AV.int .i64 ((n * 10) + (ds.getD k 0)))})], .reg [(1, {val := some (AV.bool false)})], .reg [(0, {val := some (AV.int .i64 ((k + 1 : Nat) : Int))})]] _
    ⟨[AV.bool (decide (((k : Nat) : Int) < ((w : Nat) : Int))) = AV.bool true,
        0 ≤ ((k : Nat) : Int),
        ((k : Nat) : Int) < ((w : Nat) : Int),
        AV.ptr 0 (1 + Int.toNat ((k : Nat) : Int) * 1) = AV.ptr 0 (k + 1),
        0 ≤ (k + 1),
        ((AV.bool mx) :: (ints .u8 ds) : List AV)[(k + 1) - 0]? = some (AV.int .u8 (ds.getD k 0)),
        AV.int .i64 (IntKind.i64.wrap (n * 10)) = AV.int .i64 (n * 10),
        AV.int .i64 (IntKind.i64.wrap (ds.getD k 0)) = AV.int .i64 (ds.getD k 0),
        AV.int .i64 (IntKind.i64.wrap ((n * 10) + (ds.getD k 0))) = AV.int .i64 ((n * 10) + (ds.getD k 0)),
        AV.bool (decide (((n * 10) + (ds.getD k 0)) > 999999999999999)) = AV.bool false,
        AV.int .i64 (IntKind.i64.wrap (((k : Nat) : Int) + 1)) = AV.int .i64 ((k + 1 : Nat) : Int)],
      .normal, ⟨[some (AV.ptr 0 0), some (AV.int .i64 e), none, none, none, none, some (AV.int .i64 ((n * 10) + (ds.getD k 0))), none, some (AV.int .u8 (ds.getD k 0)), none, none, none, none, none, some (AV.slice 0 1 w 88), some (AV.int .i64 ((w : Nat) : Int)), some (AV.int .i64 ((k + 1 : Nat) : Int)), some (AV.bool true), some (AV.ptr 0 (k + 1)), some (AV.int .u8 (ds.getD k 0)), some (AV.int .i64 n), some (AV.int .i64 (n * 10)), some (AV.int .u8 (ds.getD k 0)), some (AV.int .i64 (ds.getD k 0)), some (AV.int .i64 ((n * 10) + (ds.getD k 0))), some (AV.int .i64 ((n * 10) + (ds.getD k 0))), some (AV.bool false), some (AV.int .i64 ((k + 1 : Nat) : Int)), none], [some (AObj.cells ((AV.bool mx) :: (ints .u8 ds)) 50)]⟩, []⟩ (by kernel_rfl)
    ⟨bT (by omega), by omega, by omega, ptrE (by omega), Nat.zero_le _, ints_get' (by omega), wI (by omega), wI (by omega), wI (by omega), bF h, wI (by omega), trivial⟩) (by kernel_rfl)
    ⟨rfl, rfl, rfl, rfl, rfl, rfl, rfl, trivial⟩

def whole_ret (mx : Bool) (ds : List Int) : AState :=
  ⟨[none, none, none, none, some (AV.int .i64 0), some (AV.bool false), none, none, none, none, none, none, none, none, none, none, none, none, none, none, none, none, none, none, none, none, none, none, none], [some (AObj.cells ((AV.bool mx) :: (ints .u8 ds)) 50)]⟩

theorem whole_over (mx : Bool) (ds : List Int) (e : Int) (w : Nat) (n : Int) (k : Nat) (hl : ds.length = 88) (hw : w ≤ 88) (hk : k < w) (hn : 0 ≤ n ∧ n ≤ 999999999999999) (hd : 0 ≤ ds.getD k 0 ∧ ds.getD k 0 ≤ 9) (h : (n * 10 + ds.getD k 0) > 999999999999999) : Tri Try.prog (loopN (bodyOf Try.f58) 0) (whole_inv mx ds e w n k) .ret (whole_ret mx ds) 1 := by
  exact Tri.weak (ob := [AV.int .i64 0 = AV.int .i64 0,
        AV.bool false = AV.bool false,
        AObj.cells ((AV.bool mx) :: (ints .u8 ds)) 50 = AObj.cells ((AV.bool mx) :: (ints .u8 ds)) 50]) (exec_sound _ [.reg [(0, {val := some (AV.bool true)})], .reg [(0, {val := some (AV.ptr 0 (k + 1))}), (1, {val := some (AV.int .u8 (ds.getD k 0))})], .reg [(1, {val := some (AV.int .i64 (n * 10))}), (3, {val := some (AV.int .i64 (ds.getD k 0))}), (4, {val := some (AV.int .i64 ((n * 10) + (ds.getD k 0)))})], .reg [(1, {val := some (AV.bool true)})], .reg []] _
    ⟨[AV.bool (decide (((k : Nat) : Int) < ((w : Nat) : Int))) = AV.bool true,
        0 ≤ ((k : Nat) : Int),
        ((k : Nat) : Int) < ((w : Nat) : Int),
        AV.ptr 0 (1 + Int.toNat ((k : Nat) : Int) * 1) = AV.ptr 0 (k + 1),
        0 ≤ (k + 1),
        ((AV.bool mx) :: (ints .u8 ds) : List AV)[(k + 1) - 0]? = some (AV.int .u8 (ds.getD k 0)),
        AV.int .i64 (IntKind.i64.wrap (n * 10)) = AV.int .i64 (n * 10),
        AV.int .i64 (IntKind.i64.wrap (ds.getD k 0)) = AV.int .i64 (ds.getD k 0),
        AV.int .i64 (IntKind.i64.wrap ((n * 10) + (ds.getD k 0))) = AV.int .i64 ((n * 10) + (ds.getD k 0)),
        AV.bool (decide (((n * 10) + (ds.getD k 0)) > 999999999999999)) = AV.bool true],
      .ret, ⟨[some (AV.ptr 0 0), some (AV.int .i64 e), none, none, some (AV.int .i64 0), some (AV.bool false), some (AV.int .i64 ((n * 10) + (ds.getD k 0))), none, some (AV.int .u8 (ds.getD k 0)), none, none, none, none, none, some (AV.slice 0 1 w 88), some (AV.int .i64 ((w : Nat) : Int)), some (AV.int .i64 ((k : Nat) : Int)), some (AV.bool true), some (AV.ptr 0 (k + 1)), some (AV.int .u8 (ds.getD k 0)), some (AV.int .i64 n), some (AV.int .i64 (n * 10)), some (AV.int .u8 (ds.getD k 0)), some (AV.int .i64 (ds.getD k 0)), some (AV.int .i64 ((n * 10) + (ds.getD k 0))), some (AV.int .i64 ((n * 10) + (ds.getD k 0))), some (AV.bool true), none, none], [some (AObj.cells ((AV.bool mx) :: (ints .u8 ds)) 50)]⟩, []⟩ (by kernel_rfl)
    ⟨bT (by omega), by omega, by omega, ptrE (by omega), Nat.zero_le _, ints_get' (by omega), wI (by omega), wI (by omega), wI (by omega), bT h, trivial⟩) (by kernel_rfl)
    ⟨rfl, rfl, rfl, trivial⟩

def whole_out (mx : Bool) (ds : List Int) (n : Int) : AState :=
  ⟨[none, none, none, none, none, none, some (AV.int .i64 n), none, none, none, none, none, none, none, none, none, none, none, none, none, none, none, none, none, none, none, none, none, none], [some (AObj.cells ((AV.bool mx) :: (ints .u8 ds)) 50)]⟩

theorem whole_last (mx : Bool) (ds : List Int) (e : Int) (w : Nat) (n : Int) : Tri Try.prog (loopN (bodyOf Try.f58) 0) (whole_inv mx ds e w n w) (.exit 0) (whole_out mx ds n) 1 := by
  exact Tri.weak (ob := [AV.int .i64 n = AV.int .i64 n,
        AObj.cells ((AV.bool mx) :: (ints .u8 ds)) 50 = AObj.cells ((AV.bool mx) :: (ints .u8 ds)) 50]) (exec_sound _ [.reg [(0, {val := some (AV.bool false)})]] _
    ⟨[AV.bool (decide (((w : Nat) : Int) < ((w : Nat) : Int))) = AV.bool false],
      .exit 0, ⟨[some (AV.ptr 0 0), some (AV.int .i64 e), none, none, none, none, some (AV.int .i64 n), none, none, none, none, none, none, none, some (AV.slice 0 1 w 88), some (AV.int .i64 ((w : Nat) : Int)), some (AV.int .i64 ((w : Nat) : Int)), some (AV.bool false), none, none, none, none, none, none, none, none, none, none, none], [some (AObj.cells ((AV.bool mx) :: (ints .u8 ds)) 50)]⟩, []⟩ (by kernel_rfl)
    ⟨bF (by omega), trivial⟩) (by kernel_rfl)
    ⟨rfl, rfl, trivial⟩

theorem whole_loop_ok (mx : Bool) (ds : List Int) (e : Int) (w : Nat) (hl : ds.length = 88) (hw : w ≤ 88) (hd : Dig ds) (hN : val (ds.take w) ≤ 999999999999999) :
    Tri Try.prog (.loop (loopN (bodyOf Try.f58) 0)) (whole_inv mx ds e w 0 0) (.exit 0) (whole_out mx ds (val (ds.take w))) 1 := by
  have h := tri_up (P := Try.prog) (body := loopN (bodyOf Try.f58) 0) (ex := .exit 0) (out := whole_out mx ds (val (ds.take w))) (K := 1) (fun k => whole_inv mx ds e w (val (ds.take k)) k) (ne_normal_exit 0) w
    (fun k hk => by
      have h1 := val_take_mono hd (k := k + 1) (n := w) (by omega) (by omega)
      have h2 := val_take_mono hd (k := k) (n := w) (by omega) (by omega)
      have h3 := (val_bounds _ (hd.take k)).1
      rw [val_take_succ (by omega)] at h1
      have hr := whole_round mx ds e w (val (ds.take k)) k hl hw hk (by omega) (hd.getD k) (by omega)
      rw [← val_take_succ (by omega)] at hr
      exact hr) (whole_last mx ds e w _) 0 (Nat.zero_le _)
  simp only [List.take_zero, val_nil] at h
  exact h
theorem whole_loop_over (mx : Bool) (ds : List Int) (e : Int) (w : Nat) (hl : ds.length = 88) (hw : w ≤ 88) (hd : Dig ds) (hN : ¬ val (ds.take w) ≤ 999999999999999) :
    Tri Try.prog (.loop (loopN (bodyOf Try.f58) 0)) (whole_inv mx ds e w 0 0) .ret (whole_ret mx ds) 1 := by
  have h := tri_loop (P := Try.prog) (body := loopN (bodyOf Try.f58) 0) (ex := .ret) (out := whole_ret mx ds) (K := 1) (ι := {k : Nat // k ≤ w ∧ val (ds.take k) ≤ 999999999999999}) (fun i => whole_inv mx ds e w (val (ds.take i.1)) i.1) (fun i => w - i.1) ne_normal_ret
    (fun ⟨k, hk, hv⟩ => by
      have h0 : k < w := by
        rcases Nat.lt_or_ge k w with h | h
        · exact h
        · rw [show k = w by omega] at hv; exact absurd hv hN
      have h3 := (val_bounds _ (hd.take k)).1
      have hs := val_take_succ (l := ds) (k := k) (by omega)
      by_cases hc : val (ds.take (k + 1)) ≤ 999999999999999
      · refine .inl ⟨⟨k + 1, by omega, hc⟩, by simp only; omega, ?_⟩
        have hr := whole_round mx ds e w (val (ds.take k)) k hl hw h0 (by omega) (hd.getD k) (by omega)
        rw [← hs] at hr
        exact hr
      · exact .inr (whole_over mx ds e w (val (ds.take k)) k hl hw h0 (by omega) (hd.getD k) (by omega))) ⟨0, Nat.zero_le _, by simp [val_nil]⟩
  simp only [List.take_zero, val_nil] at h
  exact h

theorem whole_meets (mx : Bool) (ds : List Int) (e : Int) (w : Nat) (hl : ds.length = 88) (hd : Dig ds) (he : -40 ≤ e ∧ e ≤ 48) (hw' : 48 - e = w) : Meets Try.prog 58 [AV.ptr 0 0, AV.int .i64 e] [AObj.cells ((AV.bool mx) :: (ints .u8 ds)) 50] (AV.tuple [AV.int .i64 (capN (val (ds.take w))), AV.bool (capB (val (ds.take w)))]) [AObj.cells ((AV.bool mx) :: (ints .u8 ds)) 50] := by
  have hw : w ≤ 88 := by omega
  by_cases c1 : val (ds.take w) ≤ 999999999999999
  · exact meets_of_exec (fn := Try.f58) 0 [.reg [], .reg [], .reg [(4, {val := some (AV.int .i64 ((w : Nat) : Int))}), (5, {val := some (AV.slice 0 1 w 88)})], .loop (⟨[some (AV.ptr 0 0), some (AV.int .i64 e), none, none, none, none, some (AV.int .i64 0), none, none, none, none, none, none, none, some (AV.slice 0 1 w 88), some (AV.int .i64 ((w : Nat) : Int)), some (AV.int .i64 0), none, none, none, none, none, none, none, none, none, none, none, none], [some (AObj.cells ((AV.bool mx) :: (ints .u8 ds)) 50)]⟩) (.exit 0) (⟨[none, none, none, none, none, none, some (AV.int .i64 (val (ds.take w))), none, none, none, none, none, none, none, none, none, none, none, none, none, none, none, none, none, none, none, none, none, none], [some (AObj.cells ((AV.bool mx) :: (ints .u8 ds)) 50)]⟩), .reg []] [{}, {}]
      (r := ⟨[AV.int .i64 (IntKind.i64.wrap (48 - e)) = AV.int .i64 ((w : Nat) : Int),
          0 ≤ (((w : Nat) : Int) : Int),
          (0 : Nat) ≤ (Int.toNat (((w : Nat) : Int))),
          ((Int.toNat (((w : Nat) : Int))) : Nat) ≤ 88,
          (88 : Nat) ≤ 88,
          AV.slice 0 (if 88 = 0 then 1 else 1 + 0 * 1) ((Int.toNat (((w : Nat) : Int))) - 0) (88 - 0) = AV.slice 0 1 w 88,
          AV.ptr 0 0 = AV.ptr 0 0,
          AV.int .i64 e = AV.int .i64 e,
          AV.int .i64 0 = AV.int .i64 0,
          AV.slice 0 1 w 88 = AV.slice 0 1 w 88,
          AV.int .i64 ((w : Nat) : Int) = AV.int .i64 ((w : Nat) : Int),
          AV.int .i64 0 = AV.int .i64 0,
          AObj.cells ((AV.bool mx) :: (ints .u8 ds)) 50 = AObj.cells ((AV.bool mx) :: (ints .u8 ds)) 50,
          Tri Try.prog (.loop (loopN (bodyOf Try.f58) 0)) (⟨[some (AV.ptr 0 0), some (AV.int .i64 e), none, none, none, none, some (AV.int .i64 0), none, none, none, none, none, none, none, some (AV.slice 0 1 w 88), some (AV.int .i64 ((w : Nat) : Int)), some (AV.int .i64 0), none, none, none, none, none, none, none, none, none, none, none, none], [some (AObj.cells ((AV.bool mx) :: (ints .u8 ds)) 50)]⟩) (.exit 0) (⟨[none, none, none, none, none, none, some (AV.int .i64 (val (ds.take w))), none, none, none, none, none, none, none, none, none, none, none, none, none, none, none, none, none, none, none, none, none, none], [some (AObj.cells ((AV.bool mx) :: (ints .u8 ds)) 50)]⟩) 1],
        .ret, ⟨[none, none, none, none, some (AV.int .i64 (val (ds.take w))), some (AV.bool true), some (AV.int .i64 (val (ds.take w))), none, none, none, none, none, none, none, none, none, none, none, none, none, none, none, none, none, none, none, none, none, some (AV.int .i64 (val (ds.take w)))], [some (AObj.cells ((AV.bool mx) :: (ints .u8 ds)) 50)]⟩, []⟩)
      (ob := [AV.tuple [AV.int .i64 (val (ds.take w)), AV.bool true] = AV.tuple [AV.int .i64 (capN (val (ds.take w))), AV.bool (capB (val (ds.take w)))],
          Avoid (fun n => decide (1 ≤ n)) (AV.tuple [AV.int .i64 (capN (val (ds.take w))), AV.bool (capB (val (ds.take w)))]),
          AObj.cells ((AV.bool mx) :: (ints .u8 ds)) 50 = AObj.cells ((AV.bool mx) :: (ints .u8 ds)) 50,
          AvoidO (fun n => decide (1 ≤ n)) (AObj.cells ((AV.bool mx) :: (ints .u8 ds)) 50)])
      Try.func58 (by kernel_rfl) Try.call58 (by kernel_rfl)
      ⟨wI (by omega), by omega, by omega, by omega, by omega, sliceE (by first | (split <;> omega) | (simp; omega) | simp) (by omega) (by omega), rfl, rfl, rfl, rfl, rfl, rfl, rfl, whole_loop_ok mx ds e w hl hw hd c1, trivial⟩
      (.inl rfl) (by kernel_rfl) ⟨capE_pos c1, Avoid.tuple (AvoidL.cons (Avoid.int _ _ _) (AvoidL.cons (Avoid.bool _ _) (AvoidL.nil _))), rfl, AvoidO.cells (AvoidL.cons (Avoid.bool _ _) (AvoidL.ints _ _ _)), trivial⟩
  · exact meets_of_exec (fn := Try.f58) 0 [.reg [], .reg [], .reg [(4, {val := some (AV.int .i64 ((w : Nat) : Int))}), (5, {val := some (AV.slice 0 1 w 88)})], .loop (⟨[some (AV.ptr 0 0), some (AV.int .i64 e), none, none, none, none, some (AV.int .i64 0), none, none, none, none, none, none, none, some (AV.slice 0 1 w 88), some (AV.int .i64 ((w : Nat) : Int)), some (AV.int .i64 0), none, none, none, none, none, none, none, none, none, none, none, none], [some (AObj.cells ((AV.bool mx) :: (ints .u8 ds)) 50)]⟩) .ret (⟨[none, none, none, none, some (AV.int .i64 0), some (AV.bool false), none, none, none, none, none, none, none, none, none, none, none, none, none, none, none, none, none, none, none, none, none, none, none], [some (AObj.cells ((AV.bool mx) :: (ints .u8 ds)) 50)]⟩)] [{}, {}]
      (r := ⟨[AV.int .i64 (IntKind.i64.wrap (48 - e)) = AV.int .i64 ((w : Nat) : Int),
          0 ≤ (((w : Nat) : Int) : Int),
          (0 : Nat) ≤ (Int.toNat (((w : Nat) : Int))),
          ((Int.toNat (((w : Nat) : Int))) : Nat) ≤ 88,
          (88 : Nat) ≤ 88,
          AV.slice 0 (if 88 = 0 then 1 else 1 + 0 * 1) ((Int.toNat (((w : Nat) : Int))) - 0) (88 - 0) = AV.slice 0 1 w 88,
          AV.ptr 0 0 = AV.ptr 0 0,
          AV.int .i64 e = AV.int .i64 e,
          AV.int .i64 0 = AV.int .i64 0,
          AV.slice 0 1 w 88 = AV.slice 0 1 w 88,
          AV.int .i64 ((w : Nat) : Int) = AV.int .i64 ((w : Nat) : Int),
          AV.int .i64 0 = AV.int .i64 0,
          AObj.cells ((AV.bool mx) :: (ints .u8 ds)) 50 = AObj.cells ((AV.bool mx) :: (ints .u8 ds)) 50,
          Tri Try.prog (.loop (loopN (bodyOf Try.f58) 0)) (⟨[some (AV.ptr 0 0), some (AV.int .i64 e), none, none, none, none, some (AV.int .i64 0), none, none, none, none, none, none, none, some (AV.slice 0 1 w 88), some (AV.int .i64 ((w : Nat) : Int)), some (AV.int .i64 0), none, none, none, none, none, none, none, none, none, none, none, none], [some (AObj.cells ((AV.bool mx) :: (ints .u8 ds)) 50)]⟩) .ret (⟨[none, none, none, none, some (AV.int .i64 0), some (AV.bool false), none, none, none, none, none, none, none, none, none, none, none, none, none, none, none, none, none, none, none, none, none, none, none], [some (AObj.cells ((AV.bool mx) :: (ints .u8 ds)) 50)]⟩) 1],
        .ret, ⟨[none, none, none, none, some (AV.int .i64 0), some (AV.bool false), none, none, none, none, none, none, none, none, none, none, none, none, none, none, none, none, none, none, none, none, none, none, none], [some (AObj.cells ((AV.bool mx) :: (ints .u8 ds)) 50)]⟩, []⟩)
      (ob := [AV.tuple [AV.int .i64 0, AV.bool false] = AV.tuple [AV.int .i64 (capN (val (ds.take w))), AV.bool (capB (val (ds.take w)))],
          Avoid (fun n => decide (1 ≤ n)) (AV.tuple [AV.int .i64 (capN (val (ds.take w))), AV.bool (capB (val (ds.take w)))]),
          AObj.cells ((AV.bool mx) :: (ints .u8 ds)) 50 = AObj.cells ((AV.bool mx) :: (ints .u8 ds)) 50,
          AvoidO (fun n => decide (1 ≤ n)) (AObj.cells ((AV.bool mx) :: (ints .u8 ds)) 50)])
      Try.func58 (by kernel_rfl) Try.call58 (by kernel_rfl)
      ⟨wI (by omega), by omega, by omega, by omega, by omega, sliceE (by first | (split <;> omega) | (simp; omega) | simp) (by omega) (by omega), rfl, rfl, rfl, rfl, rfl, rfl, rfl, whole_loop_over mx ds e w hl hw hd c1, trivial⟩
      (.inl rfl) (by kernel_rfl) ⟨capE_neg c1, Avoid.tuple (AvoidL.cons (Avoid.int _ _ _) (AvoidL.cons (Avoid.bool _ _) (AvoidL.nil _))), rfl, AvoidO.cells (AvoidL.cons (Avoid.bool _ _) (AvoidL.ints _ _ _)), trivial⟩

end Go.Proofs.Ytabgphldbgdbpaa
