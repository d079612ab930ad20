/- Runs that are told by hints: an elder way to contracts, over the newer triple. -/
import Derived.Test.YtdomenmfkbfakaaGreatDoorGr05
import Derived.Test.YtdomenmfkbfakaaGreatDoorGr03
import Derived.Test.YtdomenmfkbfakaaGreatDoorProg
import Derived.KernelRfl
import Derived.Test.YtdomenmfkbfakaaGreatDoorDecA
import Derived.Lib.Bytealg
set_option linter.unusedVariables false
set_option linter.unusedSimpArgs false
namespace Go.Proofs.YtdomenmfkbfakaaGreatDoor.Sx
open Go
variable {P : Program}

/-- What is told in the order of the text: of each region its hints; of each loop the state at its head, how it is left, and the state behind it. -/
inductive Orc where
  | reg (hs : List (Nat × Hint))
  | loop (sIn : AState) (ex : Ex) (sOut : AState)

def hintOf (hs : List (Nat × Hint)) (i : Nat) : Hint := (hs.lookup i).getD {}

def orderOK (P : Program) (ops : Array Oper) (fs : List Foot) : Bool :=
  let A := ancs (ops.toList.map direct) []
  P.follows .mixedOrders && ancOK ops A && pairsOK ops A (fun i => fs.getD i .no)

structure Out where
  obl : List Prop
  ex : Ex
  st : AState
  rest : List Orc

def exec (P : Program) (K : Nat) : Code → List Orc → AState → Option Out
  | .skip, q, s => some ⟨[], .normal, s, q⟩
  | .label _, q, s => some ⟨[], .normal, s, q⟩
  | .ret, q, s => some ⟨[], .ret, s, q⟩
  | .exit id, q, s => some ⟨[], .exit id, s, q⟩
  | .region _ ops draw, .reg hs :: q, s =>
    match runOps P ops (hintOf hs) (List.range ops.size) s with
    | some (ob, fs, s') => if !draw || orderOK P ops fs then some ⟨ob, .normal, s', q⟩ else none
    | none => none
  | .seq x y, q, s =>
    match exec P K x q s with
    | some ⟨ob, .normal, s', q'⟩ =>
      match exec P K y q' s' with
      | some ⟨ob2, ex, s2, q2⟩ => some ⟨ob ++ ob2, ex, s2, q2⟩
      | none => none
    | r => r
  | .cond c x y, q, s =>
    match s.ev c with
    | some (.bool true) => exec P K x q s
    | some (.bool false) => exec P K y q s
    | _ => none
  | .block id x, q, s =>
    match exec P K x q s with
    | some ⟨ob, .exit j, s', q'⟩ => some ⟨ob, if j == id then .normal else .exit j, s', q'⟩
    | r => r
  | .loop x, .loop sIn ex sOut :: q, s =>
    match weakA s sIn with
    | some ob => some ⟨ob ++ [Tri P (.loop x) sIn ex sOut K], ex, sOut, q⟩
    | none => none
  | _, _, _ => none


/-- A RUN IS SOUND. -/
theorem exec_sound {K : Nat} : ∀ (c : Code) (q : List Orc) (s : AState) (r : Out), exec P K c q s = some r → AllP r.obl → Tri P c s r.ex r.st K
  | .skip, q, s, r, h, hob => by
    simp [exec] at h; subst h
    exact fun ro w0 M E a w hro hR => wpIn_skip ⟨rfl, E, .refl _ _, hR⟩
  | .label l, q, s, r, h, hob => by
    simp [exec] at h; subst h
    exact fun ro w0 M E a w hro hR => wpIn_label ⟨rfl, E, .refl _ _, hR⟩
  | .ret, q, s, r, h, hob => by
    simp [exec] at h; subst h
    exact fun ro w0 M E a w hro hR => wpIn_ret ⟨rfl, E, .refl _ _, hR⟩
  | .exit id, q, s, r, h, hob => by
    simp [exec] at h; subst h
    exact fun ro w0 M E a w hro hR => wpIn_exit ⟨rfl, E, .refl _ _, hR⟩
  | .region id ops draw, q, s, r, h, hob => by
    cases q with
    | nil => simp [exec] at h
    | cons o q =>
      cases o with
      | loop _ _ _ => simp [exec] at h
      | reg hs =>
        simp only [exec] at h
        split at h
        · rename_i ob fs s' hr
          split at h
          · rename_i hd
            cases h
            intro ro w0 M E a w hro hR
            have hlen := runOps_length _ _ _ _ _ hr
            have runs := runs_of_runOps (LG := fun i => fs.getD i .no) _ _ _ _ _ hr hob (fun j => by
              by_cases hj : j < ops.size
              · have hj' : j < fs.length := by simpa [hlen] using hj
                simp [hj, hj', List.getD]
              · have hj' : ¬ j < fs.length := by simpa [hlen] using hj
                rw [List.getElem?_eq_none (by omega), List.getElem?_eq_none (by simp; omega)]; rfl)
            cases draw with
            | false => exact region_text runs hR fun E' a' w' hle h' => ⟨rfl, E', hle.toK, h'⟩
            | true =>
              simp only [Bool.not_true, Bool.false_or, orderOK, Bool.and_eq_true] at hd
              exact region_draw hd.1.1 hd.1.2 hd.2 runs hR fun E' a' w' hle h' => ⟨rfl, E', hle.toK, h'⟩
          · cases h
        · cases h
  | .seq x y, q, s, r, h, hob => by
    simp only [exec] at h
    split at h
    · rename_i ob s' q' hx
      split at h
      · rename_i ob2 ex s2 q2 hy
        cases h
        obtain ⟨k1, k2⟩ := allP_append.1 hob
        have t1 := exec_sound x q s _ hx k1
        have t2 := exec_sound y q' s' _ hy k2
        intro ro w0 M E a w hro hR
        refine wpIn_seq (wpIn_mono (t1 ro w0 M E a w (no_left hro) hR) ?_)
        rintro e a' w' ⟨rfl, E', hle, h'⟩
        refine wpIn_mono (t2 ro w0 M E' a' w' (no_right hro) h') ?_
        rintro e2 a2 w2 ⟨rfl, E2, hle2, h2⟩
        exact ⟨rfl, E2, hle.trans hle2, h2⟩
      · cases h
    · rename_i hx
      have t1 := exec_sound x q s _ h hob
      intro ro w0 M E a w hro hR
      refine wpIn_seq (wpIn_mono (t1 ro w0 M E a w (no_left hro) hR) ?_)
      rintro e a' w' ⟨rfl, E', hle, h'⟩
      obtain ⟨ob, ex, s', q'⟩ := r
      cases ex with
      | normal => exact absurd h (hx ob s' q')
      | exit id => exact ⟨rfl, E', hle, h'⟩
      | ret => exact ⟨rfl, E', hle, h'⟩
  | .cond c x y, q, s, r, h, hob => by
    simp only [exec] at h
    split at h
    · rename_i hc
      intro ro w0 M E a w hro hR
      have := hR.ev hc
      exact wpIn_cond_true (by simpa [den] using this.symm) (exec_sound x q s r h hob ro w0 M E a w (no_left hro) hR)
    · rename_i hc
      intro ro w0 M E a w hro hR
      have := hR.ev hc
      exact wpIn_cond_false (by simpa [den] using this.symm) (exec_sound y q s r h hob ro w0 M E a w (no_right hro) hR)
    · cases h
  | .block id x, q, s, r, h, hob => by
    simp only [exec] at h
    split at h
    · rename_i ob j s' q' hx
      cases h
      have t1 := exec_sound x q s _ hx hob
      intro ro w0 M E a w hro hR
      refine wpIn_block (wpIn_mono (t1 ro w0 M E a w hro hR) ?_)
      rintro e a' w' ⟨rfl, E', hle, h'⟩
      simp only [Ex.to, Exit.inBlock]
      by_cases hj : j = id
      · simp only [hj, if_true, beq_self_eq_true]; exact ⟨trivial, E', hle, h'⟩
      · have hj' : (j == id) = false := by simpa using hj
        simp only [hj, if_false, hj', Bool.false_eq_true]; exact ⟨trivial, E', hle, h'⟩
    · rename_i hx
      have t1 := exec_sound x q s _ h hob
      intro ro w0 M E a w hro hR
      refine wpIn_block (wpIn_mono (t1 ro w0 M E a w hro hR) ?_)
      rintro e a' w' ⟨rfl, E', hle, h'⟩
      obtain ⟨ob, ex, s', q'⟩ := r
      cases ex with
      | normal => exact ⟨rfl, E', hle, h'⟩
      | exit j => exact absurd h (hx ob j s' q')
      | ret => exact ⟨rfl, E', hle, h'⟩
  | .loop x, q, s, r, h, hob => by
    cases q with
    | nil => simp [exec] at h
    | cons o q =>
      cases o with
      | reg _ => simp [exec] at h
      | loop sIn ex sOut =>
        simp only [exec] at h
        split at h
        · rename_i ob hw
          cases h
          obtain ⟨k1, k2, _⟩ := allP_append.1 hob |>.imp id id
          exact fun ro w0 M E a w hro hR => k2 ro w0 M E a w hro (hR.weak hw k1)
        · cases h
  | .rangeFunc _ _ _ _, q, s, r, h, hob => by simp [exec] at h
  | .scope _, q, s, r, h, hob => by simp [exec] at h
  | .goto _, q, s, r, h, hob => by simp [exec] at h
  | .refuse _, q, s, r, h, hob => by simp [exec] at h


/-- THE SAME, OF A BODY WITHOUT A LOOP OF ITS OWN, OR WITH LOOPS THAT ARE TOLD OF. -/
theorem meets_of_exec {f : FuncId} {fn : Func} {args : List AV} {pre post : List AObj} {res : AV} (k : Nat) (q : List Orc) (hs : List Hint) {r : Out} {ob : List Prop} (hfy : f ≠ yF) (hf : P.funcs[f]? = some fn) (hb : fn.body.isSome = true)
    (hent : ∀ args w, (callFunc f args).run P w = .ok (.enter f args) w) (he : exec P pre.length (bodyOf fn) q (start fn.ntmps args pre k) = some r) (h1 : AllP r.obl) (hex : r.ex = .ret ∨ r.ex = .normal) (hfin : finA P fn.results.toList hs r.st pre.length res post = some ob) (hob : AllP ob) (hpo : ((pre.zip post).all fun p => !p.1.owned || p.2.owned || !p.2.live) = true) :
    Meets P f args pre res post :=
  meets_of_tri (body := bodyOf fn) hfy hf (by unfold bodyOf; cases h : fn.body with | none => rw [h] at hb; cases hb | some b => rfl) hent (exec_sound _ _ _ _ he h1) hex hfin hob hpo


abbrev rG (hs : List (Nat × Hint)) : Orc := .reg hs
def runM (P : Program) (fn : Func) (args : List AV) (pre : List AObj) (k : Nat) (q : List Orc) (hs : List Hint) (res : AV) (post : List AObj) : Option (List Prop × List Prop) :=
  match exec P pre.length (bodyOf fn) q (start fn.ntmps args pre k) with
  | some r => match r.ex with
    | .exit _ => none
    | _ => if (pre.zip post).all (fun p => !p.1.owned || p.2.owned || !p.2.live) then (finA P fn.results.toList hs r.st pre.length res post).map fun o => (r.obl, o) else none
  | none => none
theorem meets_run {P : Program} {f : FuncId} {fn : Func} {args : List AV} {pre post : List AObj} {res : AV} (k : Nat) (q : List Orc) (hs : List Hint) {L ob : List Prop} (hf : P.funcs[f]? = some fn) (hb : fn.body.isSome = true)
    (hent : ∀ args w, (callFunc f args).run P w = .ok (.enter f args) w) (h1 : AllP L) (h2 : AllP ob) (he : runM P fn args pre k q hs res post = some (L, ob)) (hfy : f ≠ yF := by decide) : Meets P f args pre res post := by
  unfold runM at he
  split at he
  · rename_i r hr
    have key : r.ex = .ret ∨ r.ex = .normal → (if (pre.zip post).all (fun p => !p.1.owned || p.2.owned || !p.2.live) then (finA P fn.results.toList hs r.st pre.length res post).map (fun o => (r.obl, o)) else none) = some (L, ob) → Meets P f args pre res post := by
      intro hex he
      split at he
      case isFalse => cases he
      rename_i hpq
      rw [Option.map_eq_some_iff] at he
      obtain ⟨o, ho, e⟩ := he
      simp only [Prod.mk.injEq] at e
      obtain ⟨rfl, rfl⟩ := e
      exact meets_of_exec k q hs hfy hf hb hent hr h1 hex ho h2 hpq
    cases hex : r.ex with
    | normal => rw [hex] at he; exact key (.inr hex) he
    | ret => rw [hex] at he; exact key (.inl hex) he
    | exit i => rw [hex] at he; cases he
  · cases he

theorem Tri.weak {c : Code} {s t : AState} {ex : Ex} {s' : AState} {ob : List Prop} {K : Nat} (h : Tri P c s ex s' K) (hw : weakA s' t = some ob) (hob : AllP ob) : Tri P c s ex t K := fun ro w0 M E a w hro hR =>
  wpIn_mono (h ro w0 M E a w hro hR) fun e a' w' ⟨he, E', hle, h'⟩ => ⟨he, E', hle, h'.weak hw hob⟩
def runT (P : Program) (K : Nat) (c : Code) (q : List Orc) (s : AState) (ex : Ex) (tgt : AState → Option (List Prop)) : Option (List Prop × List Prop) :=
  match exec P K c q s with
  | some r => if exB r.ex ex then (tgt r.st).map fun o => (r.obl, o) else none
  | none => none
theorem runT_some {P : Program} {K : Nat} {c : Code} {q : List Orc} {s : AState} {ex : Ex} {tgt : AState → Option (List Prop)} {L ob : List Prop} (he : runT P K c q s ex tgt = some (L, ob)) (h1 : AllP L) : ∃ st, Tri P c s ex st K ∧ tgt st = some ob := by
  unfold runT at he
  split at he
  · rename_i r hr
    split at he
    · rename_i hx
      rw [Option.map_eq_some_iff] at he
      obtain ⟨o, ho, e⟩ := he
      simp only [Prod.mk.injEq] at e
      obtain ⟨rfl, rfl⟩ := e
      exact ⟨r.st, exB_eq hx ▸ exec_sound _ _ _ _ hr h1, ho⟩
    · cases he
  · cases he
theorem tri_weak {P : Program} {K : Nat} {c : Code} {s t : AState} {ex : Ex} (q : List Orc) {L ob : List Prop} (h1 : AllP L) (h2 : AllP ob) (he : runT P K c q s ex (fun st => weakA st t) = some (L, ob)) : Tri P c s ex t K := by
  obtain ⟨st, h, k⟩ := runT_some he h1
  exact Tri.weak h k h2

end Go.Proofs.YtdomenmfkbfakaaGreatDoor.Sx

/- Short words. -/
namespace Go.Proofs.YtdomenmfkbfakaaGreatDoor
theorem lnO {P : Prop} (h : P := by simp only [List.length_cons, List.length_nil, List.length_append, ints_length, u8s_length, List.length_replicate, List.length_set, List.length_map, digs_length] <;> omega) : P := h
end Go.Proofs.YtdomenmfkbfakaaGreatDoor


set_option linter.unusedVariables false
set_option linter.unusedSimpArgs false
set_option maxRecDepth 20000
namespace Go.Proofs.YtdomenmfkbfakaaGreatDoor.Dq
open Go Sx Dc

theorem size_meets (n : Int) (h : -9223372036854775808 < n ∧ n < 9223372036854775808) : Meets Tryz.prog 111 [jI n] [] (jI ((n.natAbs : Nat) : Int)) [] := by
  let q1 : List Orc := [rG []]
  by_cases c1 : n < 0
  · exact meets_run (fn := Tryz.f111) 0 (q1 ++ [rG [hhB 1 true], rG [hhI 1 (-n)]]) [{}] Tryz.func111 (by kernel_rfl) Tryz.call111
      (oA (oS (bT c1)) <| oW (0 - n) (-n) (by omega))
      (oS (show jI (-n) = jI ((n.natAbs : Nat) : Int) from intE (by omega))) (by kernel_rfl)
  · exact meets_run (fn := Tryz.f111) 0 (q1 ++ [rG [hhB 1 false], rG []]) [{}] Tryz.func111 (by kernel_rfl) Tryz.call111
      (oS (bF c1))
      (oS (show jI n = jI ((n.natAbs : Nat) : Int) from intE (by omega))) (by kernel_rfl)

def rightB (m e : Int) : Bool := decide (-999999999999999 ≤ m ∧ m ≤ 999999999999999 ∧ -9 ≤ e ∧ e ≤ 9 ∧ (m = 0 → e = 0) ∧ (m ≠ 0 → e = 9 ∨ m.tmod 10 ≠ 0))

def trimD : Nat → Int → Int → Int × Int
  | 0, m, e => (m, e)
  | n + 1, m, e => if m.tmod 10 = 0 then trimD n (m.tdiv 10) (e + 1) else (m, e)
/-- The one form of m times ten to e. -/
def trimmedS (m e : Int) : Int × Int := if m = 0 then (0, 0) else trimD (9 - e).toNat m e






end Go.Proofs.YtdomenmfkbfakaaGreatDoor.Dq


set_option linter.unusedVariables false
set_option linter.unusedSimpArgs false
set_option maxRecDepth 20000
namespace Go.Proofs.YtdomenmfkbfakaaGreatDoor.Dq
open Go Sx Dc

theorem cmpI_val : ∀ (xs ys : List Int), Dig xs → Dig ys → xs.length = ys.length → cmpI xs ys = if val xs < val ys then -1 else if val ys < val xs then 1 else 0
  | [], [], _, _, _ => by simp [cmpI, val]
  | [], _ :: _, _, _, h => by simp at h
  | _ :: _, [], _, _, h => by simp at h
  | x :: xs, y :: ys, hx, hy, hl => by
    obtain ⟨hx1, hx2⟩ := hx.cons
    obtain ⟨hy1, hy2⟩ := hy.cons
    have hl' : xs.length = ys.length := by simpa using hl
    have ih := cmpI_val xs ys hx2 hy2 hl'
    have bx := val_bounds xs hx2
    have b := val_bounds ys hy2
    rw [← hl'] at b
    rw [cmpI, ih, val_cons, val_cons, ← hl']
    have hp := pow_pos' xs.length
    generalize (10 : Int) ^ xs.length = p at *
    by_cases h1 : x < y
    · have : (x + 1) * p ≤ y * p := Int.mul_le_mul_of_nonneg_right (by omega) (by omega)
      rw [Int.add_mul] at this
      rw [if_pos h1, if_pos (by omega)]
    · by_cases h2 : y < x
      · have : (y + 1) * p ≤ x * p := Int.mul_le_mul_of_nonneg_right (by omega) (by omega)
        rw [Int.add_mul] at this
        rw [if_neg h1, if_pos h2, if_neg (by omega), if_pos (by omega)]
      · have : x = y := by omega
        subst this
        rw [if_neg h1, if_neg h2]
        split <;> split <;> first | rfl | omega | (split <;> first | rfl | omega)

theorem Dig.u8 {l : List Int} (h : Dig l) : ∀ x ∈ l, 0 ≤ x ∧ x < 256 := fun x hx => by have := h x hx; omega

def lay_inv (m e r : Int) (p : Nat) (ds : List Int) : AState :=
  ⟨([none, none, sP 1 0, sP 2 0, sI r, sI (87 - (p : Int))] ++ nn 23), [some (jC [jI m, jI e] 23), some (jC ((jB false) :: (ints .u8 (List.replicate 88 0))) 96), some (jC ((jB (decide (m < 0))) :: (ints .u8 ds)) 96)]⟩

theorem lay_round (m e r : Int) (p : Nat) (ds : List Int) (hlen : ds.length = 88) (h1 : 0 < r) (h2 : r < 9223372036854775808) (h3 : p < 88) : Tri Tryz.prog (loopN (bodyOf Tryz.f78) 0) (lay_inv m e r p ds) .normal (lay_inv m e (r / 10) (p + 1) (ds.set (87 - (p : Int)).toNat (r % 10))) := by
  exact tri_weak [rG [hhB 1 true], rG [hhI 2 (r % 10), hhV 3 (jU (r % 10)), hhV 5 (jP 2 (((87 - (p : Int))).toNat + 1)), (6, {obj := some [jC ((jB (decide (m < 0))) :: (ints .u8 (ds.set (((87 - (p : Int))).toNat) (r % 10)))) 96]})], rG [hhI 1 (r / 10)], rG [hhI 1 ((87 - (p : Int)) - 1)]]
    (oA (oS (bT h1)) <| oA (oS (show (10 : Int) ≠ 0 from by decide)) <| oA (oS (show AV.int .i64 (r.tmod 10) = jI (r % 10) from remI (by omega))) <| oA (oS (show AV.int .u8 (IntKind.u8.wrap (r % 10)) = jU (r % 10) from w_u8 (by omega))) <| oA (oS (show 0 ≤ (87 - (p : Int)) from by omega)) <| oA (oS (show (87 - (p : Int)) < ((88 : Nat) : Int) from by omega)) <| oA (oS (show AV.ptr 2 (1 + Int.toNat (87 - (p : Int)) * 1) = jP 2 (((87 - (p : Int))).toNat + 1) from ptrE (by omega))) <| oA (oS (show ([jU (r % 10)] : List AV).length = 1 from rfl)) <| oA (oS (show (((87 - (p : Int))).toNat + 1) + 1 ≤ List.length ((jB (decide (m < 0))) :: (ints .u8 ds)) from lnO)) <| oA (oS (show AObj.cells (List.take (((87 - (p : Int))).toNat + 1) ((jB (decide (m < 0))) :: (ints .u8 ds)) ++ [jU (r % 10)] ++ List.drop ((((87 - (p : Int))).toNat + 1) + 1) ((jB (decide (m < 0))) :: (ints .u8 ds))) 96 = jC ((jB (decide (m < 0))) :: (ints .u8 (ds.set (((87 - (p : Int))).toNat) (r % 10)))) 96 from store_ints [jB (decide (m < 0))] (by omega))) <| oA (oS (show (10 : Int) ≠ 0 from by decide)) <| oA (oS (show AV.int .i64 (IntKind.i64.wrap (r.tdiv 10)) = jI (r / 10) from quoI (by omega))) <| oWs ((87 - (p : Int)) - 1) (by omega))
    (oA (oR [jP 1 0, jP 2 0, jI (r / 10)]) <| oA (oS (show jI ((87 - (p : Int)) - 1) = jI (87 - ((p + 1 : Nat) : Int)) from intE (by omega))) <| oQ [jC [jI m, jI e] 23, jC ((jB false) :: (ints .u8 (List.replicate 88 0))) 96, jC ((jB (decide (m < 0))) :: (ints .u8 (ds.set (((87 - (p : Int))).toNat) (r % 10)))) 96]) (by kernel_rfl)

def lay_out (m e : Int) (ds : List Int) : AState :=
  ⟨([none, none, sP 1 0, sP 2 0] ++ nn 25), [some (jC [jI m, jI e] 23), some (jC ((jB false) :: (ints .u8 (List.replicate 88 0))) 96), some (jC ((jB (decide (m < 0))) :: (ints .u8 ds)) 96)]⟩

theorem lay_last (m e r : Int) (p : Nat) (ds : List Int) (hlen : ds.length = 88) (h1 : ¬ 0 < r) : Tri Tryz.prog (loopN (bodyOf Tryz.f78) 0) (lay_inv m e r p ds) (.exit 0) (lay_out m e ds) := by
  exact tri_weak [rG [hhB 1 false]]
    (oS (bF h1))
    (oA (oR [jP 1 0, jP 2 0]) <| oQ [jC [jI m, jI e] 23, jC ((jB false) :: (ints .u8 (List.replicate 88 0))) 96, jC ((jB (decide (m < 0))) :: (ints .u8 ds)) 96]) (by kernel_rfl)

theorem lay_loop (m e N : Int) (r0 : Int) (p0 : Nat) (hr0 : 0 ≤ r0 ∧ r0 < 9223372036854775808) (hp0 : p0 ≤ 88) (hN : r0 * 10 ^ p0 = N) (hb : N < 10 ^ 80) :
    Tri Tryz.prog (.loop (loopN (bodyOf Tryz.f78) 0)) (lay_inv m e r0 p0 (digs 88 0)) (.exit 0) (lay_out m e (digs 88 N)) := by
  refine tri_loop (ι := {q : Int × Nat × Int // 0 ≤ q.1 ∧ q.1 < 9223372036854775808 ∧ 0 ≤ q.2.2 ∧ q.2.2 < 10 ^ q.2.1 ∧ q.1 * 10 ^ q.2.1 + q.2.2 = N}) (fun i => lay_inv m e i.1.1 i.1.2.1 (digs 88 i.1.2.2)) (fun i => i.1.1.toNat) (ne_normal_exit 0) ?_ ⟨(r0, p0, 0), hr0.1, hr0.2, Int.le_refl 0, pow_pos' p0, by simp only; omega⟩
  rintro ⟨⟨r, p, v⟩, h1, h2, h3, h4, h5⟩
  simp only at h1 h2 h3 h4 h5
  by_cases hr : 0 < r
  · have hp : p < 88 := by
      rcases Nat.lt_or_ge p 88 with h | h
      · exact h
      · exfalso
        have a1 : (10 : Int) ^ 88 ≤ 10 ^ p := pow_mono h
        have a2 : 1 * (10 : Int) ^ p ≤ r * 10 ^ p := Int.mul_le_mul_of_nonneg_right (by omega) (by have := pow_pos' p; omega)
        have a3 : (10 : Int) ^ 80 ≤ 10 ^ 88 := by decide
        omega
    have e1 : digs 88 (r % 10 * 10 ^ p + v) = (digs 88 v).set (87 - (p : Int)).toNat (r % 10) := by
      rw [show (87 - (p : Int)).toNat = 88 - 1 - p by omega, digs_set hp h3 h4 (by omega)]
    refine .inl ⟨⟨(r / 10, p + 1, r % 10 * 10 ^ p + v), by simp only; omega, by simp only; omega, ?_, ?_, ?_⟩, by simp only; omega, by simp only [e1]; exact lay_round m e r p _ (digs_length _ _) hr h2 hp⟩
    · simp only
      have : 0 ≤ r % 10 * 10 ^ p := Int.mul_nonneg (by omega) (by have := pow_pos' p; omega)
      omega
    · simp only
      have : r % 10 * 10 ^ p ≤ 9 * 10 ^ p := Int.mul_le_mul_of_nonneg_right (by omega) (by have := pow_pos' p; omega)
      rw [Int.pow_succ]; omega
    · simp only
      rw [Int.pow_succ, ← h5, ← Int.add_assoc]
      congr 1
      rw [Int.mul_comm (10 ^ p) 10, ← Int.mul_assoc, ← Int.add_mul]
      congr 1; omega
  · have hr0 : r = 0 := by omega
    subst hr0
    have hv : v = N := by simpa using h5
    subst hv
    exact .inr (lay_last m e 0 p _ (digs_length _ _) (by omega))

theorem lay_meets (m e : Int) (ds : List Int) (hm : -1000000000000000 < m ∧ m < 1000000000000000) (he : -18 ≤ e ∧ e ≤ 18) (hds : digs 88 ((m.natAbs : Int) * 10 ^ (e + 40).toNat) = ds) : Meets Tryz.prog 78 [jA [jI m, jI e]] [] (jA ((jB (decide (m < 0))) :: (ints .u8 ds))) [] := by
  have hb : (m.natAbs : Int) * 10 ^ (e + 40).toNat < 10 ^ 80 := by
    have a1 : (10 : Int) ^ (e + 40).toNat ≤ 10 ^ 58 := pow_mono (by omega)
    have a2 : (m.natAbs : Int) * 10 ^ (e + 40).toNat ≤ 10 ^ 15 * 10 ^ 58 := Int.mul_le_mul (by omega) a1 (by have := pow_pos' (e + 40).toNat; omega) (by decide)
    have a3 : (10 : Int) ^ 15 * 10 ^ 58 < 10 ^ 80 := by decide
    omega
  have hlen : ds.length = 88 := by rw [← hds, digs_length]
  have hl := lay_loop m e _ (m.natAbs : Int) (e + 40).toNat ⟨by omega, by omega⟩ (by omega) rfl hb
  rw [hds, ← zeros_digs] at hl
  exact meets_run (fn := Tryz.f78) 3 [rG [hhN 0 0, (1, {nm := [1], obj := some [jC ((jB false) :: (ints .u8 (List.replicate 88 0))) 96]})], rG [hhI 1 m, hhV 3 (jA ((jB (decide (m < 0))) :: (ints .u8 (List.replicate 88 0)))), (4, {nm := [2], obj := some [jC ((jB false) :: (ints .u8 (List.replicate 88 0))) 96]}), (5, {obj := some [jC ((jB (decide (m < 0))) :: (ints .u8 (List.replicate 88 0))) 96]})], rG [hhI 1 m, hhM 2 (size_meets m (by omega))], rG [hhI 1 e, hhI 2 (47 - e)], .loop (⟨([none, none, sP 1 0, sP 2 0, sI ((m.natAbs : Nat) : Int), sI (87 - (((e + 40).toNat : Nat) : Int))] ++ nn 23), [some (jC [jI m, jI e] 23), some (jC ((jB false) :: (ints .u8 (List.replicate 88 0))) 96), some (jC ((jB (decide (m < 0))) :: (ints .u8 (List.replicate 88 0))) 96)]⟩) (.exit 0) (⟨([none, none, sP 1 0, sP 2 0] ++ nn 25), [some (jC [jI m, jI e] 23), some (jC ((jB false) :: (ints .u8 (List.replicate 88 0))) 96), some (jC ((jB (decide (m < 0))) :: (ints .u8 ds)) 96)]⟩), rG [hhV 0 (jA ((jB (decide (m < 0))) :: (ints .u8 ds))), (1, {obj := some [jC ((jB (decide (m < 0))) :: (ints .u8 ds)) 96]})]] [{val := some (jA ((jB (decide (m < 0))) :: (ints .u8 ds)))}] Tryz.func78 (by kernel_rfl) Tryz.call78
    (oA (oS (show AObj.cells (zeroCellsA Tryz.prog 96) 96 = jC ((jB false) :: (ints .u8 (List.replicate 88 0))) 96 from by kernel_rfl)) <| oA (oLf ([jI m, jI e]) (0) (jI m) (rfl)) <| oA (oS (show ([jB (decide (m < 0))] : List AV).length = 1 from rfl)) <| oA (oS (show 0 + 1 ≤ ((zeroCellsA Tryz.prog 96) : List AV).length from Nat.le_of_ble_eq_true (by kernel_rfl))) <| oA (oS (show AV.agg (List.take 0 (zeroCellsA Tryz.prog 96) ++ [jB (decide (m < 0))] ++ List.drop 1 (zeroCellsA Tryz.prog 96)) = jA ((jB (decide (m < 0))) :: (ints .u8 (List.replicate 88 0))) from by kernel_rfl)) <| oA (oS (show AObj.cells (zeroCellsA Tryz.prog 96) 96 = jC ((jB false) :: (ints .u8 (List.replicate 88 0))) 96 from by kernel_rfl)) <| oA (oSw (n := 89) ((jB (decide (m < 0))) :: (ints .u8 (List.replicate 88 0))) ((jB false) :: (ints .u8 (List.replicate 88 0))) 96 lnO lnO) <| oA (oLf ([jI m, jI e]) (0) (jI m) (rfl)) <| oA (oC (size_meets m (by omega)) rfl) <| oA (oLf ([jI m, jI e]) (1) (jI e) (rfl)) <| oA (oWs (47 - e) (by omega)) <| oA (oR [jP 1 0, jP 2 0, jI ((m.natAbs : Nat) : Int)]) <| oA (oS (show jI (47 - e) = jI (87 - (((e + 40).toNat : Nat) : Int)) from intE (by omega))) <| oA (oQ [jC [jI m, jI e] 23, jC ((jB false) :: (ints .u8 (List.replicate 88 0))) 96, jC ((jB (decide (m < 0))) :: (ints .u8 (List.replicate 88 0))) 96]) <| oA (oS (show Tri Tryz.prog (.loop (loopN (bodyOf Tryz.f78) 0)) (⟨([none, none, sP 1 0, sP 2 0, sI ((m.natAbs : Nat) : Int), sI (87 - (((e + 40).toNat : Nat) : Int))] ++ nn 23), [some (jC [jI m, jI e] 23), some (jC ((jB false) :: (ints .u8 (List.replicate 88 0))) 96), some (jC ((jB (decide (m < 0))) :: (ints .u8 (List.replicate 88 0))) 96)]⟩) (.exit 0) (⟨([none, none, sP 1 0, sP 2 0] ++ nn 25), [some (jC [jI m, jI e] 23), some (jC ((jB false) :: (ints .u8 (List.replicate 88 0))) 96), some (jC ((jB (decide (m < 0))) :: (ints .u8 ds)) 96)]⟩) from hl)) <| oA (oLw (n := 89) ((jB (decide (m < 0))) :: (ints .u8 ds)) lnO) <| oSw (n := 89) ((jB (decide (m < 0))) :: (ints .u8 ds)) ((jB false) :: (ints .u8 (List.replicate 88 0))) 96 lnO lnO)
    (oA (oLw (n := 89) ((jB (decide (m < 0))) :: (ints .u8 ds)) lnO) <| oA (oS (@rfl _ (jA ((jB (decide (m < 0))) :: (ints .u8 ds))))) <| oS (show Avoid (fun n => decide (0 ≤ n)) (jA ((jB (decide (m < 0))) :: (ints .u8 ds))) from Avoid.agg (AvoidL.cons (Avoid.bool _ _) (AvoidL.ints _ _ _)))) (by kernel_rfl)


end Go.Proofs.YtdomenmfkbfakaaGreatDoor.Dq


set_option linter.unusedVariables false
set_option linter.unusedSimpArgs false
set_option maxRecDepth 20000
namespace Go.Proofs.YtdomenmfkbfakaaGreatDoor.Dq
open Go Sx Dc

/-- The greatest of the first n numbers (of the first one, if n is 0). -/
def maxU (l : List Int) : Nat → Int
  | 0 => l.getD 0 0
  | n + 1 => max (maxU l n) (l.getD n 0)
theorem maxU_zero {l : List Int} (h : ∀ x ∈ l, 0 ≤ x) : ∀ n, n ≤ l.length → 0 < l.length → 0 ≤ maxU l n ∧ (maxU l n = 0 → ∀ i, i < n → l.getD i 0 = 0) ∧ ((∀ i, i < l.length → l.getD i 0 = 0) → maxU l n = 0)
  | 0, _, h0 => by
    have e : l.getD 0 0 = l[0] := by simp [List.getD, h0]
    exact ⟨by rw [maxU, e]; exact h _ (List.getElem_mem h0), fun _ i hi => by omega, fun a => a 0 h0⟩
  | n + 1, hn, h0 => by
    obtain ⟨h1, h2, h3⟩ := maxU_zero h n (by omega) h0
    have e : l.getD n 0 = l[n] := by simp [List.getD, (by omega : n < l.length)]
    have hp : 0 ≤ l.getD n 0 := by rw [e]; exact h _ (List.getElem_mem (by omega))
    refine ⟨by rw [maxU]; omega, fun g i hi => ?_, fun a => ?_⟩
    · rw [maxU] at g
      by_cases hi' : i = n
      · subst hi'; omega
      · exact h2 (by omega) i (by omega)
    · rw [maxU, h3 a, a n (by omega)]; rfl
theorem maxU_val {l : List Int} (h : Dig l) (h0 : 0 < l.length) : maxU l l.length = 0 ↔ val l = 0 := by
  obtain ⟨_, h2, h3⟩ := maxU_zero (fun x hx => (h x hx).1) l.length (Nat.le_refl _) h0
  rw [val_zero_iff h]
  constructor
  · intro g d hd
    obtain ⟨i, hi, rfl⟩ := List.getElem_of_mem hd
    have := h2 g i hi
    simpa [List.getD, hi] using this
  · intro g
    refine h3 fun i hi => ?_
    have := g l[i] (List.getElem_mem hi)
    simpa [List.getD, hi] using this

theorem max_round (l : List Int) (o c n : Nat) (h : n < l.length) (hl : l.length < 9223372036854775808) : Tri Tryz.prog (loopN (bodyOf Tryz.f147) 0) (⟨([some (AV.slice 0 o l.length c), none, none, some (jU (maxU l n)), sI ((n : Nat) : Int)] ++ nn 20), [some (AObj.ro o (ints .u8 l))]⟩) .normal (⟨([some (AV.slice 0 o l.length c), none, none, some (jU (maxU l (n + 1))), sI ((n + 1 : Nat) : Int)] ++ nn 20), [some (AObj.ro o (ints .u8 l))]⟩) 1 := by
  exact tri_weak [rG [hhB 3 true], rG [hhV 3 (jP 0 (o + n)), hhV 4 (jU (l.getD n 0)), hhV 5 (jU (max (maxU l n) (l.getD n 0)))], rG [hhI 1 ((n + 1 : Nat) : Int)]]
    (oA (oS (show AV.bool (decide (((n : Nat) : Int) < ((l.length : Nat) : Int))) = jB true from bT (by omega))) <| oA (oS (show 0 ≤ ((n : Nat) : Int) from by omega)) <| oA (oS (show ((n : Nat) : Int) < ((l.length : Nat) : Int) from by omega)) <| oA (oS (show AV.ptr 0 (o + Int.toNat ((n : Nat) : Int) * 1) = jP 0 (o + n) from ptrE (by omega))) <| oA (oS (show o ≤ (o + n) from by omega)) <| oA (oS (show (ints .u8 l : List AV)[(o + n) - o]? = some (jU (l.getD n 0)) from ints_at [] (by simp only [List.length_nil, List.length_cons] <;> omega) (by omega))) <| oA (oS (show AV.int .u8 (if (l.getD n 0) > maxU l n then (l.getD n 0) else maxU l n) = jU (max (maxU l n) (l.getD n 0)) from maxI)) <| oW (((n : Nat) : Int) + 1) ((n + 1 : Nat) : Int) (by omega))
    (oA (oR [AV.slice 0 o l.length c]) <| oA (oS (show jU (max (maxU l n) (l.getD n 0)) = jU (maxU l (n + 1)) from by rw [maxU])) <| oA (oR [jI ((n + 1 : Nat) : Int)]) <| oQ [AObj.ro o (ints .u8 l)]) (by kernel_rfl)

def max_inv (l : List Int) (o c n : Nat) : AState :=
  ⟨([some (AV.slice 0 o l.length c), none, none, some (jU (maxU l n)), sI ((n : Nat) : Int)] ++ nn 20), [some (AObj.ro o (ints .u8 l))]⟩

def max_out (l : List Int) (o c : Nat) : AState :=
  ⟨([none, none, none, some (jU (maxU l l.length))] ++ nn 21), [some (AObj.ro o (ints .u8 l))]⟩

theorem max_last (l : List Int) (o c : Nat) (hl : l.length < 9223372036854775808) : Tri Tryz.prog (loopN (bodyOf Tryz.f147) 0) (⟨([some (AV.slice 0 o l.length c), none, none, some (jU (maxU l l.length)), sI ((l.length : Nat) : Int)] ++ nn 20), [some (AObj.ro o (ints .u8 l))]⟩) (.exit 0) (⟨([none, none, none, some (jU (maxU l l.length))] ++ nn 21), [some (AObj.ro o (ints .u8 l))]⟩) 1 := by
  exact tri_weak [rG [hhB 3 false]]
    (oS (show AV.bool (decide (((l.length : Nat) : Int) < ((l.length : Nat) : Int))) = jB false from bF (by omega)))
    (oA (oR [jU (maxU l l.length)]) <| oQ [AObj.ro o (ints .u8 l)]) (by kernel_rfl)

theorem max_loop (l : List Int) (o c : Nat) (h0 : 1 ≤ l.length) (hl : l.length < 9223372036854775808) : Tri Tryz.prog (.loop (loopN (bodyOf Tryz.f147) 0)) (max_inv l o c 1) (.exit 0) (max_out l o c) 1 :=
  tri_up (max_inv l o c) (ne_normal_exit 0) l.length (fun k hk => max_round l o c k hk hl) (max_last l o c hl) 1 h0

theorem max_meets (l : List Int) (o c : Nat) (h0 : 1 ≤ l.length) (hl : l.length < 9223372036854775808) : Meets Tryz.prog 147 [AV.slice 0 o l.length c] [AObj.ro o (ints .u8 l)] (jU (maxU l l.length)) [AObj.ro o (ints .u8 l)] := by
  exact meets_run (fn := Tryz.f147) 0 [rG [], rG [hhB 2 false], rG [hhV 1 (jP 0 o), hhV 2 (jU (l.getD 0 0))], rG [], .loop (⟨([some (AV.slice 0 o l.length c), none, none, some (jU (maxU l 1)), sI ((1 : Nat) : Int)] ++ nn 20), [some (AObj.ro o (ints .u8 l))]⟩) (.exit 0) (⟨([none, none, none, some (jU (maxU l l.length))] ++ nn 21), [some (AObj.ro o (ints .u8 l))]⟩), rG []] [{}] Tryz.func147 (by kernel_rfl) Tryz.call147
    (oA (oS (show AV.bool (decide (((l.length : Nat) : Int) < 1)) = jB false from bF (by omega))) <| oA (oS (show 0 ≤ (0 : Int) from by decide)) <| oA (oS (show (0 : Int) < ((l.length : Nat) : Int) from by omega)) <| oA (oS (show AV.ptr 0 (o + Int.toNat (0 : Int) * 1) = jP 0 o from ptrE (by omega))) <| oA (oS (show o ≤ o from by omega)) <| oA (oS (show (ints .u8 l : List AV)[o - o]? = some (jU (l.getD 0 0)) from ints_at [] (by simp only [List.length_nil, List.length_cons] <;> omega) (by omega))) <| oA (oR [AV.slice 0 o l.length c]) <| oA (oS (show jU (l.getD 0 0) = jU (maxU l 1) from intE (by simp only [maxU]; omega))) <| oA (oR [jI 1]) <| oA (oQ [AObj.ro o (ints .u8 l)]) <| oS (show Tri Tryz.prog (.loop (loopN (bodyOf Tryz.f147) 0)) (⟨([some (AV.slice 0 o l.length c), none, none, some (jU (maxU l 1)), sI ((1 : Nat) : Int)] ++ nn 20), [some (AObj.ro o (ints .u8 l))]⟩) (.exit 0) (⟨([none, none, none, some (jU (maxU l l.length))] ++ nn 21), [some (AObj.ro o (ints .u8 l))]⟩) 1 from max_loop l o c h0 hl))
    (oA (oS (@rfl _ (jU (maxU l l.length)))) <| oA (oS (show AObj.ro o (ints .u8 l) = AObj.ro o (ints .u8 l) from rfl)) <| oS (show AvoidO (fun n => decide (1 ≤ n)) (AObj.ro o (ints .u8 l)) from AvoidO.ro (AvoidL.ints _ _ _))) (by kernel_rfl)

theorem none_meets (l : List Int) (o c : Nat) (h0 : 1 ≤ l.length) (hl : l.length < 9223372036854775808) (hd : Dig l) : Meets Tryz.prog 132 [AV.slice 0 o l.length c] [AObj.ro o (ints .u8 l)] (jB (decide (val l = 0))) [AObj.ro o (ints .u8 l)] := by
  exact meets_run (fn := Tryz.f132) 0 [rG [], rG [(1, {call := some ⟨[0], [AV.slice 0 o l.length c], [AObj.ro o (ints .u8 l)], jU (maxU l l.length), [AObj.ro o (ints .u8 l)]⟩, obj := some [AObj.ro o (ints .u8 l)]})]] [{}] Tryz.func132 (by kernel_rfl) Tryz.call132
    (oA (oS (show [AV.slice 0 o l.length c] = renL [0] [AV.slice 0 o l.length c] from rfl)) <| oA (oS (show Meets Tryz.prog 147 [AV.slice 0 o l.length c] [AObj.ro o (ints .u8 l)] (jU (maxU l l.length)) [AObj.ro o (ints .u8 l)] from max_meets l o c h0 hl)) <| oA (oS (show Fits (AObj.ro o (ints .u8 l)) (AObj.ren [0] (AObj.ro o (ints .u8 l))) from Fits.of_eq (by simp only [AObj.ren, renL, AV.ren, renL_ints, renL_u8s, renL_append]))) <| oS (show updOf [0] [AObj.ro o (ints .u8 l)] [AObj.ro o (ints .u8 l)] [AObj.ro o (ints .u8 l)] ++ List.map (fun x => x.ren [0]) (List.drop 1 [AObj.ro o (ints .u8 l)]) = [AObj.ro o (ints .u8 l)] from rfl))
    (oA (oS (show jB ((maxU l l.length) == 0) = jB (decide (val l = 0)) from boolE (by rw [Bool.eq_iff_iff]; simp [maxU_val hd h0]))) <| oA (oS (show AObj.ro o (ints .u8 l) = AObj.ro o (ints .u8 l) from rfl)) <| oS (show AvoidO (fun n => decide (1 ≤ n)) (AObj.ro o (ints .u8 l)) from AvoidO.ro (AvoidL.ints _ _ _))) (by kernel_rfl)

end Go.Proofs.YtdomenmfkbfakaaGreatDoor.Dq


set_option linter.unusedVariables false
set_option linter.unusedSimpArgs false
set_option maxRecDepth 20000
namespace Go.Proofs.YtdomenmfkbfakaaGreatDoor.Dq
open Go Sx Dc










end Go.Proofs.YtdomenmfkbfakaaGreatDoor.Dq


set_option linter.unusedVariables false
set_option linter.unusedSimpArgs false
set_option maxRecDepth 20000
namespace Go.Proofs.YtdomenmfkbfakaaGreatDoor.Dq
open Go Sx Dc

/-- A window into figures. -/
theorem fits_fig {m : AV} {ds us : List Int} {t off i : Nat} (r : List Nat) (ho : off = i + 1) (hu : (ds.drop i).take us.length = us) : Fits (.cells (m :: ints .u8 ds) t) (AObj.ren r (.ro off (ints .u8 us))) := by
  rw [show AObj.ren r (.ro off (ints .u8 us)) = .ro off (ints .u8 us) by simp only [AObj.ren, renL_ints]]
  refine Fits.ro (o0 := 0) rfl rfl (Nat.zero_le _) ?_
  rw [ho, Nat.sub_zero, List.drop_succ_cons, ints_length]
  simp only [ints] at *
  rw [← List.map_drop, ← List.map_take, hu]




end Go.Proofs.YtdomenmfkbfakaaGreatDoor.Dq


set_option linter.unusedVariables false
set_option linter.unusedSimpArgs false
set_option maxRecDepth 20000
namespace Go.Proofs.YtdomenmfkbfakaaGreatDoor.Dq
open Go Sx Dc












end Go.Proofs.YtdomenmfkbfakaaGreatDoor.Dq

/- What texts say of decimals: plain mathematics. -/
set_option linter.unusedVariables false
set_option linter.unusedSimpArgs false
namespace Go.Proofs.YtdomenmfkbfakaaGreatDoor.Dq
open Go Dc

def idx46 (s : List UInt8) : Int := Lib.indexByte s 46
/-- Is there a minus ahead? -/
def minusB (s : List UInt8) : Bool := decide (s.head? = some 45)
def okDig (b : UInt8) : Prop := 48 ≤ b.toNat ∧ b.toNat ≤ 57
instance : DecidablePred okDig := fun b => inferInstanceAs (Decidable (48 ≤ b.toNat ∧ b.toNat ≤ 57))
def isDigs (s : List UInt8) : Bool := decide (s ≠ [] ∧ s.length ≤ 40 ∧ ∀ b ∈ s, okDig b)
def bytesD (s : List UInt8) : List Int := s.map fun b => (b.toNat : Int) - 48
def bodyS (s : List UInt8) : List UInt8 := if minusB s = true then s.drop 1 else s
def wholeS (b : List UInt8) : List UInt8 := if 0 ≤ idx46 b then b.take (idx46 b).toNat else b
def partS (b : List UInt8) : List UInt8 := if 0 ≤ idx46 b then b.drop ((idx46 b).toNat + 1) else []
def okW (s : List UInt8) : Bool := isDigs (wholeS (bodyS s)) && (!decide (0 ≤ idx46 (bodyS s)) || isDigs (partS (bodyS s)))
end Go.Proofs.YtdomenmfkbfakaaGreatDoor.Dq


set_option linter.unusedVariables false
set_option linter.unusedSimpArgs false
set_option maxRecDepth 20000
namespace Go.Proofs.YtdomenmfkbfakaaGreatDoor.Dq
open Go Sx Dc









end Go.Proofs.YtdomenmfkbfakaaGreatDoor.Dq


set_option linter.unusedVariables false
set_option linter.unusedSimpArgs false
set_option maxRecDepth 20000
namespace Go.Proofs.YtdomenmfkbfakaaGreatDoor.Dq
open Go Sx Dc










end Go.Proofs.YtdomenmfkbfakaaGreatDoor.Dq


set_option linter.unusedVariables false
set_option linter.unusedSimpArgs false
set_option maxRecDepth 20000
namespace Go.Proofs.YtdomenmfkbfakaaGreatDoor.Dq
open Go Sx Dc

/-- A text's figures: so many noughts, its digits, and noughts. -/
def wrA (w : List UInt8) (k : Nat) : List Int := List.replicate (48 - w.length) 0 ++ (bytesD (w.take k) ++ List.replicate (40 + w.length - k) 0)
def wrB (w p : List UInt8) (k : Nat) : List Int := List.replicate (48 - w.length) 0 ++ (bytesD w ++ (bytesD (p.take k) ++ List.replicate (40 - k) 0))
attribute [irreducible] wrA wrB













end Go.Proofs.YtdomenmfkbfakaaGreatDoor.Dq


set_option linter.unusedVariables false
set_option linter.unusedSimpArgs false
set_option maxRecDepth 20000
namespace Go.Proofs.YtdomenmfkbfakaaGreatDoor.Dq
open Go Sx Dc

def aV (m e : Int) : Int := ((m.natAbs : Nat) : Int) * 10 ^ (e + 40).toNat
theorem digs_aV (m e : Int) : digs 88 (((m.natAbs : Nat) : Int) * 10 ^ (e + 40).toNat) = digs 88 (aV m e) := rfl
end Go.Proofs.YtdomenmfkbfakaaGreatDoor.Dq


set_option linter.unusedVariables false
set_option linter.unusedSimpArgs false
set_option maxRecDepth 20000
namespace Go.Proofs.YtdomenmfkbfakaaGreatDoor.Dq
open Go Sx Dc



end Go.Proofs.YtdomenmfkbfakaaGreatDoor.Dq

/- The evaluator, part P: a slice that grows may be told of its first rows alone. -/
set_option linter.unusedVariables false
set_option linter.unusedSimpArgs false
namespace Go.Proofs.YtdomenmfkbfakaaGreatDoor.Sx
open Go
variable {P : Program} {R : Type}
end Go.Proofs.YtdomenmfkbfakaaGreatDoor.Sx

/- The evaluator, part Q: a slice that a call has made, sealed; rows that grow as rows that are never written. -/
set_option linter.unusedVariables false
set_option linter.unusedSimpArgs false
namespace Go.Proofs.YtdomenmfkbfakaaGreatDoor.Sx
open Go
variable {P : Program}
theorem den_seal {E : Env} {nm len : Nat} {x : Value} (h : den E (.vec nm len) = some x) : den E (.dsl nm len) = some x := by
  simp only [den, Option.bind_eq_some_iff] at h ⊢
  obtain ⟨p, hp, hq⟩ := h
  split at hq
  · rename_i hc
    refine ⟨p, hp, ?_⟩
    rw [hc.1, if_neg (by simp), if_pos hc.2.2, hc.2.1]; exact hq
  · cases hq
/-- A slice that grows, handed back as one that is never written. -/
theorem meets_seal {f : FuncId} {args : List AV} {pre post : List AObj} {res res' : AV} {j : Nat} {cs : List AV} {t : TypeId} {sz : Nat} {o' : AObj} (h : Meets P f args pre res post) (hj : post[j]? = some (.vec cs t sz)) (hjp : pre.length ≤ j)
    (hres : ∀ E x, den E res = some x → den E res' = some x) (hfit : Fits (.vec cs t sz) o') (how : o'.owned = false) : Meets P f args pre res' (post.set j o') := by
  intro w E xs hxs hp
  refine (h w E xs hxs hp).mono ?_
  rintro e w' ⟨E', x, he, hd, hq⟩
  refine ⟨E', x, he, hres _ _ hd, ?_⟩
  have hjl : j < post.length := (List.getElem?_eq_some_iff.1 hj).1
  exact {
    le := hq.le
    cut := fun n hn => hq.cut n (by rw [List.length_set] at hn; exact hn)
    objs := fun n o hn => by
      rcases set_get hn with ⟨rfl, rfl⟩ | ⟨e, hn⟩
      · obtain ⟨b, c, hb, ho⟩ := hq.objs n _ hj
        exact ⟨b, c, hb, hfit _ _ _ _ ho⟩
      · exact hq.objs n o hn
    made := fun n b1 c1 o hn ho he ht => by
      have key : ∀ {p : AObj}, post[n]? = some p → touches b1 c1 p b1 → w.heap.size ≤ b1 ∨ ∃ (j' : Nat) (c' : Cap) (o : AObj), pre[j']? = some o ∧ o.owned = true ∧ (post.set j o')[j']? = some AObj.dead ∧ E j' = some (b1, c') := fun hp' ht' => by
        rcases hq.made n b1 c1 _ hn hp' he ht' with k | ⟨j', c', o2, k1, k2, k3, k4⟩
        · exact .inl k
        · have : j' < pre.length := (List.getElem?_eq_some_iff.1 k1).1
          exact .inr ⟨j', c', o2, k1, k2, get_set (by omega) k3, k4⟩
      rcases set_get ho with ⟨rfl, rfl⟩ | ⟨e, ho⟩
      · exact key hj rfl
      · exact key ho ht
    bare := fun n b1 c1 hn he => hq.bare n b1 c1 hn he
    keep := hq.keep
    newApart := fun n m o o2 b1 c1 b2 c2 hn hm ho hm' h1 h2 e1 e2 hne => by
      rcases set_get ho with ⟨_, k1⟩ | ⟨_, ho1⟩
      · rw [k1, how] at h1; cases h1
      · rcases set_get hm' with ⟨k1, k2⟩ | ⟨_, hm1⟩
        · exact fun ht => hq.newApart n m o (.vec cs t sz) b1 c1 b2 c2 hn hm ho1 (by rw [k1]; exact hj) h1 rfl e1 e2 hne (touches_eq ht)
        · exact hq.newApart n m o o2 b1 c1 b2 c2 hn hm ho1 hm1 h1 h2 e1 e2 hne
    grow := hq.grow, os := hq.os, tape := hq.tape, output := hq.output }
theorem meets_sealI {f : FuncId} {args : List AV} {pre post : List AObj} {res res' : AV} {j : Nat} {k : IntKind} {l l' : List Int} {t : TypeId} (h : Meets P f args pre res post) (hj : post[j]? = some (.vec (ints k l) t 1)) (hjp : pre.length ≤ j)
    (hres : ∀ E x, den E res = some x → den E res' = some x) (hl : l.take l'.length = l') : Meets P f args pre res' (post.set j (.flat true (ints k l'))) := meets_seal h hj hjp hres (Fits.vec_flat hl) rfl
/-- A slice that grows, handed over, and handed back as one that is never written, of another name. -/
theorem meets_hand {f : FuncId} {args : List AV} {pre post : List AObj} {j len : Nat} {cs : List AV} {t : TypeId} {sz : Nat} {m : Bool} {k : IntKind} {l l' : List Int} (h : Meets P f args pre (.vec j len) post) (hpre : pre[j]? = some (.vec cs t sz)) (hj : post[j]? = some (.vec (ints k l) t sz)) (hpp : pre.length ≤ post.length) (hl : l.take l'.length = l') :
    Meets P f args pre (.dsl post.length len) (post.set j .dead ++ [.flat m (ints k l')]) := by
  intro w E xs hxs hp
  refine (h w E xs hxs hp).mono ?_
  rintro e w' ⟨E', x, he, hd, hq⟩
  obtain ⟨b, c, hb, hob⟩ := hq.objs j _ hj
  obtain ⟨b0, c0, hb0, hob0⟩ := hp.objs j _ hpre
  have hbb := hq.le _ _ hb0
  rw [hb] at hbb
  obtain ⟨rfl, rfl⟩ : b = b0 ∧ c = c0 := by cases hbb; exact ⟨rfl, rfl⟩
  have hlt : b < w.heap.size := hob0.lt rfl rfl
  obtain ⟨ys, zs, hy, hw, hlen, ho, hz⟩ := id hob
  let c2 : Cap := { n := c.n }
  have hfit : ObjR E' w' b c2 (.flat m (ints k l')) := by
    have h1 : ObjR E' w' b c2 (.vec (ints k l) t sz) := ⟨ys, zs, hy, hw, hlen, rfl, rfl⟩
    exact Fits.vec_flat hl _ _ _ _ h1
  let E2 : Env := fun n => if n = post.length then some (b, c2) else E' n
  have h2 : E2 post.length = some (b, c2) := by simp [E2]
  have hle : Env.le E' E2 := fun n p hn => by
    have : n ≠ post.length := fun e => by rw [e, hq.cut _ (Nat.le_refl _)] at hn; cases hn
    simp [E2, this, hn]
  have back : ∀ (n b1 : Nat) (c1 : Cap), E2 n = some (b1, c1) → n ≠ post.length → E' n = some (b1, c1) := fun n b1 c1 hn hne => by
    have : E2 n = E' n := by simp [E2, hne]
    rw [← this]; exact hn
  have hjl : j < post.length := (List.getElem?_eq_some_iff.1 hj).1
  have ob : ∀ (n : Nat) (o : AObj), (post.set j .dead ++ [AObj.flat m (ints k l')])[n]? = some o → (n = j ∧ o = .dead) ∨ (n ≠ j ∧ n < post.length ∧ post[n]? = some o) ∨ (n = post.length ∧ o = .flat m (ints k l')) := fun n o hn => by
    rcases Nat.lt_or_ge n post.length with h1 | h1
    · rw [List.getElem?_append_left (by rw [List.length_set]; exact h1)] at hn
      rcases set_get hn with ⟨e1, e2⟩ | ⟨e1, e2⟩
      · exact .inl ⟨e1, e2⟩
      · exact .inr (.inl ⟨e1, h1, e2⟩)
    · rw [List.getElem?_append_right (by rw [List.length_set]; exact h1), List.length_set] at hn
      obtain ⟨k1, k2⟩ := List.getElem?_eq_some_iff.1 hn
      have : n = post.length := by simp at k1; omega
      subst this
      simp at k2; exact .inr (.inr ⟨rfl, k2.symm⟩)
  have dd : ∀ (n : Nat), post[n]? = some AObj.dead → (post.set j .dead ++ [AObj.flat m (ints k l')])[n]? = some AObj.dead := fun n hn => by
    have hn1 : n < post.length := (List.getElem?_eq_some_iff.1 hn).1
    have hne : n ≠ j := fun e => by rw [e, hj] at hn; cases hn
    rw [List.getElem?_append_left (by rw [List.length_set]; exact hn1)]
    exact get_set hne hn
  have dj : (post.set j .dead ++ [AObj.flat m (ints k l')])[j]? = some AObj.dead := by
    rw [List.getElem?_append_left (by rw [List.length_set]; exact hjl), List.getElem?_set_self hjl]
  refine ⟨E2, x, he, ?_, ?_⟩
  · simp only [den, hb, Option.bind_some] at hd
    simp only [den, h2, Option.bind_some]
    split at hd
    · rename_i hc
      rw [if_neg (by simp [c2]), if_pos hc.2.2]; exact hd
    · cases hd
  · exact {
      le := hq.le.trans hle
      cut := fun n hn => by
        rw [List.length_append, List.length_set, List.length_singleton] at hn
        have : E2 n = E' n := by simp [E2, show n ≠ post.length by omega]
        rw [this]; exact hq.cut n (by omega)
      objs := fun n o hn => by
        rcases ob n o hn with ⟨rfl, rfl⟩ | ⟨_, _, h1⟩ | ⟨rfl, rfl⟩
        · exact ⟨b, c, hle _ _ hb, trivial⟩
        · obtain ⟨b1, c1, g1, g2⟩ := hq.objs n o h1
          exact ⟨b1, c1, hle _ _ g1, g2.mono hle⟩
        · exact ⟨b, c2, h2, hfit.mono hle⟩
      made := fun n b1 c1 o hn ho he ht => by
        rcases ob n o ho with ⟨rfl, rfl⟩ | ⟨_, hl1, h1⟩ | ⟨rfl, rfl⟩
        · have := (List.getElem?_eq_some_iff.1 hpre).1; omega
        · rcases hq.made n b1 c1 o hn h1 (back n b1 c1 he (by omega)) ht with k | ⟨j', c', o2, k1, k2, k3, k4⟩
          · exact .inl k
          · exact .inr ⟨j', c', o2, k1, k2, dd _ k3, k4⟩
        · rw [h2] at he; cases he
          exact .inr ⟨j, c, _, hpre, rfl, dj, hb0⟩
      bare := fun n b1 c1 hn he => by
        by_cases e : n = post.length
        · subst e; rw [h2] at he; cases he; exact Cap.bare_of fun _ _ => rfl
        · exact hq.bare n b1 c1 hn (back n b1 c1 he e)
      keep := hq.keep
      newApart := fun n q o o2 b1 c1 b2 c3 hn hm ho hm' g1 g2 e1 e2 hne => by
        have hjp := (List.getElem?_eq_some_iff.1 hpre).1
        rcases ob n o ho with ⟨rfl, rfl⟩ | ⟨_, hl1, h1⟩ | ⟨rfl, rfl⟩
        · omega
        · have e1 := back n b1 c1 e1 (by omega)
          rcases ob q o2 hm' with ⟨rfl, rfl⟩ | ⟨_, hl2, k2⟩ | ⟨rfl, rfl⟩
          · omega
          · exact hq.newApart n q o o2 b1 c1 b2 c3 hn hm h1 k2 g1 g2 e1 (back q b2 c3 e2 (by omega)) hne
          · rw [h2] at e2; cases e2
            intro ht
            have hb1 : b1 = b := touches_eq ht
            rcases hq.made n b1 c1 o hn h1 e1 (touches_owned g1) with k | ⟨j', c', o3, k1, k2, k3, k4⟩
            · omega
            · have hjj : j' ≠ j := fun e => by rw [e, hj] at k3; cases k3
              exact hp.apart j' j o3 _ b1 c' b c k1 hpre k2 rfl k4 hb0 hjj hb1
        · cases g1
      grow := hq.grow, os := hq.os, tape := hq.tape, output := hq.output }
/-- Rows that grow are rows that are never written, as long as nobody writes them. -/
theorem Fits.vec_flatR {m : Bool} {sh : List CK} {rows : List (List CV)} {t : TypeId} : Fits (.vec (rowsA sh rows) t sh.length) (.flatR m sh rows) := fun E w b c ho => by
  have hlt := ho.lt rfl rfl
  obtain ⟨xs, ys, hx, ⟨mk, hw, hmk⟩, hl, h1, h2⟩ := ho
  refine ⟨fun e => (by rw [h2] at e; cases e), fun _ => ⟨hlt, fun i j v hi hj hv => ?_⟩⟩
  have hg := rowsA_get (sh := sh) hi hj
  obtain ⟨x, hx1, hx2⟩ := denC_get hx hg
  have hc : den E (cellA (sh.getD j .any) (rowCV (rowAt rows i) j)) = some v := by
    generalize sh.getD j .any = k at hv
    cases k <;> simp [cellV] at hv <;> subst hv <;> rfl
  rw [hc] at hx2
  cases hx2
  rw [h1, Nat.zero_add, cell_of_block hw]
  have hlt2 := (List.getElem?_eq_some_iff.1 hx1).1
  simp only [List.getElem?_toArray, List.getElem?_append_left hlt2, hx1]
theorem meets_fitO {f : FuncId} {args : List AV} {pre post : List AObj} {res : AV} {j : Nat} {o o' : AObj} (h : Meets P f args pre res post) (hj : pre[j]? = some o) (ho : o.owned = false) (hfit : Fits o' o) (hlv : o'.live = true) (htc : ∀ b c k, touches b c o k → touches b c o' k) :
    Meets P f args (pre.set j o') res (post.set j o') := by
  intro w E xs hxs hp
  have hjl : j < pre.length := (List.getElem?_eq_some_iff.1 hj).1
  have hv : (pre.set j o')[j]? = some o' := by rw [List.getElem?_set_self hjl]
  obtain ⟨b, cp, hE, hO⟩ := hp.objs j _ hv
  have own : ∀ (n : Nat) (p : AObj), pre[n]? = some p → p.owned = true → n ≠ j := fun n p hn hp e => by
    subst e; rw [hj] at hn; cases hn; rw [ho] at hp; cases hp
  have hp' : PreR E w pre := {
    objs := fun n p hn => by
      by_cases e : n = j
      · subst e; rw [hj] at hn; cases hn; exact ⟨b, cp, hE, hfit _ _ _ _ hO⟩
      · exact hp.objs n p (get_set e hn)
    fresh := fun n hn => hp.fresh n (by rw [List.length_set]; exact hn)
    apart := fun n m' p p2 b1 c1 b2 c2 hn hm hq hl e1 e2 hne => by
      have hnj := own n p hn hq
      by_cases e : m' = j
      · subst e
        rw [hj] at hm; cases hm
        exact fun ht => hp.apart n m' p _ b1 c1 b2 c2 (get_set hnj hn) hv hq hlv e1 e2 hne (htc _ _ _ ht)
      · exact hp.apart n m' p p2 b1 c1 b2 c2 (get_set hnj hn) (get_set e hm) hq hl e1 e2 hne
    glob := fun g hg => by
      obtain ⟨h1, h2, h3⟩ := hp.glob g hg
      refine ⟨h1, fun ⟨n, p, c', hn, hq, he⟩ => h2 ⟨n, p, c', get_set (own n p hn hq) hn, hq, he⟩, h3⟩
    nest := fun m b1 c1 k e1 e2 => let ⟨g1, g2⟩ := hp.nest m b1 c1 k e1 e2; ⟨g1, fun n p c' hn hq he => g2 n p c' (get_set (own n p hn hq) hn) hq he⟩ }
  refine (h w E xs hxs hp').mono ?_
  rintro e w' ⟨E', x, he, hd, hq⟩
  refine ⟨E', x, he, hd, ?_⟩
  have hblk : o'.live = true → touches b cp o' b → w'.heap[b]? = w.heap[b]? := fun hl ht => hq.keep b (hO.lt hl ht) fun n p c' hn hp1 he => by
    have hnj := own n p hn hp1
    exact hp.apart n j p _ b c' b cp (get_set hnj hn) hv hp1 hlv he hE hnj ht
  exact {
    le := hq.le
    cut := fun n hn => hq.cut n (by rw [List.length_set] at hn; exact hn)
    objs := fun n p hn => by
      rcases set_get hn with ⟨rfl, rfl⟩ | ⟨e, hn⟩
      · exact ⟨b, cp, hq.le _ _ hE, (hO.mono hq.le).block hblk fun h1 k hk => hq.keep k (hO.ltN h1 hk) fun n p c' hn hp1 he => (hp.nest _ b cp k hE hk).2 n p c' (get_set (own n p hn hp1) hn) hp1 he⟩
      · exact hq.objs n p hn
    made := fun n b1 c1 p hn hp1 he ht => by
      rw [List.length_set] at hn
      have hnj : n ≠ j := by omega
      rcases set_get hp1 with ⟨e, _⟩ | ⟨_, hp1⟩
      · exact absurd e hnj
      · rcases hq.made n b1 c1 p hn hp1 he ht with k | ⟨j', c', p2, k1, k2, k3, k4⟩
        · exact .inl k
        · have hjj := own j' p2 k1 k2
          exact .inr ⟨j', c', p2, get_set hjj k1, k2, get_set hjj k3, k4⟩
    bare := fun n b1 c1 hn he => hq.bare n b1 c1 (by rw [List.length_set] at hn; exact hn) he
    keep := fun k hk hne => hq.keep k hk fun n p c' hn hp1 => hne n p c' (get_set (own n p hn hp1) hn) hp1
    newApart := fun n m' p p2 b1 c1 b2 c2 hn hm hp1 hm' => by
      rw [List.length_set] at hn hm
      rcases set_get hp1 with ⟨e, _⟩ | ⟨_, hp1⟩
      · omega
      · rcases set_get hm' with ⟨e, _⟩ | ⟨_, hm'⟩
        · omega
        · exact hq.newApart n m' p p2 b1 c1 b2 c2 hn hm hp1 hm'
    grow := hq.grow
    os := hq.os, tape := hq.tape, output := hq.output }
/-- A contract of rows that are never written, of rows that grow. -/
theorem meets_fitR {f : FuncId} {args : List AV} {pre post : List AObj} {res : AV} {j : Nat} {m : Bool} {sh : List CK} {rows : List (List CV)} {t : TypeId} (h : Meets P f args pre res post) (hj : pre[j]? = some (.flatR m sh rows)) : Meets P f args (pre.set j (.vec (rowsA sh rows) t sh.length)) res (post.set j (.vec (rowsA sh rows) t sh.length)) :=
  meets_fitO h hj rfl Fits.vec_flatR rfl fun b c k ht => ht.2
/-- No slice at all, handed back as one that is never written. -/
theorem den_nil {E : Env} {nm : Nat} {x : Value} (h : den E .nilslice = some x) (hE : E nm = some (0, { n := 0, z := true })) : den E (.dsl nm 0) = some x := by
  simp only [den] at h
  simp only [den, hE, Option.bind_some, if_true]
  exact h
theorem meets_sealNil {f : FuncId} {args : List AV} {pre post : List AObj} {res res' : AV} (h : Meets P f args pre res post) (hpp : pre.length ≤ post.length)
    (hres : ∀ (E E' : Env) x, den E res = some x → Env.le E E' → E' post.length = some (0, { n := 0, z := true }) → den E' res' = some x) : Meets P f args pre res' (post ++ [.flat true []]) := by
  intro w E xs hxs hp
  refine (h w E xs hxs hp).mono ?_
  rintro e w' ⟨E', x, he, hd, hq⟩
  let E2 : Env := fun m => if m = post.length then some (0, { n := 0, z := true }) else E' m
  have h2 : E2 post.length = some (0, { n := 0, z := true }) := by simp [E2]
  have hle : Env.le E' E2 := fun m p hm => by
    have : m ≠ post.length := fun e => by rw [e, hq.cut _ (Nat.le_refl _)] at hm; cases hm
    simp [E2, this, hm]
  have back : ∀ (m b : Nat) (c : Cap), E2 m = some (b, c) → (m = post.length ∧ b = 0 ∧ c = { n := 0, z := true }) ∨ (m ≠ post.length ∧ E' m = some (b, c)) := fun m b c hm => by
    by_cases e : m = post.length
    · rw [e, h2] at hm; cases hm; exact .inl ⟨e, rfl, rfl⟩
    · refine .inr ⟨e, ?_⟩
      have : E2 m = E' m := by simp [E2, e]
      rw [← this]; exact hm
  have ob : ∀ (n : Nat) (o : AObj), (post ++ [AObj.flat true []])[n]? = some o → post[n]? = some o ∨ (n = post.length ∧ o = .flat true []) := fun n o hn => by
    rcases Nat.lt_or_ge n post.length with h1 | h1
    · rw [List.getElem?_append_left h1] at hn; exact .inl hn
    · rw [List.getElem?_append_right h1] at hn
      obtain ⟨k1, k2⟩ := List.getElem?_eq_some_iff.1 hn
      have : n = post.length := by simp at k1; omega
      subst this
      simp at k2; exact .inr ⟨rfl, k2.symm⟩
  have lt : ∀ {n : Nat} {o : AObj}, post[n]? = some o → n ≠ post.length := fun hn => by
    have := (List.getElem?_eq_some_iff.1 hn).1; omega
  refine ⟨E2, x, he, hres _ _ _ hd hle h2, ?_⟩
  exact {
    le := hq.le.trans hle
    cut := fun n hn => by
      rw [List.length_append, List.length_singleton] at hn
      have : E2 n = E' n := by simp [E2, show n ≠ post.length by omega]
      rw [this]; exact hq.cut n (by omega)
    objs := fun n o hn => by
      rcases ob n o hn with h1 | ⟨rfl, rfl⟩
      · obtain ⟨b, c, hb, ho⟩ := hq.objs n o h1
        exact ⟨b, c, hle _ _ hb, ho.mono hle⟩
      · exact ⟨0, _, h2, [], ⟨rfl, rfl⟩, fun _ => rfl, fun e => by cases e⟩
    made := fun n b1 c1 o hn ho he ht => by
      rcases ob n o ho with h1 | ⟨rfl, rfl⟩
      · rcases back n b1 c1 he with ⟨e, _⟩ | ⟨_, he⟩
        · exact absurd e (lt h1)
        · rcases hq.made n b1 c1 o hn h1 he ht with k | ⟨j', c', o2, k1, k2, k3, k4⟩
          · exact .inl k
          · exact .inr ⟨j', c', o2, k1, k2, by rw [List.getElem?_append_left (by have := (List.getElem?_eq_some_iff.1 k1).1; omega)]; exact k3, k4⟩
      · rw [h2] at he; cases he; exact absurd ht.1 (by simp)
    bare := fun n b1 c1 hn he => by
      rcases back n b1 c1 he with ⟨_, _, rfl⟩ | ⟨_, he⟩
      · exact Cap.bare_of fun _ _ => rfl
      · exact hq.bare n b1 c1 hn he
    keep := hq.keep
    newApart := fun n m o o2 b1 c1 b2 c2 hn hm ho hm' g1 g2 e1 e2 hne => by
      rcases ob n o ho with k1 | ⟨rfl, rfl⟩
      · rcases back n b1 c1 e1 with ⟨e, _⟩ | ⟨_, e1⟩
        · exact absurd e (lt k1)
        · rcases ob m o2 hm' with k2 | ⟨rfl, rfl⟩
          · rcases back m b2 c2 e2 with ⟨e, _⟩ | ⟨_, e2⟩
            · exact absurd e (lt k2)
            · exact hq.newApart n m o o2 b1 c1 b2 c2 hn hm k1 k2 g1 g2 e1 e2 hne
          · rw [h2] at e2; cases e2; exact fun ht => absurd ht.1 (by simp)
      · cases g1
    grow := hq.grow, os := hq.os, tape := hq.tape, output := hq.output }
end Go.Proofs.YtdomenmfkbfakaaGreatDoor.Sx

/- Layer 2: what is known of the program ahead of all: functions without a text, whole numbers that are picked, the examples. -/
set_option linter.unusedVariables false
set_option linter.unusedSimpArgs false
namespace Go.Proofs.YtdomenmfkbfakaaGreatDoor
open Go Sx

theorem host : ∀ (f : Nat) (fn : Func), Tryz.prog.funcs[f]? = some fn → (fn.name == "runtime.NumGoroutine") = false := by
  have h : (Tryz.prog.funcs.all fun fn => !(fn.name == "runtime.NumGoroutine")) = true := by kernel_rfl
  intro f fn hf
  have := Array.all_eq_true'.1 h fn (Array.mem_of_getElem? hf)
  simpa using this

/-- What a call comes to. -/
def Comes (T : Tab) (lv : FuncId → Lv) (f : FuncId) (args : List AV) (pre : List PObj) (x : Ans) : Prop :=
  ent (R := AV × List PObj) Tryz.prog T lv 64 18446744073709551616 30 f args pre pure2 = x.run pure2
theorem ans_comes {T : Tab} {lv : FuncId → Lv} {f : FuncId} {args : List AV} {pre : List PObj} {x : Ans} (hT : TabOK Tryz.prog T) (h : Comes T lv f args pre x) (hL : LvOK Tryz.prog lv := by exact nolv_ok) : AnsOK Tryz.prog f args pre x :=
  ans_of x fun res post k => meets_ent hT host (h.trans k) hL

def tab0 : Tab := [(135, eSame), (165, eIndexByte)]
theorem tab0_ok : TabOK Tryz.prog tab0 :=
  .cons (eSame_ok Tryz.func135 (by kernel_rfl) (by kernel_rfl) (by kernel_rfl) (by kernel_rfl))
  (.cons (eIndexByte_ok Tryz.func165 (by kernel_rfl) (by kernel_rfl) (by kernel_rfl) (by kernel_rfl)) .nil)

/-- Answers that come to the same. -/
theorem of_run {f : FuncId} {args : List AV} {pre : List PObj} {x y : Ans} (h : AnsOK Tryz.prog f args pre x) (e : ∀ r, y.run pure2 = some r → x.run pure2 = some r) : AnsOK Tryz.prog f args pre y :=
  ans_of y fun res post k => by
    obtain ⟨a, b, h1, h2⟩ := Ans.sound x h (e _ k)
    cases h2; exact h1
theorem bcT {α : Type} {b : Bool} {x y : α} (h : b = true) : bcond b x y = x := by rw [h]; rfl
theorem bcF {α : Type} {b : Bool} {x y : α} (h : b = false) : bcond b x y = y := by rw [h]; rfl
theorem chk_run {b : Bool} {x : Ans} {r : AV × List PObj} (h : (Ans.chk b x).run pure2 = some r) : b = true ∧ x.run pure2 = some r := by
  cases b
  · cases h
  · exact ⟨rfl, h⟩

/-- The examples. -/
def eTrue : Ent := fun args pre => match args, pre with | [], [] => .ret (.bool true) [] | _, _ => .fail
def inI (a : Int) : Bool := decide (-9223372036854775808 ≤ a ∧ a < 9223372036854775808)
theorem inI_iff {a : Int} : inI a = true ↔ -9223372036854775808 ≤ a ∧ a < 9223372036854775808 := by simp [inI]
/-- pick: which of n things. -/
def pickS (a n : Int) : Int := if a < 0 then (-(a + 1)).tmod n else a.tmod n
theorem pickS_bd {a n : Int} (h : 0 < n) : 0 ≤ pickS a n ∧ pickS a n < n := by
  unfold pickS
  split
  · rw [Int.tmod_eq_emod_of_nonneg (by omega)]; exact ⟨Int.emod_nonneg _ (by omega), Int.emod_lt_of_pos _ h⟩
  · rw [Int.tmod_eq_emod_of_nonneg (by omega)]; exact ⟨Int.emod_nonneg _ (by omega), Int.emod_lt_of_pos _ h⟩
end Go.Proofs.YtdomenmfkbfakaaGreatDoor


set_option linter.unusedVariables false
set_option linter.unusedSimpArgs false
set_option maxRecDepth 20000
namespace Go.Proofs.YtdomenmfkbfakaaGreatDoor.Dq
open Go Sx Dc
theorem right_bounds {m e : Int} (h : rightB m e = true) : (-1000000000000000 < m ∧ m < 1000000000000000) ∧ -9 ≤ e ∧ e ≤ 9 := by
  simp only [rightB, decide_eq_true_eq] at h; omega


end Go.Proofs.YtdomenmfkbfakaaGreatDoor.Dq

/- How a decimal's figures are shown: plain mathematics. -/
set_option linter.unusedVariables false
set_option linter.unusedSimpArgs false
namespace Go.Proofs.YtdomenmfkbfakaaGreatDoor.Dq
open Dc

def chB (d : Int) : UInt8 := UInt8.ofNat (48 + d).toNat
/-- The first figure that is shown, and the last one's end. -/
def fstGo (ds : List Int) : Nat → Nat → Nat
  | 0, k => k
  | f + 1, k => if k < 47 ∧ ds.getD k 0 = 0 then fstGo ds f (k + 1) else k
def lstGo (ds : List Int) : Nat → Nat → Nat
  | 0, k => k
  | f + 1, k => if 48 < k ∧ ds.getD (k - 1) 0 = 0 then lstGo ds f (k - 1) else k
def txt (ds : List Int) (a : Nat) : Nat → List UInt8
  | 0 => []
  | n + 1 => txt ds a n ++ ((if a + n = 48 then [46] else []) ++ [chB (ds.getD (a + n) 0)])
def textB (mx : Bool) (ds : List Int) : List UInt8 := (if mx = true then [45] else []) ++ txt ds (fstGo ds 47 0) (lstGo ds 40 88 - fstGo ds 47 0)
end Go.Proofs.YtdomenmfkbfakaaGreatDoor.Dq


set_option linter.unusedVariables false
set_option linter.unusedSimpArgs false
set_option maxRecDepth 20000
namespace Go.Proofs.YtdomenmfkbfakaaGreatDoor.Dq
open Go Sx Dc
theorem right_meets (m e : Int) : Meets Tryz.prog 67 [jA [jI m, jI e]] [] (jB (rightB m e)) [] := by
  let q1 : List Orc := [rG [hhN 0 0]]
  by_cases c1 : m < (-999999999999999)
  · exact meets_run (fn := Tryz.f67) 1 (q1 ++ [rG [hhI 1 m, hhB 2 true], rG []]) [{}] Tryz.func67 (by kernel_rfl) Tryz.call67
      (oA (oLf ([jI m, jI e]) (0) (jI m) (rfl)) <| oS (bT c1))
      (oS (show jB false = jB (rightB m e) from boolE (by rw [Bool.eq_iff_iff]; simp [rightB]; omega))) (by kernel_rfl)
  · have o1 := oA (oLf ([jI m, jI e]) (0) (jI m) (rfl)) <| oA (oS (bF c1)) <| oLf ([jI m, jI e]) (0) (jI m) (rfl)
    by_cases c2 : m > 999999999999999
    · exact meets_run (fn := Tryz.f67) 1 (q1 ++ [rG [hhI 1 m, hhB 2 false, hhI 5 m, hhB 6 true], rG []]) [{}] Tryz.func67 (by kernel_rfl) Tryz.call67
        (oA o1 <| oS (bT c2))
        (oS (show jB false = jB (rightB m e) from boolE (by rw [Bool.eq_iff_iff]; simp [rightB]; omega))) (by kernel_rfl)
    · have o2 := oA (oS (bF c2)) <| oLf ([jI m, jI e]) (1) (jI e) (rfl)
      by_cases c3 : e < (-9)
      · exact meets_run (fn := Tryz.f67) 1 (q1 ++ [rG [hhI 1 m, hhB 2 false, hhI 5 m, hhB 6 false, hhI 10 e, hhB 11 true], rG []]) [{}] Tryz.func67 (by kernel_rfl) Tryz.call67
          (oA o1 <| oA o2 <| oS (bT c3))
          (oS (show jB false = jB (rightB m e) from boolE (by rw [Bool.eq_iff_iff]; simp [rightB]; omega))) (by kernel_rfl)
      · have o3 := oA (oS (bF c3)) <| oLf ([jI m, jI e]) (1) (jI e) (rfl)
        by_cases c4 : e > 9
        · exact meets_run (fn := Tryz.f67) 1 (q1 ++ [rG [hhI 1 m, hhB 2 false, hhI 5 m, hhB 6 false, hhI 10 e, hhB 11 false, hhI 15 e, hhB 16 true], rG []]) [{}] Tryz.func67 (by kernel_rfl) Tryz.call67
            (oA o1 <| oA o2 <| oA o3 <| oS (bT c4))
            (oS (show jB false = jB (rightB m e) from boolE (by rw [Bool.eq_iff_iff]; simp [rightB]; omega))) (by kernel_rfl)
        · have o4 := oA (oS (bF c4)) <| oLf ([jI m, jI e]) (0) (jI m) (rfl)
          let q2 : List Orc := [rG [hhI 1 m, hhB 2 false, hhI 5 m, hhB 6 false, hhI 10 e, hhB 11 false, hhI 15 e, hhB 16 false]]
          by_cases c5 : m = 0
          · exact meets_run (fn := Tryz.f67) 1 (q1 ++ (q2 ++ [rG [hhI 1 m, hhB 2 true], rG [hhI 1 e]])) [{}] Tryz.func67 (by kernel_rfl) Tryz.call67
              (oA o1 <| oA o2 <| oA o3 <| oA o4 <| oA (oS (eqT c5)) <| oLf ([jI m, jI e]) (1) (jI e) (rfl))
              (oS (show jB (e == 0) = jB (rightB m e) from boolE (by rw [Bool.eq_iff_iff]; simp [rightB]; omega))) (by kernel_rfl)
          · have o5 := oA (oS (eqF c5)) <| oLf ([jI m, jI e]) (1) (jI e) (rfl)
            let q3 : List Orc := [rG [hhI 1 m, hhB 2 false]]
            by_cases c6 : e = 9
            · exact meets_run (fn := Tryz.f67) 1 (q1 ++ (q2 ++ (q3 ++ [rG [hhI 1 e, hhB 2 true]]))) [{}] Tryz.func67 (by kernel_rfl) Tryz.call67
                (oA o1 <| oA o2 <| oA o3 <| oA o4 <| oA o5 <| oS (eqT c6))
                (oS (show jB true = jB (rightB m e) from boolE (by rw [Bool.eq_iff_iff]; simp [rightB]; omega))) (by kernel_rfl)
            · exact meets_run (fn := Tryz.f67) 1 (q1 ++ (q2 ++ (q3 ++ [rG [hhI 1 e, hhB 2 false, hhI 5 m]]))) [{}] Tryz.func67 (by kernel_rfl) Tryz.call67
                (oA o1 <| oA o2 <| oA o3 <| oA o4 <| oA o5 <| oA (oS (eqF c6)) <| oA (oLf ([jI m, jI e]) (0) (jI m) (rfl)) <| oS (show (10 : Int) ≠ 0 from by decide))
                (oS (show jB ((m.tmod 10) != 0) = jB (rightB m e) from boolE (by rw [Bool.eq_iff_iff]; simp [rightB]; omega))) (by kernel_rfl)



















end Go.Proofs.YtdomenmfkbfakaaGreatDoor.Dq

/- Layer 1: figures are added. -/
set_option linter.unusedVariables false
set_option linter.unusedSimpArgs false
set_option maxRecDepth 20000
namespace Go.Proofs.YtdomenmfkbfakaaGreatDoor.Dq
open Go Sx Dc

def sgnOf (a b : Bool) : Int := if a = b then 1 else -1

def added_inv (mx my : Bool) (ys : List Int) (s : Int) (zs : List Int) (c ii : Int) : AState :=
  ⟨([none, none, sP 0 0, sP 1 0, sP 2 0, sI s, sI c, sI ii] ++ nn 36), [some (jC ((jB mx) :: (ints .u8 zs)) 96), some (jC ((jB my) :: (ints .u8 ys)) 96), some (jC ((jB false) :: (ints .u8 (List.replicate 88 0))) 96)]⟩

theorem added_round (mx my : Bool) (ys : List Int) (s : Int) (zs : List Int) (c : Int) (k : Nat) (hk : k < 88) (hz : zs.length = 88) (hy : ys.length = 88) (h1 : 0 ≤ zs.getD k 0 ∧ zs.getD k 0 ≤ 9) (h2 : -9 ≤ s * ys.getD k 0 ∧ s * ys.getD k 0 ≤ 9) (h3 : -1 ≤ c ∧ c ≤ 1) (h4 : 0 ≤ ys.getD k 0 ∧ ys.getD k 0 ≤ 9) : Tri Tryz.prog (loopN (bodyOf Tryz.f155) 0) (added_inv mx my ys s zs c k) .normal (added_inv mx my ys s (zs.set k ((10 + zs.getD k 0 + s * ys.getD k 0 + c) % 10)) ((10 + zs.getD k 0 + s * ys.getD k 0 + c) / 10 - 1) ((k : Int) - 1)) := by
  exact tri_weak [rG [hhB 1 true], rG [hhV 2 (jP 0 (k + 1)), hhV 3 (jU (zs.getD k 0)), hhI 4 (zs.getD k 0), hhI 5 (10 + (zs.getD k 0)), hhV 9 (jP 1 (k + 1)), hhV 10 (jU (ys.getD k 0)), hhI 11 (ys.getD k 0), hhI 12 (s * ys.getD k 0), hhI 13 ((10 + (zs.getD k 0)) + (s * ys.getD k 0)), hhI 15 (((10 + (zs.getD k 0)) + (s * ys.getD k 0)) + c)], rG [hhI 2 ((((10 + (zs.getD k 0)) + (s * ys.getD k 0)) + c) % 10), hhV 3 (jU ((((10 + (zs.getD k 0)) + (s * ys.getD k 0)) + c) % 10)), hhV 5 (jP 0 (k + 1)), (6, {obj := some [jC ((jB mx) :: (ints .u8 (zs.set k ((((10 + (zs.getD k 0)) + (s * ys.getD k 0)) + c) % 10)))) 96]})], rG [hhI 1 ((((10 + (zs.getD k 0)) + (s * ys.getD k 0)) + c) / 10), hhI 2 (((((10 + (zs.getD k 0)) + (s * ys.getD k 0)) + c) / 10) - 1)], rG [hhI 1 (((k : Nat) : Int) - 1)]]
    (oA (oS (show AV.bool (decide (((k : Nat) : Int) ≥ 0)) = jB true from bT (by omega))) <| oA (oS (show 0 ≤ ((k : Nat) : Int) from by omega)) <| oA (oS (show ((k : Nat) : Int) < ((88 : Nat) : Int) from by omega)) <| oA (oS (show AV.ptr 0 (1 + Int.toNat ((k : Nat) : Int) * 1) = jP 0 (k + 1) from ptrE (by omega))) <| oA (oLf ((jB mx) :: (ints .u8 zs)) ((k + 1)) (jU (zs.getD k 0)) (ints_get' (by omega))) <| oA (oWs (zs.getD k 0) (by omega)) <| oA (oWs (10 + (zs.getD k 0)) (by omega)) <| oA (oS (show 0 ≤ ((k : Nat) : Int) from by omega)) <| oA (oS (show ((k : Nat) : Int) < ((88 : Nat) : Int) from by omega)) <| oA (oS (show AV.ptr 1 (1 + Int.toNat ((k : Nat) : Int) * 1) = jP 1 (k + 1) from ptrE (by omega))) <| oA (oLf ((jB my) :: (ints .u8 ys)) ((k + 1)) (jU (ys.getD k 0)) (ints_get' (by omega))) <| oA (oWs (ys.getD k 0) (by omega)) <| oA (oW (s * (ys.getD k 0)) (s * ys.getD k 0) (by omega)) <| oA (oWs ((10 + (zs.getD k 0)) + (s * ys.getD k 0)) (by omega)) <| oA (oWs (((10 + (zs.getD k 0)) + (s * ys.getD k 0)) + c) (by omega)) <| oA (oS (show (10 : Int) ≠ 0 from by decide)) <| oA (oS (show AV.int .i64 ((((10 + (zs.getD k 0)) + (s * ys.getD k 0)) + c).tmod 10) = jI ((((10 + (zs.getD k 0)) + (s * ys.getD k 0)) + c) % 10) from remI (by omega))) <| oA (oS (show AV.int .u8 (IntKind.u8.wrap ((((10 + (zs.getD k 0)) + (s * ys.getD k 0)) + c) % 10)) = jU ((((10 + (zs.getD k 0)) + (s * ys.getD k 0)) + c) % 10) from w_u8 (by omega))) <| oA (oS (show 0 ≤ ((k : Nat) : Int) from by omega)) <| oA (oS (show ((k : Nat) : Int) < ((88 : Nat) : Int) from by omega)) <| oA (oS (show AV.ptr 0 (1 + Int.toNat ((k : Nat) : Int) * 1) = jP 0 (k + 1) from ptrE (by omega))) <| oA (oS (show ([jU ((((10 + (zs.getD k 0)) + (s * ys.getD k 0)) + c) % 10)] : List AV).length = 1 from rfl)) <| oA (oS (show (k + 1) + 1 ≤ List.length ((jB mx) :: (ints .u8 zs)) from lnO)) <| oA (oS (show AObj.cells (List.take (k + 1) ((jB mx) :: (ints .u8 zs)) ++ [jU ((((10 + (zs.getD k 0)) + (s * ys.getD k 0)) + c) % 10)] ++ List.drop ((k + 1) + 1) ((jB mx) :: (ints .u8 zs))) 96 = jC ((jB mx) :: (ints .u8 (zs.set k ((((10 + (zs.getD k 0)) + (s * ys.getD k 0)) + c) % 10)))) 96 from store_ints [jB mx] (by omega))) <| oA (oS (show (10 : Int) ≠ 0 from by decide)) <| oA (oS (show AV.int .i64 (IntKind.i64.wrap ((((10 + (zs.getD k 0)) + (s * ys.getD k 0)) + c).tdiv 10)) = jI ((((10 + (zs.getD k 0)) + (s * ys.getD k 0)) + c) / 10) from quoI (by omega))) <| oA (oWs (((((10 + (zs.getD k 0)) + (s * ys.getD k 0)) + c) / 10) - 1) (by omega)) <| oWs (((k : Nat) : Int) - 1) (by omega))
    (oA (oR [jP 0 0, jP 1 0, jP 2 0, jI s]) <| oA (oS (show jI (((((10 + (zs.getD k 0)) + (s * ys.getD k 0)) + c) / 10) - 1) = jI ((10 + zs.getD k 0 + s * ys.getD k 0 + c) / 10 - 1) from intE (by omega))) <| oA (oR [jI (((k : Nat) : Int) - 1)]) <| oQ [jC ((jB mx) :: (ints .u8 (zs.set k ((((10 + (zs.getD k 0)) + (s * ys.getD k 0)) + c) % 10)))) 96, jC ((jB my) :: (ints .u8 ys)) 96, jC ((jB false) :: (ints .u8 (List.replicate 88 0))) 96]) (by kernel_rfl)

def added_out (mx my : Bool) (ys zs : List Int) : AState :=
  ⟨([none, none, sP 0 0, none, sP 2 0] ++ nn 39), [some (jC ((jB mx) :: (ints .u8 zs)) 96), some (jC ((jB my) :: (ints .u8 ys)) 96), some (jC ((jB false) :: (ints .u8 (List.replicate 88 0))) 96)]⟩

theorem added_last (mx my : Bool) (ys : List Int) (s : Int) (zs : List Int) (c : Int) : Tri Tryz.prog (loopN (bodyOf Tryz.f155) 0) (added_inv mx my ys s zs c (-1)) (.exit 0) (added_out mx my ys zs) := by
  exact tri_weak [rG [hhB 1 false]]
    (oS (show AV.bool (decide ((-1) ≥ 0)) = jB false from bF (by decide)))
    (oA (oR [jP 0 0, jP 2 0]) <| oQ [jC ((jB mx) :: (ints .u8 zs)) 96, jC ((jB my) :: (ints .u8 ys)) 96, jC ((jB false) :: (ints .u8 (List.replicate 88 0))) 96]) (by kernel_rfl)

theorem added_loop (mx my : Bool) (s : Int) (hs : s = 1 ∨ s = -1) (xs ys : List Int) (hx : Dig xs) (hy : Dig ys) (lx : xs.length = 88) (ly : ys.length = 88) :
    Tri Tryz.prog (.loop (loopN (bodyOf Tryz.f155) 0)) (added_inv mx my ys s xs 0 87) (.exit 0) (added_out mx my ys (addArr s xs ys 0)) := by
  have e1 : addArr s xs ys 88 = xs := by rw [← lx]; exact addArr_end
  have e2 : addCarry s xs ys 88 = 0 := by rw [← lx]; exact addCarry_end
  have h := tri_down (P := Tryz.prog) (body := loopN (bodyOf Tryz.f155) 0) (ex := .exit 0) (out := added_out mx my ys (addArr s xs ys 0)) (fun k => added_inv mx my ys s (addArr s xs ys k) (addCarry s xs ys k) ((k : Int) - 1)) (ne_normal_exit 0) 88
    (fun k hk => by
      have hst := addArr_step (s := s) (xs := xs) (ys := ys) (k := k) (by omega) (by omega)
      have hg := addArr_get (s := s) (xs := xs) (ys := ys) (k := k) (by omega)
      rw [← hg] at hst
      have by1 := hy.getD k
      have hd : Dig xs := hx
      have hsy : -9 ≤ s * ys.getD k 0 ∧ s * ys.getD k 0 ≤ 9 := by rcases hs with rfl | rfl <;> omega
      have hr := added_round mx my ys s (addArr s xs ys (k + 1)) (addCarry s xs ys (k + 1)) k hk (by rw [addArr_length hs hx hy (by omega) (by omega), lx]) ly (by rw [hg]; exact hx.getD k) hsy (addCarry_bounds hs hx hy (by omega)) by1
      rw [hst.1, ← hst.2] at hr
      simp only [show (((k + 1 : Nat) : Int) - 1) = k by omega]
      exact hr)
    (by simp only [show (((0 : Nat) : Int) - 1) = -1 by omega]; exact added_last mx my ys s _ _) 88 (Nat.le_refl _)
  simp only [e1, e2, show (((88 : Nat) : Int) - 1) = 87 by omega] at h
  exact h

theorem added_meets (mx my : Bool) (xs ys : List Int) (hx : Dig xs) (hy : Dig ys) (lx : xs.length = 88) (ly : ys.length = 88) (ds : List Int) (hds : addArr (sgnOf mx my) xs ys 0 = ds) : Meets Tryz.prog 155 [jA ((jB mx) :: (ints .u8 xs)), jA ((jB my) :: (ints .u8 ys))] [] (jA ((jB mx) :: (ints .u8 ds))) [] := by
  have hl1 := addArr_length (s := 1) (k := 0) (.inl rfl) hx hy (by omega) (by omega)
  have hl2 := addArr_length (s := -1) (k := 0) (.inr rfl) hx hy (by omega) (by omega)
  have o1 := oA (oS (show AObj.cells (zeroCellsA Tryz.prog 96) 96 = jC ((jB false) :: (ints .u8 (List.replicate 88 0))) 96 from by kernel_rfl)) <| oA (oLf ((jB mx) :: (ints .u8 xs)) (0) (jB mx) (rfl)) <| oLf ((jB my) :: (ints .u8 ys)) (0) (jB my) (rfl)
  let q1 : List Orc := [rG [hhN 0 0, hhN 1 1, (2, {nm := [2], obj := some [jC ((jB false) :: (ints .u8 (List.replicate 88 0))) 96]})], rG []]
  by_cases c1 : mx = my
  · exact meets_run (fn := Tryz.f155) 3 (q1 ++ [rG [hhV 1 (jB mx), hhV 3 (jB my), hhB 4 false], rG [], rG [], .loop (⟨([none, none, sP 0 0, sP 1 0, sP 2 0, sI 1, sI 0, sI 87] ++ nn 36), [some (jC ((jB mx) :: (ints .u8 xs)) 96), some (jC ((jB my) :: (ints .u8 ys)) 96), some (jC ((jB false) :: (ints .u8 (List.replicate 88 0))) 96)]⟩) (.exit 0) (⟨([none, none, sP 0 0, none, sP 2 0] ++ nn 39), [some (jC ((jB mx) :: (ints .u8 (addArr 1 xs ys 0))) 96), some (jC ((jB my) :: (ints .u8 ys)) 96), some (jC ((jB false) :: (ints .u8 (List.replicate 88 0))) 96)]⟩), rG [hhV 0 (jA ((jB mx) :: (ints .u8 (addArr 1 xs ys 0)))), (1, {obj := some [jC ((jB mx) :: (ints .u8 (addArr 1 xs ys 0))) 96]})]]) [{val := some (jA ((jB mx) :: (ints .u8 (addArr 1 xs ys 0))))}] Tryz.func155 (by kernel_rfl) Tryz.call155
      (oA o1 <| oA (oS (sneF c1)) <| oA (oR [jP 0 0, jP 1 0, jP 2 0, jI 1, jI 0, jI 87]) <| oA (oQ [jC ((jB mx) :: (ints .u8 xs)) 96, jC ((jB my) :: (ints .u8 ys)) 96, jC ((jB false) :: (ints .u8 (List.replicate 88 0))) 96]) <| oA (oS (show Tri Tryz.prog (.loop (loopN (bodyOf Tryz.f155) 0)) (⟨([none, none, sP 0 0, sP 1 0, sP 2 0, sI 1, sI 0, sI 87] ++ nn 36), [some (jC ((jB mx) :: (ints .u8 xs)) 96), some (jC ((jB my) :: (ints .u8 ys)) 96), some (jC ((jB false) :: (ints .u8 (List.replicate 88 0))) 96)]⟩) (.exit 0) (⟨([none, none, sP 0 0, none, sP 2 0] ++ nn 39), [some (jC ((jB mx) :: (ints .u8 (addArr 1 xs ys 0))) 96), some (jC ((jB my) :: (ints .u8 ys)) 96), some (jC ((jB false) :: (ints .u8 (List.replicate 88 0))) 96)]⟩) from added_loop mx my 1 (by decide) xs ys hx hy lx ly)) <| oA (oLw (n := 89) ((jB mx) :: (ints .u8 (addArr 1 xs ys 0))) lnO) <| oSw (n := 89) ((jB mx) :: (ints .u8 (addArr 1 xs ys 0))) ((jB false) :: (ints .u8 (List.replicate 88 0))) 96 lnO lnO)
      (oA (oLw (n := 89) ((jB mx) :: (ints .u8 (addArr 1 xs ys 0))) lnO) <| oA (oS (show jA ((jB mx) :: (ints .u8 (addArr 1 xs ys 0))) = jA ((jB mx) :: (ints .u8 ds)) from by rw [← hds, sgnOf, if_pos c1])) <| oS (show Avoid (fun n => decide (0 ≤ n)) (jA ((jB mx) :: (ints .u8 ds))) from Avoid.agg (AvoidL.cons (Avoid.bool _ _) (AvoidL.ints _ _ _)))) (by kernel_rfl)
  · exact meets_run (fn := Tryz.f155) 3 (q1 ++ [rG [hhV 1 (jB mx), hhV 3 (jB my), hhB 4 true], rG [], rG [], rG [], .loop (⟨([none, none, sP 0 0, sP 1 0, sP 2 0, sI (-1), sI 0, sI 87] ++ nn 36), [some (jC ((jB mx) :: (ints .u8 xs)) 96), some (jC ((jB my) :: (ints .u8 ys)) 96), some (jC ((jB false) :: (ints .u8 (List.replicate 88 0))) 96)]⟩) (.exit 0) (⟨([none, none, sP 0 0, none, sP 2 0] ++ nn 39), [some (jC ((jB mx) :: (ints .u8 (addArr (-1) xs ys 0))) 96), some (jC ((jB my) :: (ints .u8 ys)) 96), some (jC ((jB false) :: (ints .u8 (List.replicate 88 0))) 96)]⟩), rG [hhV 0 (jA ((jB mx) :: (ints .u8 (addArr (-1) xs ys 0)))), (1, {obj := some [jC ((jB mx) :: (ints .u8 (addArr (-1) xs ys 0))) 96]})]]) [{val := some (jA ((jB mx) :: (ints .u8 (addArr (-1) xs ys 0))))}] Tryz.func155 (by kernel_rfl) Tryz.call155
      (oA o1 <| oA (oS (sneT c1)) <| oA (oR [jP 0 0, jP 1 0, jP 2 0, jI (-1), jI 0, jI 87]) <| oA (oQ [jC ((jB mx) :: (ints .u8 xs)) 96, jC ((jB my) :: (ints .u8 ys)) 96, jC ((jB false) :: (ints .u8 (List.replicate 88 0))) 96]) <| oA (oS (show Tri Tryz.prog (.loop (loopN (bodyOf Tryz.f155) 0)) (⟨([none, none, sP 0 0, sP 1 0, sP 2 0, sI (-1), sI 0, sI 87] ++ nn 36), [some (jC ((jB mx) :: (ints .u8 xs)) 96), some (jC ((jB my) :: (ints .u8 ys)) 96), some (jC ((jB false) :: (ints .u8 (List.replicate 88 0))) 96)]⟩) (.exit 0) (⟨([none, none, sP 0 0, none, sP 2 0] ++ nn 39), [some (jC ((jB mx) :: (ints .u8 (addArr (-1) xs ys 0))) 96), some (jC ((jB my) :: (ints .u8 ys)) 96), some (jC ((jB false) :: (ints .u8 (List.replicate 88 0))) 96)]⟩) from added_loop mx my (-1) (by decide) xs ys hx hy lx ly)) <| oA (oLw (n := 89) ((jB mx) :: (ints .u8 (addArr (-1) xs ys 0))) lnO) <| oSw (n := 89) ((jB mx) :: (ints .u8 (addArr (-1) xs ys 0))) ((jB false) :: (ints .u8 (List.replicate 88 0))) 96 lnO lnO)
      (oA (oLw (n := 89) ((jB mx) :: (ints .u8 (addArr (-1) xs ys 0))) lnO) <| oA (oS (show jA ((jB mx) :: (ints .u8 (addArr (-1) xs ys 0))) = jA ((jB mx) :: (ints .u8 ds)) from by rw [← hds, sgnOf, if_neg c1])) <| oS (show Avoid (fun n => decide (0 ≤ n)) (jA ((jB mx) :: (ints .u8 ds))) from Avoid.agg (AvoidL.cons (Avoid.bool _ _) (AvoidL.ints _ _ _)))) (by kernel_rfl)

end Go.Proofs.YtdomenmfkbfakaaGreatDoor.Dq

/- Layer 1: what is written of a decimal is read as that decimal. -/
set_option linter.unusedVariables false
set_option linter.unusedSimpArgs false
set_option maxRecDepth 20000
namespace Go.Proofs.YtdomenmfkbfakaaGreatDoor.Dq
open Go Sx Dc





theorem aV_bounds {m e : Int} (hm : -1000000000000000 < m ∧ m < 1000000000000000) (he : -18 ≤ e ∧ e ≤ 18) : 0 ≤ aV m e ∧ aV m e < 10 ^ 73 := by
  have a1 : (10 : Int) ^ (e + 40).toNat ≤ 10 ^ 58 := pow_mono (by omega)
  have hp := pow_pos' (e + 40).toNat
  have a2 : (m.natAbs : Int) * 10 ^ (e + 40).toNat ≤ (10 ^ 15 - 1) * 10 ^ 58 := Int.mul_le_mul (by omega) a1 (by omega) (by decide)
  have a3 : ((10 : Int) ^ 15 - 1) * 10 ^ 58 < 10 ^ 73 := by decide
  have a4 : 0 ≤ (m.natAbs : Int) * 10 ^ (e + 40).toNat := Int.mul_nonneg (by omega) (by omega)
  unfold aV; omega






end Go.Proofs.YtdomenmfkbfakaaGreatDoor.Dq

/- Layer 1: decimals are put in order (dec.Compare). -/
set_option linter.unusedVariables false
set_option linter.unusedSimpArgs false
set_option maxRecDepth 20000
namespace Go.Proofs.YtdomenmfkbfakaaGreatDoor.Dq
open Go Sx Dc

def sV (m e : Int) : Int := m * 10 ^ (e + 40).toNat
theorem sV_neg {m e : Int} (h : m < 0) : sV m e = -aV m e := by
  unfold sV aV
  rw [show m = -((m.natAbs : Nat) : Int) by omega, Int.neg_mul]
  simp
theorem sV_pos {m e : Int} (h : ¬ m < 0) : sV m e = aV m e := by
  unfold sV aV
  rw [show ((m.natAbs : Nat) : Int) = m by omega]
def sumB (am ae bm be : Int) : Bool := if aV am ae < aV bm be then decide (bm < 0) else decide (am < 0)
def sumV (am ae bm be : Int) : Int := (((sV am ae + sV bm be).natAbs : Nat) : Int)
theorem cmp_digs {X Y : Int} (hX : 0 ≤ X ∧ X < 10 ^ 73) (hY : 0 ≤ Y ∧ Y < 10 ^ 73) : cmpI (digs 88 X) (digs 88 Y) < 0 ↔ X < Y := by
  have h73 : (10 : Int) ^ 73 ≤ 10 ^ 88 := by decide
  rw [cmpI_val _ _ (digs_dig _ _) (digs_dig _ _) (by rw [digs_length, digs_length]), val_digs _ _ hX.1 (by omega), val_digs _ _ hY.1 (by omega)]
  split
  · simp [*]
  · split <;> simp [*]
theorem sgn_sV (m e n f : Int) (hm : -1000000000000000 < m ∧ m < 1000000000000000) (he : -18 ≤ e ∧ e ≤ 18) (hn : -1000000000000000 < n ∧ n < 1000000000000000) (hf : -18 ≤ f ∧ f ≤ 18) (h : aV n f ≤ aV m e) :
    addArr (sgnOf (decide (m < 0)) (decide (n < 0))) (digs 88 (aV m e)) (digs 88 (aV n f)) 0 = digs 88 (((sV m e + sV n f).natAbs : Nat) : Int) := by
  have h73 : (10 : Int) ^ 73 + 10 ^ 73 ≤ 10 ^ 88 := by decide
  have hX := aV_bounds hm he
  have hY := aV_bounds hn hf
  generalize hp : (10 : Int) ^ 73 = p at *
  generalize hq : (10 : Int) ^ 88 = q at *
  have key : ∀ s : Int, (s = 1 ∨ s = -1) → (0 ≤ aV m e + s * aV n f ∧ aV m e + s * aV n f < q) → addArr s (digs 88 (aV m e)) (digs 88 (aV n f)) 0 = digs 88 (aV m e + s * aV n f) :=
    fun s hs hr => addArr_zero hs (by rw [hq]; omega) (by rw [hq]; omega) (by rw [hq]; exact hr)
  by_cases c1 : m < 0 <;> by_cases c2 : n < 0
  · rw [show sgnOf (decide (m < 0)) (decide (n < 0)) = 1 by simp [sgnOf, c1, c2], key 1 (.inl rfl) (by omega), sV_neg c1, sV_neg c2]
    congr 1; omega
  · rw [show sgnOf (decide (m < 0)) (decide (n < 0)) = -1 by simp [sgnOf, c1, c2], key (-1) (.inr rfl) (by omega), sV_neg c1, sV_pos c2]
    congr 1; omega
  · rw [show sgnOf (decide (m < 0)) (decide (n < 0)) = -1 by simp [sgnOf, c1, c2], key (-1) (.inr rfl) (by omega), sV_pos c1, sV_neg c2]
    congr 1; omega
  · rw [show sgnOf (decide (m < 0)) (decide (n < 0)) = 1 by simp [sgnOf, c1, c2], key 1 (.inl rfl) (by omega), sV_pos c1, sV_pos c2]
    congr 1; omega
attribute [irreducible] sV sumV

theorem compare_meets (xs ys : List Int) (o1 o2 k1 k2 : Nat) (hx : ∀ x ∈ xs, 0 ≤ x ∧ x < 256) (hy : ∀ y ∈ ys, 0 ≤ y ∧ y < 256) : Meets Tryz.prog 154 [AV.slice 0 o1 xs.length k1, AV.slice 1 o2 ys.length k2] [AObj.ro o1 (ints .u8 xs), AObj.ro o2 (ints .u8 ys)] (jI (cmpI xs ys)) [AObj.ro o1 (ints .u8 xs), AObj.ro o2 (ints .u8 ys)] := by
  exact meets_run (fn := Tryz.f154) 0 [rG [], rG [(2, {call := some ⟨[0, 1], [AV.slice 0 o1 xs.length k1, AV.slice 1 o2 ys.length k2], [AObj.ro o1 (ints .u8 xs), AObj.ro o2 (ints .u8 ys)], jI (cmpI xs ys), [AObj.ro o1 (ints .u8 xs), AObj.ro o2 (ints .u8 ys)]⟩, obj := some [AObj.ro o1 (ints .u8 xs), AObj.ro o2 (ints .u8 ys)]})]] [{}] Tryz.func154 (by kernel_rfl) Tryz.call154
    (oA (oS (show [AV.slice 0 o1 xs.length k1, AV.slice 1 o2 ys.length k2] = renL [0, 1] [AV.slice 0 o1 xs.length k1, AV.slice 1 o2 ys.length k2] from rfl)) <| oA (oS (show Meets Tryz.prog 164 [AV.slice 0 o1 xs.length k1, AV.slice 1 o2 ys.length k2] [AObj.ro o1 (ints .u8 xs), AObj.ro o2 (ints .u8 ys)] (jI (cmpI xs ys)) [AObj.ro o1 (ints .u8 xs), AObj.ro o2 (ints .u8 ys)] from meets_bytealg_compare (fn := Tryz.f164) (by decide) Tryz.func164 (by kernel_rfl) (by kernel_rfl) (by kernel_rfl) (by kernel_rfl) xs ys o1 o2 k1 k2 hx hy)) <| oA (oS (show Fits (AObj.ro o1 (ints .u8 xs)) (AObj.ren [0, 1] (AObj.ro o1 (ints .u8 xs))) from Fits.of_eq (by simp only [AObj.ren, renL, AV.ren, renL_ints, renL_u8s, renL_append]))) <| oA (oS (show Fits (AObj.ro o2 (ints .u8 ys)) (AObj.ren [0, 1] (AObj.ro o2 (ints .u8 ys))) from Fits.of_eq (by simp only [AObj.ren, renL, AV.ren, renL_ints, renL_u8s, renL_append]))) <| oS (show updOf [0, 1] [AObj.ro o1 (ints .u8 xs), AObj.ro o2 (ints .u8 ys)] [AObj.ro o1 (ints .u8 xs), AObj.ro o2 (ints .u8 ys)] [AObj.ro o1 (ints .u8 xs), AObj.ro o2 (ints .u8 ys)] ++ List.map (fun x => x.ren [0, 1]) (List.drop 2 [AObj.ro o1 (ints .u8 xs), AObj.ro o2 (ints .u8 ys)]) = [AObj.ro o1 (ints .u8 xs), AObj.ro o2 (ints .u8 ys)] from rfl))
    (oA (oS (@rfl _ (jI (cmpI xs ys)))) <| oA (oS (show AObj.ro o1 (ints .u8 xs) = AObj.ro o1 (ints .u8 xs) from rfl)) <| oA (oS (show AvoidO (fun n => decide (2 ≤ n)) (AObj.ro o1 (ints .u8 xs)) from AvoidO.ro (AvoidL.ints _ _ _))) <| oA (oS (show AObj.ro o2 (ints .u8 ys) = AObj.ro o2 (ints .u8 ys) from rfl)) <| oS (show AvoidO (fun n => decide (2 ≤ n)) (AObj.ro o2 (ints .u8 ys)) from AvoidO.ro (AvoidL.ints _ _ _))) (by kernel_rfl)

theorem sum_meets (am ae bm be : Int) (ham : -1000000000000000 < am ∧ am < 1000000000000000) (hae : -18 ≤ ae ∧ ae ≤ 18) (hbm : -1000000000000000 < bm ∧ bm < 1000000000000000) (hbe : -18 ≤ be ∧ be ≤ 18) : Meets Tryz.prog 146 [jA [jI am, jI ae, jI bm, jI be]] [] (jA ((jB (sumB am ae bm be)) :: (ints .u8 (digs 88 (sumV am ae bm be))))) [] := by
  have hx := aV_bounds ham hae
  have hy := aV_bounds hbm hbe
  have o1 := oA (oS (show AObj.cells (zeroCellsA Tryz.prog 96) 96 = jC ((jB false) :: (ints .u8 (List.replicate 88 0))) 96 from by kernel_rfl)) <| oA (oLp ([jI am, jI ae, jI bm, jI be]) 0 2 ([jI am, jI ae]) rfl rfl) <| oA (oC (show Meets Tryz.prog 78 [jA [jI am, jI ae]] [] (jA ((jB (decide (am < 0))) :: (ints .u8 (digs 88 (aV am ae))))) [] from lay_meets am ae _ (by omega) (by omega) (digs_aV _ _)) rfl) <| oA (oS (show AV.ren [] (jA ((jB (decide (am < 0))) :: (ints .u8 (digs 88 (aV am ae))))) = jA ((jB (decide (am < 0))) :: (ints .u8 (digs 88 (aV am ae)))) from by simp only [renL, AV.ren, renL_ints, renL_u8s, renL_append])) <| oA (oLp ([jI am, jI ae, jI bm, jI be]) 2 2 ([jI bm, jI be]) rfl rfl) <| oA (oC (show Meets Tryz.prog 78 [jA [jI bm, jI be]] [] (jA ((jB (decide (bm < 0))) :: (ints .u8 (digs 88 (aV bm be))))) [] from lay_meets bm be _ (by omega) (by omega) (digs_aV _ _)) rfl) <| oA (oS (show AV.ren [] (jA ((jB (decide (bm < 0))) :: (ints .u8 (digs 88 (aV bm be))))) = jA ((jB (decide (bm < 0))) :: (ints .u8 (digs 88 (aV bm be)))) from by simp only [renL, AV.ren, renL_ints, renL_u8s, renL_append])) <| oA (oS (show AObj.cells (zeroCellsA Tryz.prog 96) 96 = jC ((jB false) :: (ints .u8 (List.replicate 88 0))) 96 from by kernel_rfl)) <| oA (oS (show AObj.cells (zeroCellsA Tryz.prog 96) 96 = jC ((jB false) :: (ints .u8 (List.replicate 88 0))) 96 from by kernel_rfl)) <| oA (oSw (n := 89) ((jB (decide (am < 0))) :: (ints .u8 (digs 88 (aV am ae)))) ((jB false) :: (ints .u8 (List.replicate 88 0))) 96 lnO lnO) <| oA (oSw (n := 89) ((jB (decide (bm < 0))) :: (ints .u8 (digs 88 (aV bm be)))) ((jB false) :: (ints .u8 (List.replicate 88 0))) 96 lnO lnO) <| oA (oS (show (0 : Nat) ≤ 88 from by omega)) <| oA (oS (show (88 : Nat) ≤ 88 from by omega)) <| oA (oS (show (88 : Nat) ≤ 88 from by omega)) <| oA (oS (show AV.slice 2 (if 88 = 0 then 1 else 1 + 0 * 1) (88 - 0) (88 - 0) = AV.slice 2 1 88 88 from by kernel_rfl)) <| oA (oS (show (0 : Nat) ≤ 88 from by omega)) <| oA (oS (show (88 : Nat) ≤ 88 from by omega)) <| oA (oS (show (88 : Nat) ≤ 88 from by omega)) <| oA (oS (show AV.slice 3 (if 88 = 0 then 1 else 1 + 0 * 1) (88 - 0) (88 - 0) = AV.slice 3 1 88 88 from by kernel_rfl)) <| oA (oS (show [AV.slice 2 1 88 88, AV.slice 3 1 88 88] = renL [2, 3] [AV.slice 0 1 ((digs 88 (aV am ae)).length) 88, AV.slice 1 1 ((digs 88 (aV bm be)).length) 88] from by simp only [renL, AV.ren, digs_length]; rfl)) <| oA (oS (show Meets Tryz.prog 154 [AV.slice 0 1 ((digs 88 (aV am ae)).length) 88, AV.slice 1 1 ((digs 88 (aV bm be)).length) 88] [AObj.ro 1 (ints .u8 (digs 88 (aV am ae))), AObj.ro 1 (ints .u8 (digs 88 (aV bm be)))] (jI (cmpI (digs 88 (aV am ae)) (digs 88 (aV bm be)))) [AObj.ro 1 (ints .u8 (digs 88 (aV am ae))), AObj.ro 1 (ints .u8 (digs 88 (aV bm be)))] from compare_meets _ _ 1 1 88 88 (Dig.u8 (digs_dig _ _)) (Dig.u8 (digs_dig _ _)))) <| oA (oS (show Fits (jC ((jB (decide (am < 0))) :: (ints .u8 (digs 88 (aV am ae)))) 96) (AObj.ren [2, 3] (AObj.ro 1 (ints .u8 (digs 88 (aV am ae))))) from fits_fig (i := 0) _ rfl (by rw [List.drop_zero, List.take_length]))) <| oA (oS (show Fits (jC ((jB (decide (bm < 0))) :: (ints .u8 (digs 88 (aV bm be)))) 96) (AObj.ren [2, 3] (AObj.ro 1 (ints .u8 (digs 88 (aV bm be))))) from fits_fig (i := 0) _ rfl (by rw [List.drop_zero, List.take_length]))) <| oS (show updOf [2, 3] [jC ((jB (decide (am < 0))) :: (ints .u8 (digs 88 (aV am ae)))) 96, jC ((jB (decide (bm < 0))) :: (ints .u8 (digs 88 (aV bm be)))) 96] [AObj.ro 1 (ints .u8 (digs 88 (aV am ae))), AObj.ro 1 (ints .u8 (digs 88 (aV bm be)))] [AObj.ro 1 (ints .u8 (digs 88 (aV am ae))), AObj.ro 1 (ints .u8 (digs 88 (aV bm be)))] ++ List.map (fun x => x.ren [2, 3]) (List.drop 2 [AObj.ro 1 (ints .u8 (digs 88 (aV am ae))), AObj.ro 1 (ints .u8 (digs 88 (aV bm be)))]) = [jC ((jB (decide (am < 0))) :: (ints .u8 (digs 88 (aV am ae)))) 96, jC ((jB (decide (bm < 0))) :: (ints .u8 (digs 88 (aV bm be)))) 96] from rfl)
  let q1 : List Orc := [rG [hhN 0 0, (1, {nm := [1], obj := some [jC ((jB false) :: (ints .u8 (List.replicate 88 0))) 96]})], rG [hhV 1 (jA [jI am, jI ae]), (2, {call := some ⟨[], [jA [jI am, jI ae]], [], jA ((jB (decide (am < 0))) :: (ints .u8 (digs 88 (aV am ae)))), []⟩, val := some (jA ((jB (decide (am < 0))) :: (ints .u8 (digs 88 (aV am ae)))))}), hhV 4 (jA [jI bm, jI be]), (5, {call := some ⟨[], [jA [jI bm, jI be]], [], jA ((jB (decide (bm < 0))) :: (ints .u8 (digs 88 (aV bm be)))), []⟩, val := some (jA ((jB (decide (bm < 0))) :: (ints .u8 (digs 88 (aV bm be)))))}), (6, {nm := [2], obj := some [jC ((jB false) :: (ints .u8 (List.replicate 88 0))) 96]}), (7, {nm := [3], obj := some [jC ((jB false) :: (ints .u8 (List.replicate 88 0))) 96]}), (8, {obj := some [jC ((jB (decide (am < 0))) :: (ints .u8 (digs 88 (aV am ae)))) 96]}), (9, {obj := some [jC ((jB (decide (bm < 0))) :: (ints .u8 (digs 88 (aV bm be)))) 96]})]]
  by_cases c1 : (cmpI (digs 88 (aV am ae)) (digs 88 (aV bm be))) < 0
  · exact meets_run (fn := Tryz.f146) 4 (q1 ++ [rG [hhV 1 (AV.slice 2 1 88 88), hhV 3 (AV.slice 3 1 88 88), (4, {call := some ⟨[2, 3], [AV.slice 0 1 ((digs 88 (aV am ae)).length) 88, AV.slice 1 1 ((digs 88 (aV bm be)).length) 88], [AObj.ro 1 (ints .u8 (digs 88 (aV am ae))), AObj.ro 1 (ints .u8 (digs 88 (aV bm be)))], jI (cmpI (digs 88 (aV am ae)) (digs 88 (aV bm be))), [AObj.ro 1 (ints .u8 (digs 88 (aV am ae))), AObj.ro 1 (ints .u8 (digs 88 (aV bm be)))]⟩, obj := some [jC ((jB (decide (am < 0))) :: (ints .u8 (digs 88 (aV am ae)))) 96, jC ((jB (decide (bm < 0))) :: (ints .u8 (digs 88 (aV bm be)))) 96]}), hhB 5 true], rG [hhV 0 (jA ((jB (decide (bm < 0))) :: (ints .u8 (digs 88 (aV bm be))))), hhV 1 (jA ((jB (decide (am < 0))) :: (ints .u8 (digs 88 (aV am ae))))), (2, {call := some ⟨[], [jA ((jB (decide (bm < 0))) :: (ints .u8 (digs 88 (aV bm be)))), jA ((jB (decide (am < 0))) :: (ints .u8 (digs 88 (aV am ae))))], [], jA ((jB (decide (bm < 0))) :: (ints .u8 (digs 88 (sumV am ae bm be)))), []⟩, val := some (jA ((jB (decide (bm < 0))) :: (ints .u8 (digs 88 (sumV am ae bm be)))))}), (3, {obj := some [jC ((jB (decide (bm < 0))) :: (ints .u8 (digs 88 (sumV am ae bm be)))) 96]})]]) [{val := some (jA ((jB (decide (bm < 0))) :: (ints .u8 (digs 88 (sumV am ae bm be)))))}] Tryz.func146 (by kernel_rfl) Tryz.call146
      (oA o1 <| oA (oS (bT c1)) <| oA (oLw (n := 89) ((jB (decide (bm < 0))) :: (ints .u8 (digs 88 (aV bm be)))) lnO) <| oA (oLw (n := 89) ((jB (decide (am < 0))) :: (ints .u8 (digs 88 (aV am ae)))) lnO) <| oA (oS (show [jA ((jB (decide (bm < 0))) :: (ints .u8 (digs 88 (aV bm be)))), jA ((jB (decide (am < 0))) :: (ints .u8 (digs 88 (aV am ae))))] = renL [] [jA ((jB (decide (bm < 0))) :: (ints .u8 (digs 88 (aV bm be)))), jA ((jB (decide (am < 0))) :: (ints .u8 (digs 88 (aV am ae))))] from by simp only [renL, AV.ren, renL_ints, renL_u8s, renL_append])) <| oA (oS (show Meets Tryz.prog 155 [jA ((jB (decide (bm < 0))) :: (ints .u8 (digs 88 (aV bm be)))), jA ((jB (decide (am < 0))) :: (ints .u8 (digs 88 (aV am ae))))] [] (jA ((jB (decide (bm < 0))) :: (ints .u8 (digs 88 (sumV am ae bm be))))) [] from added_meets (decide (bm < 0)) (decide (am < 0)) _ _ (digs_dig _ _) (digs_dig _ _) (digs_length _ _) (digs_length _ _) _ (by rw [sumV, Int.add_comm]; exact sgn_sV bm be am ae hbm hbe ham hae (Int.le_of_lt ((cmp_digs hx hy).1 c1))))) <| oA (oS (show AV.ren [] (jA ((jB (decide (bm < 0))) :: (ints .u8 (digs 88 (sumV am ae bm be))))) = jA ((jB (decide (bm < 0))) :: (ints .u8 (digs 88 (sumV am ae bm be)))) from by simp only [renL, AV.ren, renL_ints, renL_u8s, renL_append])) <| oSw (n := 89) ((jB (decide (bm < 0))) :: (ints .u8 (digs 88 (sumV am ae bm be)))) ((jB false) :: (ints .u8 (List.replicate 88 0))) 96 lnO lnO)
      (oA (oLw (n := 89) ((jB (decide (bm < 0))) :: (ints .u8 (digs 88 (sumV am ae bm be)))) lnO) <| oA (oS (show jA ((jB (decide (bm < 0))) :: (ints .u8 (digs 88 (sumV am ae bm be)))) = jA ((jB (sumB am ae bm be)) :: (ints .u8 (digs 88 (sumV am ae bm be)))) from by rw [show sumB am ae bm be = decide (bm < 0) by simp only [sumB, cmp_digs hx hy] at c1 ⊢; simp only [c1, if_true, if_false]])) <| oS (show Avoid (fun n => decide (0 ≤ n)) (jA ((jB (sumB am ae bm be)) :: (ints .u8 (digs 88 (sumV am ae bm be))))) from Avoid.agg (AvoidL.cons (Avoid.bool _ _) (AvoidL.ints _ _ _)))) (by kernel_rfl)
  · exact meets_run (fn := Tryz.f146) 4 (q1 ++ [rG [hhV 1 (AV.slice 2 1 88 88), hhV 3 (AV.slice 3 1 88 88), (4, {call := some ⟨[2, 3], [AV.slice 0 1 ((digs 88 (aV am ae)).length) 88, AV.slice 1 1 ((digs 88 (aV bm be)).length) 88], [AObj.ro 1 (ints .u8 (digs 88 (aV am ae))), AObj.ro 1 (ints .u8 (digs 88 (aV bm be)))], jI (cmpI (digs 88 (aV am ae)) (digs 88 (aV bm be))), [AObj.ro 1 (ints .u8 (digs 88 (aV am ae))), AObj.ro 1 (ints .u8 (digs 88 (aV bm be)))]⟩, obj := some [jC ((jB (decide (am < 0))) :: (ints .u8 (digs 88 (aV am ae)))) 96, jC ((jB (decide (bm < 0))) :: (ints .u8 (digs 88 (aV bm be)))) 96]}), hhB 5 false], rG [hhV 0 (jA ((jB (decide (am < 0))) :: (ints .u8 (digs 88 (aV am ae))))), hhV 1 (jA ((jB (decide (bm < 0))) :: (ints .u8 (digs 88 (aV bm be))))), (2, {call := some ⟨[], [jA ((jB (decide (am < 0))) :: (ints .u8 (digs 88 (aV am ae)))), jA ((jB (decide (bm < 0))) :: (ints .u8 (digs 88 (aV bm be))))], [], jA ((jB (decide (am < 0))) :: (ints .u8 (digs 88 (sumV am ae bm be)))), []⟩, val := some (jA ((jB (decide (am < 0))) :: (ints .u8 (digs 88 (sumV am ae bm be)))))}), (3, {obj := some [jC ((jB (decide (am < 0))) :: (ints .u8 (digs 88 (sumV am ae bm be)))) 96]})]]) [{val := some (jA ((jB (decide (am < 0))) :: (ints .u8 (digs 88 (sumV am ae bm be)))))}] Tryz.func146 (by kernel_rfl) Tryz.call146
      (oA o1 <| oA (oS (bF c1)) <| oA (oLw (n := 89) ((jB (decide (am < 0))) :: (ints .u8 (digs 88 (aV am ae)))) lnO) <| oA (oLw (n := 89) ((jB (decide (bm < 0))) :: (ints .u8 (digs 88 (aV bm be)))) lnO) <| oA (oS (show [jA ((jB (decide (am < 0))) :: (ints .u8 (digs 88 (aV am ae)))), jA ((jB (decide (bm < 0))) :: (ints .u8 (digs 88 (aV bm be))))] = renL [] [jA ((jB (decide (am < 0))) :: (ints .u8 (digs 88 (aV am ae)))), jA ((jB (decide (bm < 0))) :: (ints .u8 (digs 88 (aV bm be))))] from by simp only [renL, AV.ren, renL_ints, renL_u8s, renL_append])) <| oA (oS (show Meets Tryz.prog 155 [jA ((jB (decide (am < 0))) :: (ints .u8 (digs 88 (aV am ae)))), jA ((jB (decide (bm < 0))) :: (ints .u8 (digs 88 (aV bm be))))] [] (jA ((jB (decide (am < 0))) :: (ints .u8 (digs 88 (sumV am ae bm be))))) [] from added_meets (decide (am < 0)) (decide (bm < 0)) _ _ (digs_dig _ _) (digs_dig _ _) (digs_length _ _) (digs_length _ _) _ (by rw [sumV]; exact sgn_sV am ae bm be ham hae hbm hbe (Int.not_lt.1 fun h => c1 ((cmp_digs hx hy).2 h))))) <| oA (oS (show AV.ren [] (jA ((jB (decide (am < 0))) :: (ints .u8 (digs 88 (sumV am ae bm be))))) = jA ((jB (decide (am < 0))) :: (ints .u8 (digs 88 (sumV am ae bm be)))) from by simp only [renL, AV.ren, renL_ints, renL_u8s, renL_append])) <| oSw (n := 89) ((jB (decide (am < 0))) :: (ints .u8 (digs 88 (sumV am ae bm be)))) ((jB false) :: (ints .u8 (List.replicate 88 0))) 96 lnO lnO)
      (oA (oLw (n := 89) ((jB (decide (am < 0))) :: (ints .u8 (digs 88 (sumV am ae bm be)))) lnO) <| oA (oS (show jA ((jB (decide (am < 0))) :: (ints .u8 (digs 88 (sumV am ae bm be)))) = jA ((jB (sumB am ae bm be)) :: (ints .u8 (digs 88 (sumV am ae bm be)))) from by rw [show sumB am ae bm be = decide (am < 0) by simp only [sumB, cmp_digs hx hy] at c1 ⊢; simp only [c1, if_true, if_false]])) <| oS (show Avoid (fun n => decide (0 ≤ n)) (jA ((jB (sumB am ae bm be)) :: (ints .u8 (digs 88 (sumV am ae bm be))))) from Avoid.agg (AvoidL.cons (Avoid.bool _ _) (AvoidL.ints _ _ _)))) (by kernel_rfl)

theorem difference_meets (am ae bm be : Int) (ham : -1000000000000000 < am ∧ am < 1000000000000000) (hae : -9 ≤ ae ∧ ae ≤ 9) (hbm : -1000000000000000 < bm ∧ bm < 1000000000000000) (hbe : -9 ≤ be ∧ be ≤ 9) : Meets Tryz.prog 131 [jA [jI am, jI ae, jI bm, jI be]] [] (jA ((jB (sumB am ae (-bm) be)) :: (ints .u8 (digs 88 (sumV am ae (-bm) be))))) [] := by
  exact meets_run (fn := Tryz.f131) 2 [rG [hhN 0 0, (1, {nm := [1], obj := some [jC ((jB false) :: (ints .u8 (List.replicate 88 0))) 96]})], rG [hhV 1 (jA [jI am, jI ae]), hhI 4 bm, hhI 5 (-bm), hhI 8 be, hhV 9 (jA [jI (-bm), jI be]), hhV 10 (jA [jI am, jI ae, jI (-bm), jI be]), (11, {call := some ⟨[], [jA [jI am, jI ae, jI (-bm), jI be]], [], jA ((jB (sumB am ae (-bm) be)) :: (ints .u8 (digs 88 (sumV am ae (-bm) be)))), []⟩, val := some (jA ((jB (sumB am ae (-bm) be)) :: (ints .u8 (digs 88 (sumV am ae (-bm) be)))))}), (12, {obj := some [jC ((jB (sumB am ae (-bm) be)) :: (ints .u8 (digs 88 (sumV am ae (-bm) be)))) 96]})]] [{val := some (jA ((jB (sumB am ae (-bm) be)) :: (ints .u8 (digs 88 (sumV am ae (-bm) be)))))}] Tryz.func131 (by kernel_rfl) Tryz.call131
    (oA (oS (show AObj.cells (zeroCellsA Tryz.prog 96) 96 = jC ((jB false) :: (ints .u8 (List.replicate 88 0))) 96 from by kernel_rfl)) <| oA (oLp ([jI am, jI ae, jI bm, jI be]) 0 2 ([jI am, jI ae]) rfl rfl) <| oA (oLf ([jI am, jI ae, jI bm, jI be]) (2) (jI bm) (rfl)) <| oA (oW (0 - bm) (-bm) (by omega)) <| oA (oLf ([jI am, jI ae, jI bm, jI be]) (3) (jI be) (rfl)) <| oA (oS (show ([jI (-bm)] : List AV).length = 1 from rfl)) <| oA (oS (show 0 + 1 ≤ ([jI 0, jI 0] : List AV).length from Nat.le_of_ble_eq_true (by kernel_rfl))) <| oA (oS (show ([jI be] : List AV).length = 1 from rfl)) <| oA (oS (show 1 + 1 ≤ (List.take 0 [jI 0, jI 0] ++ [jI (-bm)] ++ List.drop 1 [jI 0, jI 0] : List AV).length from Nat.le_of_ble_eq_true (by kernel_rfl))) <| oA (oS (show AV.agg (List.take 1 (List.take 0 [jI 0, jI 0] ++ [jI (-bm)] ++ List.drop 1 [jI 0, jI 0]) ++ [jI be] ++ List.drop 2 (List.take 0 [jI 0, jI 0] ++ [jI (-bm)] ++ List.drop 1 [jI 0, jI 0])) = jA [jI (-bm), jI be] from by kernel_rfl)) <| oA (oS (show ([jI am, jI ae] : List AV).length = 2 from rfl)) <| oA (oS (show 0 + 2 ≤ ([jI 0, jI 0, jI 0, jI 0] : List AV).length from Nat.le_of_ble_eq_true (by kernel_rfl))) <| oA (oS (show ([jI (-bm), jI be] : List AV).length = 2 from rfl)) <| oA (oS (show 2 + 2 ≤ (List.take 0 [jI 0, jI 0, jI 0, jI 0] ++ [jI am, jI ae] ++ List.drop 2 [jI 0, jI 0, jI 0, jI 0] : List AV).length from Nat.le_of_ble_eq_true (by kernel_rfl))) <| oA (oS (show AV.agg (List.take 2 (List.take 0 [jI 0, jI 0, jI 0, jI 0] ++ [jI am, jI ae] ++ List.drop 2 [jI 0, jI 0, jI 0, jI 0]) ++ [jI (-bm), jI be] ++ List.drop 4 (List.take 0 [jI 0, jI 0, jI 0, jI 0] ++ [jI am, jI ae] ++ List.drop 2 [jI 0, jI 0, jI 0, jI 0])) = jA [jI am, jI ae, jI (-bm), jI be] from by kernel_rfl)) <| oA (oC (sum_meets am ae (-bm) be ham (by omega) (by omega) (by omega)) rfl) <| oA (oS (show AV.ren [] (jA ((jB (sumB am ae (-bm) be)) :: (ints .u8 (digs 88 (sumV am ae (-bm) be))))) = jA ((jB (sumB am ae (-bm) be)) :: (ints .u8 (digs 88 (sumV am ae (-bm) be)))) from by simp only [renL, AV.ren, renL_ints, renL_u8s, renL_append])) <| oSw (n := 89) ((jB (sumB am ae (-bm) be)) :: (ints .u8 (digs 88 (sumV am ae (-bm) be)))) ((jB false) :: (ints .u8 (List.replicate 88 0))) 96 lnO lnO)
    (oA (oLw (n := 89) ((jB (sumB am ae (-bm) be)) :: (ints .u8 (digs 88 (sumV am ae (-bm) be)))) lnO) <| oA (oS (@rfl _ (jA ((jB (sumB am ae (-bm) be)) :: (ints .u8 (digs 88 (sumV am ae (-bm) be))))))) <| oS (show Avoid (fun n => decide (0 ≤ n)) (jA ((jB (sumB am ae (-bm) be)) :: (ints .u8 (digs 88 (sumV am ae (-bm) be))))) from Avoid.agg (AvoidL.cons (Avoid.bool _ _) (AvoidL.ints _ _ _)))) (by kernel_rfl)

theorem sV_neg' (m e : Int) : sV (-m) e = -sV m e := by unfold sV; rw [Int.neg_mul]
theorem sumB_sign {am ae bm be : Int} (ham : -1000000000000000 < am ∧ am < 1000000000000000) (hae : -18 ≤ ae ∧ ae ≤ 18) (hbm : -1000000000000000 < bm ∧ bm < 1000000000000000) (hbe : -18 ≤ be ∧ be ≤ 18) (h : sV am ae + sV bm be ≠ 0) : sumB am ae bm be = decide (sV am ae + sV bm be < 0) := by
  have hx := aV_bounds ham hae
  have hy := aV_bounds hbm hbe
  have pa : am < 0 → 0 < aV am ae := fun k => by
    unfold aV; exact Int.mul_pos (by omega) (pow_pos' _)
  have pb : bm < 0 → 0 < aV bm be := fun k => by
    unfold aV; exact Int.mul_pos (by omega) (pow_pos' _)
  unfold sumB
  by_cases c1 : am < 0 <;> by_cases c2 : bm < 0
  · have := pa c1; have := pb c2
    rw [sV_neg c1, sV_neg c2] at h ⊢
    split <;> simp only [c1, c2, decide_true] <;> exact (decide_eq_true (by omega)).symm
  · have := pa c1
    rw [sV_neg c1, sV_pos c2] at h ⊢
    split
    · simp only [c2, decide_false]; exact (decide_eq_false (by omega)).symm
    · simp only [c1, decide_true]; exact (decide_eq_true (by omega)).symm
  · have := pb c2
    rw [sV_pos c1, sV_neg c2] at h ⊢
    split
    · simp only [c2, decide_true]; exact (decide_eq_true (by omega)).symm
    · simp only [c1, decide_false]; exact (decide_eq_false (by omega)).symm
  · rw [sV_pos c1, sV_pos c2] at h ⊢
    split <;> simp only [c1, c2, decide_false] <;> exact (decide_eq_false (by omega)).symm
def cmpR (am ae bm be : Int) : Int := if rightB am ae = true ∧ rightB bm be = true then (if sV am ae < sV bm be then -1 else if sV bm be < sV am ae then 1 else 0) else 0
theorem val_sumV {am ae bm be : Int} (ham : -1000000000000000 < am ∧ am < 1000000000000000) (hae : -18 ≤ ae ∧ ae ≤ 18) (hbm : -1000000000000000 < bm ∧ bm < 1000000000000000) (hbe : -18 ≤ be ∧ be ≤ 18) : val (digs 88 (sumV am ae bm be)) = ((sV am ae + sV bm be).natAbs : Int) := by
  have hx := aV_bounds ham hae
  have hy := aV_bounds hbm hbe
  have h1 : sV am ae = aV am ae ∨ sV am ae = -aV am ae := by
    by_cases c : am < 0
    · exact .inr (sV_neg c)
    · exact .inl (sV_pos c)
  have h2 : sV bm be = aV bm be ∨ sV bm be = -aV bm be := by
    by_cases c : bm < 0
    · exact .inr (sV_neg c)
    · exact .inl (sV_pos c)
  have h73 : (10 : Int) ^ 73 + 10 ^ 73 ≤ 10 ^ 88 := by decide
  rw [sumV, val_digs _ _ (by omega)]
  generalize (10 : Int) ^ 73 = p at *
  generalize (10 : Int) ^ 88 = q at *
  omega
theorem cmp_zero {am ae bm be : Int} (c1 : rightB am ae = true) (c2 : rightB bm be = true) (c3 : val (digs 88 (sumV am ae (-bm) be)) = 0) : AV.int .i64 0 = AV.int .i64 (cmpR am ae bm be) := by
  have h1 := right_bounds c1
  have h2 := right_bounds c2
  rw [val_sumV h1.1 (by omega) (by omega) (by omega), sV_neg'] at c3
  rw [cmpR, if_pos ⟨c1, c2⟩, if_neg (by omega), if_neg (by omega)]
theorem cmp_less {am ae bm be : Int} (c1 : rightB am ae = true) (c2 : rightB bm be = true) (c3 : ¬ val (digs 88 (sumV am ae (-bm) be)) = 0) (c4 : sumB am ae (-bm) be = true) : AV.int .i64 (-1) = AV.int .i64 (cmpR am ae bm be) := by
  have h1 := right_bounds c1
  have h2 := right_bounds c2
  rw [val_sumV h1.1 (by omega) (by omega) (by omega)] at c3
  rw [sumB_sign h1.1 (by omega) (by omega) (by omega) (by omega), sV_neg', decide_eq_true_eq] at c4
  rw [cmpR, if_pos ⟨c1, c2⟩, if_pos (by omega)]
theorem cmp_more {am ae bm be : Int} (c1 : rightB am ae = true) (c2 : rightB bm be = true) (c3 : ¬ val (digs 88 (sumV am ae (-bm) be)) = 0) (c4 : ¬ sumB am ae (-bm) be = true) : AV.int .i64 1 = AV.int .i64 (cmpR am ae bm be) := by
  have h1 := right_bounds c1
  have h2 := right_bounds c2
  rw [val_sumV h1.1 (by omega) (by omega) (by omega), sV_neg'] at c3
  rw [sumB_sign h1.1 (by omega) (by omega) (by omega) (by rw [sV_neg']; omega), sV_neg', decide_eq_true_eq] at c4
  rw [cmpR, if_pos ⟨c1, c2⟩, if_neg (by omega), if_pos (by omega)]

theorem cmp_meets (am ae bm be : Int) : Meets Tryz.prog 107 [jA [jI am, jI ae], jA [jI bm, jI be]] [] (jI (cmpR am ae bm be)) [] := by
  have o1 := oA (oLw ([jI am, jI ae]) (rfl)) <| oC (right_meets am ae) rfl
  let q1 : List Orc := [rG [hhN 0 0, hhN 1 1]]
  by_cases c1 : rightB am ae = true
  · have o2 := oA (oS (boolT c1)) <| oA (oS (show AV.bool (!true) = jB false from rfl)) <| oA (oLw ([jI bm, jI be]) (rfl)) <| oC (right_meets bm be) rfl
    by_cases c2 : rightB bm be = true
    · have o3 := oA (oS (boolT c2)) <| oA (oS (show AV.bool (!true) = jB false from rfl)) <| oA (oLw ([jI am, jI ae]) (rfl)) <| oA (oLw ([jI bm, jI be]) (rfl)) <| oA (oS (show ([jI am, jI ae] : List AV).length = 2 from rfl)) <| oA (oS (show 0 + 2 ≤ ([jI 0, jI 0, jI 0, jI 0] : List AV).length from Nat.le_of_ble_eq_true (by kernel_rfl))) <| oA (oS (show ([jI bm, jI be] : List AV).length = 2 from rfl)) <| oA (oS (show 2 + 2 ≤ (List.take 0 [jI 0, jI 0, jI 0, jI 0] ++ [jI am, jI ae] ++ List.drop 2 [jI 0, jI 0, jI 0, jI 0] : List AV).length from Nat.le_of_ble_eq_true (by kernel_rfl))) <| oA (oS (show AV.agg (List.take 2 (List.take 0 [jI 0, jI 0, jI 0, jI 0] ++ [jI am, jI ae] ++ List.drop 2 [jI 0, jI 0, jI 0, jI 0]) ++ [jI bm, jI be] ++ List.drop 4 (List.take 0 [jI 0, jI 0, jI 0, jI 0] ++ [jI am, jI ae] ++ List.drop 2 [jI 0, jI 0, jI 0, jI 0])) = jA [jI am, jI ae, jI bm, jI be] from by kernel_rfl)) <| oA (oC (difference_meets am ae bm be (right_bounds c1).1 (right_bounds c1).2 (right_bounds c2).1 (right_bounds c2).2) rfl) <| oA (oS (show AV.ren [] (jA ((jB (sumB am ae (-bm) be)) :: (ints .u8 (digs 88 (sumV am ae (-bm) be))))) = jA ((jB (sumB am ae (-bm) be)) :: (ints .u8 (digs 88 (sumV am ae (-bm) be)))) from by simp only [renL, AV.ren, renL_ints, renL_u8s, renL_append])) <| oA (oS (show AObj.cells (zeroCellsA Tryz.prog 96) 96 = jC ((jB false) :: (ints .u8 (List.replicate 88 0))) 96 from by kernel_rfl)) <| oA (oSw (n := 89) ((jB (sumB am ae (-bm) be)) :: (ints .u8 (digs 88 (sumV am ae (-bm) be)))) ((jB false) :: (ints .u8 (List.replicate 88 0))) 96 lnO lnO) <| oA (oS (show (0 : Nat) ≤ 88 from by omega)) <| oA (oS (show (88 : Nat) ≤ 88 from by omega)) <| oA (oS (show (88 : Nat) ≤ 88 from by omega)) <| oA (oS (show AV.slice 2 (if 88 = 0 then 1 else 1 + 0 * 1) (88 - 0) (88 - 0) = AV.slice 2 1 88 88 from by kernel_rfl)) <| oA (oS (show [AV.slice 2 1 88 88] = renL [2] [AV.slice 0 1 ((digs 88 (sumV am ae (-bm) be)).length) 88] from by simp only [renL, AV.ren, List.length_drop, digs_length]; rfl)) <| oA (oS (show Meets Tryz.prog 132 [AV.slice 0 1 ((digs 88 (sumV am ae (-bm) be)).length) 88] [AObj.ro 1 (ints .u8 (digs 88 (sumV am ae (-bm) be)))] (jB (decide (val (digs 88 (sumV am ae (-bm) be)) = 0))) [AObj.ro 1 (ints .u8 (digs 88 (sumV am ae (-bm) be)))] from none_meets (digs 88 (sumV am ae (-bm) be)) 1 88 (by simp only [List.length_drop, digs_length] <;> omega) (by simp only [List.length_drop, digs_length] <;> omega) (digs_dig _ _))) <| oS (show Fits (jC ((jB (sumB am ae (-bm) be)) :: (ints .u8 (digs 88 (sumV am ae (-bm) be)))) 96) (AObj.ren [2] (AObj.ro 1 (ints .u8 (digs 88 (sumV am ae (-bm) be))))) from fits_fig (i := 0) _ rfl (by rw [List.drop_zero, List.take_length]))
      let q2 : List Orc := [rG [hhV 0 (jA [jI am, jI ae]), hhMB 1 (right_meets am ae) true, hhB 2 false, hhV 4 (jA [jI bm, jI be]), hhMB 5 (right_meets bm be) true, hhB 6 false], rG [hhV 0 (jA [jI am, jI ae]), hhV 1 (jA [jI bm, jI be]), hhV 2 (jA [jI am, jI ae, jI bm, jI be]), (3, {call := some ⟨[], [jA [jI am, jI ae, jI bm, jI be]], [], jA ((jB (sumB am ae (-bm) be)) :: (ints .u8 (digs 88 (sumV am ae (-bm) be)))), []⟩, val := some (jA ((jB (sumB am ae (-bm) be)) :: (ints .u8 (digs 88 (sumV am ae (-bm) be)))))}), (4, {nm := [2], obj := some [jC ((jB false) :: (ints .u8 (List.replicate 88 0))) 96]}), (5, {obj := some [jC ((jB (sumB am ae (-bm) be)) :: (ints .u8 (digs 88 (sumV am ae (-bm) be)))) 96]})]]
      by_cases c3 : val (digs 88 (sumV am ae (-bm) be)) = 0
      · exact meets_run (fn := Tryz.f107) 3 (q1 ++ (q2 ++ [rG [hhV 1 (AV.slice 2 1 88 88), (2, {call := some ⟨[2], [AV.slice 0 1 ((digs 88 (sumV am ae (-bm) be)).length) 88], [AObj.ro 1 (ints .u8 (digs 88 (sumV am ae (-bm) be)))], jB (decide (val (digs 88 (sumV am ae (-bm) be)) = 0)), [AObj.ro 1 (ints .u8 (digs 88 (sumV am ae (-bm) be)))]⟩, val := some (jB true), obj := some [jC ((jB (sumB am ae (-bm) be)) :: (ints .u8 (digs 88 (sumV am ae (-bm) be)))) 96]})], rG []])) [{}] Tryz.func107 (by kernel_rfl) Tryz.call107
          (oA o1 <| oA o2 <| oA o3 <| oA (oS (bT c3)) <| oS (show updOf [2] [jC ((jB (sumB am ae (-bm) be)) :: (ints .u8 (digs 88 (sumV am ae (-bm) be)))) 96] [AObj.ro 1 (ints .u8 (digs 88 (sumV am ae (-bm) be)))] [AObj.ro 1 (ints .u8 (digs 88 (sumV am ae (-bm) be)))] ++ List.map (fun x => x.ren [2]) (List.drop 1 [AObj.ro 1 (ints .u8 (digs 88 (sumV am ae (-bm) be)))]) = [jC ((jB (sumB am ae (-bm) be)) :: (ints .u8 (digs 88 (sumV am ae (-bm) be)))) 96] from rfl))
          (oS (show jI 0 = jI (cmpR am ae bm be) from by first | exact cmp_zero c1 c2 c3 | (unfold cmpR; simp [*]))) (by kernel_rfl)
      · have o4 := oA (oS (bF c3)) <| oS (show updOf [2] [jC ((jB (sumB am ae (-bm) be)) :: (ints .u8 (digs 88 (sumV am ae (-bm) be)))) 96] [AObj.ro 1 (ints .u8 (digs 88 (sumV am ae (-bm) be)))] [AObj.ro 1 (ints .u8 (digs 88 (sumV am ae (-bm) be)))] ++ List.map (fun x => x.ren [2]) (List.drop 1 [AObj.ro 1 (ints .u8 (digs 88 (sumV am ae (-bm) be)))]) = [jC ((jB (sumB am ae (-bm) be)) :: (ints .u8 (digs 88 (sumV am ae (-bm) be)))) 96] from rfl)
        let q3 : List Orc := [rG [hhV 1 (AV.slice 2 1 88 88), (2, {call := some ⟨[2], [AV.slice 0 1 ((digs 88 (sumV am ae (-bm) be)).length) 88], [AObj.ro 1 (ints .u8 (digs 88 (sumV am ae (-bm) be)))], jB (decide (val (digs 88 (sumV am ae (-bm) be)) = 0)), [AObj.ro 1 (ints .u8 (digs 88 (sumV am ae (-bm) be)))]⟩, val := some (jB false), obj := some [jC ((jB (sumB am ae (-bm) be)) :: (ints .u8 (digs 88 (sumV am ae (-bm) be)))) 96]})]]
        by_cases c4 : sumB am ae (-bm) be = true
        · exact meets_run (fn := Tryz.f107) 3 (q1 ++ (q2 ++ (q3 ++ [rG [hhB 1 true], rG []]))) [{}] Tryz.func107 (by kernel_rfl) Tryz.call107
            (oA o1 <| oA o2 <| oA o3 <| oA o4 <| oLf ((jB (sumB am ae (-bm) be)) :: (ints .u8 (digs 88 (sumV am ae (-bm) be)))) (0) (jB true) (atT (rfl) c4))
            (oS (show jI (-1) = jI (cmpR am ae bm be) from cmp_less c1 c2 c3 c4)) (by kernel_rfl)
        · exact meets_run (fn := Tryz.f107) 3 (q1 ++ (q2 ++ (q3 ++ [rG [hhB 1 false], rG []]))) [{}] Tryz.func107 (by kernel_rfl) Tryz.call107
            (oA o1 <| oA o2 <| oA o3 <| oA o4 <| oLf ((jB (sumB am ae (-bm) be)) :: (ints .u8 (digs 88 (sumV am ae (-bm) be)))) (0) (jB false) (atF (rfl) c4))
            (oS (show jI 1 = jI (cmpR am ae bm be) from cmp_more c1 c2 c3 c4)) (by kernel_rfl)
    · exact meets_run (fn := Tryz.f107) 3 (q1 ++ [rG [hhV 0 (jA [jI am, jI ae]), hhMB 1 (right_meets am ae) true, hhB 2 false, hhV 4 (jA [jI bm, jI be]), hhMB 5 (right_meets bm be) false, hhB 6 true], rG []]) [{}] Tryz.func107 (by kernel_rfl) Tryz.call107
        (oA o1 <| oA o2 <| oA (oS (boolF c2)) <| oS (show AV.bool (!false) = jB true from rfl))
        (oS (show jI 0 = jI (cmpR am ae bm be) from by first | exact cmp_zero c1 c2 c3 | (unfold cmpR; simp [*]))) (by kernel_rfl)
  · exact meets_run (fn := Tryz.f107) 3 (q1 ++ [rG [hhV 0 (jA [jI am, jI ae]), hhMB 1 (right_meets am ae) false, hhB 2 true], rG []]) [{}] Tryz.func107 (by kernel_rfl) Tryz.call107
      (oA o1 <| oA (oS (boolF c1)) <| oS (show AV.bool (!false) = jB true from rfl))
      (oS (show jI 0 = jI (cmpR am ae bm be) from by first | exact cmp_zero c1 c2 c3 | (unfold cmpR; simp [*]))) (by kernel_rfl)

end Go.Proofs.YtdomenmfkbfakaaGreatDoor.Dq
