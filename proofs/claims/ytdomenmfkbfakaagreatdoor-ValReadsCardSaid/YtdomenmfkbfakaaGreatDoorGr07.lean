/- Runs that are told by hints: an elder way to contracts, over the newer triple. -/
import Derived.Test.YtdomenmfkbfakaaGreatDoorGr05
import Derived.Test.YtdomenmfkbfakaaGreatDoorGr03
import Derived.Test.YtdomenmfkbfakaaGreatDoorProg
import Derived.KernelRfl
import Derived.Test.YtdomenmfkbfakaaGreatDoorDecA
import Derived.Lib.Bytealg
set_option linter.unusedVariables false
set_option linter.unusedSimpArgs false
namespace Go.Proofs.YtdomenmfkbfakaaGreatDoor.Sx
open Go
variable {P : Program}

/-- What is told in the order of the text: of each region its hints; of each loop the state at its head, how it is left, and the state behind it. -/
inductive Orc where
  | reg (hs : List (Nat × Hint))
  | loop (sIn : AState) (ex : Ex) (sOut : AState)

def hintOf (hs : List (Nat × Hint)) (i : Nat) : Hint := (hs.lookup i).getD {}

def orderOK (P : Program) (ops : Array Oper) (fs : List Foot) : Bool :=
  let A := ancs (ops.toList.map direct) []
  P.follows .mixedOrders && ancOK ops A && pairsOK ops A (fun i => fs.getD i .no)

structure Out where
  obl : List Prop
  ex : Ex
  st : AState
  rest : List Orc

def exec (P : Program) (K : Nat) : Code → List Orc → AState → Option Out
  | .skip, q, s => some ⟨[], .normal, s, q⟩
  | .label _, q, s => some ⟨[], .normal, s, q⟩
  | .ret, q, s => some ⟨[], .ret, s, q⟩
  | .exit id, q, s => some ⟨[], .exit id, s, q⟩
  | .region _ ops draw, .reg hs :: q, s =>
    match runOps P ops (hintOf hs) (List.range ops.size) s with
    | some (ob, fs, s') => if !draw || orderOK P ops fs then some ⟨ob, .normal, s', q⟩ else none
    | none => none
  | .seq x y, q, s =>
    match exec P K x q s with
    | some ⟨ob, .normal, s', q'⟩ =>
      match exec P K y q' s' with
      | some ⟨ob2, ex, s2, q2⟩ => some ⟨ob ++ ob2, ex, s2, q2⟩
      | none => none
    | r => r
  | .cond c x y, q, s =>
    match s.ev c with
    | some (.bool true) => exec P K x q s
    | some (.bool false) => exec P K y q s
    | _ => none
  | .block id x, q, s =>
    match exec P K x q s with
    | some ⟨ob, .exit j, s', q'⟩ => some ⟨ob, if j == id then .normal else .exit j, s', q'⟩
    | r => r
  | .loop x, .loop sIn ex sOut :: q, s =>
    match weakA s sIn with
    | some ob => some ⟨ob ++ [Tri P (.loop x) sIn ex sOut K], ex, sOut, q⟩
    | none => none
  | _, _, _ => none


/-- A RUN IS SOUND. -/
theorem exec_sound {K : Nat} : ∀ (c : Code) (q : List Orc) (s : AState) (r : Out), exec P K c q s = some r → AllP r.obl → Tri P c s r.ex r.st K
  | .skip, q, s, r, h, hob => by
    simp [exec] at h; subst h
    exact fun ro w0 M E a w hro hR => wpIn_skip ⟨rfl, E, .refl _ _, hR⟩
  | .label l, q, s, r, h, hob => by
    simp [exec] at h; subst h
    exact fun ro w0 M E a w hro hR => wpIn_label ⟨rfl, E, .refl _ _, hR⟩
  | .ret, q, s, r, h, hob => by
    simp [exec] at h; subst h
    exact fun ro w0 M E a w hro hR => wpIn_ret ⟨rfl, E, .refl _ _, hR⟩
  | .exit id, q, s, r, h, hob => by
    simp [exec] at h; subst h
    exact fun ro w0 M E a w hro hR => wpIn_exit ⟨rfl, E, .refl _ _, hR⟩
  | .region id ops draw, q, s, r, h, hob => by
    cases q with
    | nil => simp [exec] at h
    | cons o q =>
      cases o with
      | loop _ _ _ => simp [exec] at h
      | reg hs =>
        simp only [exec] at h
        split at h
        · rename_i ob fs s' hr
          split at h
          · rename_i hd
            cases h
            intro ro w0 M E a w hro hR
            have hlen := runOps_length _ _ _ _ _ hr
            have runs := runs_of_runOps (LG := fun i => fs.getD i .no) _ _ _ _ _ hr hob (fun j => by
              by_cases hj : j < ops.size
              · have hj' : j < fs.length := by simpa [hlen] using hj
                simp [hj, hj', List.getD]
              · have hj' : ¬ j < fs.length := by simpa [hlen] using hj
                rw [List.getElem?_eq_none (by omega), List.getElem?_eq_none (by simp; omega)]; rfl)
            cases draw with
            | false => exact region_text runs hR fun E' a' w' hle h' => ⟨rfl, E', hle.toK, h'⟩
            | true =>
              simp only [Bool.not_true, Bool.false_or, orderOK, Bool.and_eq_true] at hd
              exact region_draw hd.1.1 hd.1.2 hd.2 runs hR fun E' a' w' hle h' => ⟨rfl, E', hle.toK, h'⟩
          · cases h
        · cases h
  | .seq x y, q, s, r, h, hob => by
    simp only [exec] at h
    split at h
    · rename_i ob s' q' hx
      split at h
      · rename_i ob2 ex s2 q2 hy
        cases h
        obtain ⟨k1, k2⟩ := allP_append.1 hob
        have t1 := exec_sound x q s _ hx k1
        have t2 := exec_sound y q' s' _ hy k2
        intro ro w0 M E a w hro hR
        refine wpIn_seq (wpIn_mono (t1 ro w0 M E a w (no_left hro) hR) ?_)
        rintro e a' w' ⟨rfl, E', hle, h'⟩
        refine wpIn_mono (t2 ro w0 M E' a' w' (no_right hro) h') ?_
        rintro e2 a2 w2 ⟨rfl, E2, hle2, h2⟩
        exact ⟨rfl, E2, hle.trans hle2, h2⟩
      · cases h
    · rename_i hx
      have t1 := exec_sound x q s _ h hob
      intro ro w0 M E a w hro hR
      refine wpIn_seq (wpIn_mono (t1 ro w0 M E a w (no_left hro) hR) ?_)
      rintro e a' w' ⟨rfl, E', hle, h'⟩
      obtain ⟨ob, ex, s', q'⟩ := r
      cases ex with
      | normal => exact absurd h (hx ob s' q')
      | exit id => exact ⟨rfl, E', hle, h'⟩
      | ret => exact ⟨rfl, E', hle, h'⟩
  | .cond c x y, q, s, r, h, hob => by
    simp only [exec] at h
    split at h
    · rename_i hc
      intro ro w0 M E a w hro hR
      have := hR.ev hc
      exact wpIn_cond_true (by simpa [den] using this.symm) (exec_sound x q s r h hob ro w0 M E a w (no_left hro) hR)
    · rename_i hc
      intro ro w0 M E a w hro hR
      have := hR.ev hc
      exact wpIn_cond_false (by simpa [den] using this.symm) (exec_sound y q s r h hob ro w0 M E a w (no_right hro) hR)
    · cases h
  | .block id x, q, s, r, h, hob => by
    simp only [exec] at h
    split at h
    · rename_i ob j s' q' hx
      cases h
      have t1 := exec_sound x q s _ hx hob
      intro ro w0 M E a w hro hR
      refine wpIn_block (wpIn_mono (t1 ro w0 M E a w hro hR) ?_)
      rintro e a' w' ⟨rfl, E', hle, h'⟩
      simp only [Ex.to, Exit.inBlock]
      by_cases hj : j = id
      · simp only [hj, if_true, beq_self_eq_true]; exact ⟨trivial, E', hle, h'⟩
      · have hj' : (j == id) = false := by simpa using hj
        simp only [hj, if_false, hj', Bool.false_eq_true]; exact ⟨trivial, E', hle, h'⟩
    · rename_i hx
      have t1 := exec_sound x q s _ h hob
      intro ro w0 M E a w hro hR
      refine wpIn_block (wpIn_mono (t1 ro w0 M E a w hro hR) ?_)
      rintro e a' w' ⟨rfl, E', hle, h'⟩
      obtain ⟨ob, ex, s', q'⟩ := r
      cases ex with
      | normal => exact ⟨rfl, E', hle, h'⟩
      | exit j => exact absurd h (hx ob j s' q')
      | ret => exact ⟨rfl, E', hle, h'⟩
  | .loop x, q, s, r, h, hob => by
    cases q with
    | nil => simp [exec] at h
    | cons o q =>
      cases o with
      | reg _ => simp [exec] at h
      | loop sIn ex sOut =>
        simp only [exec] at h
        split at h
        · rename_i ob hw
          cases h
          obtain ⟨k1, k2, _⟩ := allP_append.1 hob |>.imp id id
          exact fun ro w0 M E a w hro hR => k2 ro w0 M E a w hro (hR.weak hw k1)
        · cases h
  | .rangeFunc _ _ _ _, q, s, r, h, hob => by simp [exec] at h
  | .scope _, q, s, r, h, hob => by simp [exec] at h
  | .goto _, q, s, r, h, hob => by simp [exec] at h
  | .refuse _, q, s, r, h, hob => by simp [exec] at h


/-- THE SAME, OF A BODY WITHOUT A LOOP OF ITS OWN, OR WITH LOOPS THAT ARE TOLD OF. -/
theorem meets_of_exec {f : FuncId} {fn : Func} {args : List AV} {pre post : List AObj} {res : AV} (k : Nat) (q : List Orc) (hs : List Hint) {r : Out} {ob : List Prop} (hfy : f ≠ yF) (hf : P.funcs[f]? = some fn) (hb : fn.body.isSome = true)
    (hent : ∀ args w, (callFunc f args).run P w = .ok (.enter f args) w) (he : exec P pre.length (bodyOf fn) q (start fn.ntmps args pre k) = some r) (h1 : AllP r.obl) (hex : r.ex = .ret ∨ r.ex = .normal) (hfin : finA P fn.results.toList hs r.st pre.length res post = some ob) (hob : AllP ob) (hpo : ((pre.zip post).all fun p => !p.1.owned || p.2.owned || !p.2.live) = true) :
    Meets P f args pre res post :=
  meets_of_tri (body := bodyOf fn) hfy hf (by unfold bodyOf; cases h : fn.body with | none => rw [h] at hb; cases hb | some b => rfl) hent (exec_sound _ _ _ _ he h1) hex hfin hob hpo


abbrev rG (hs : List (Nat × Hint)) : Orc := .reg hs
def runM (P : Program) (fn : Func) (args : List AV) (pre : List AObj) (k : Nat) (q : List Orc) (hs : List Hint) (res : AV) (post : List AObj) : Option (List Prop × List Prop) :=
  match exec P pre.length (bodyOf fn) q (start fn.ntmps args pre k) with
  | some r => match r.ex with
    | .exit _ => none
    | _ => if (pre.zip post).all (fun p => !p.1.owned || p.2.owned || !p.2.live) then (finA P fn.results.toList hs r.st pre.length res post).map fun o => (r.obl, o) else none
  | none => none
theorem meets_run {P : Program} {f : FuncId} {fn : Func} {args : List AV} {pre post : List AObj} {res : AV} (k : Nat) (q : List Orc) (hs : List Hint) {L ob : List Prop} (hf : P.funcs[f]? = some fn) (hb : fn.body.isSome = true)
    (hent : ∀ args w, (callFunc f args).run P w = .ok (.enter f args) w) (h1 : AllP L) (h2 : AllP ob) (he : runM P fn args pre k q hs res post = some (L, ob)) (hfy : f ≠ yF := by decide) : Meets P f args pre res post := by
  unfold runM at he
  split at he
  · rename_i r hr
    have key : r.ex = .ret ∨ r.ex = .normal → (if (pre.zip post).all (fun p => !p.1.owned || p.2.owned || !p.2.live) then (finA P fn.results.toList hs r.st pre.length res post).map (fun o => (r.obl, o)) else none) = some (L, ob) → Meets P f args pre res post := by
      intro hex he
      split at he
      case isFalse => cases he
      rename_i hpq
      rw [Option.map_eq_some_iff] at he
      obtain ⟨o, ho, e⟩ := he
      simp only [Prod.mk.injEq] at e
      obtain ⟨rfl, rfl⟩ := e
      exact meets_of_exec k q hs hfy hf hb hent hr h1 hex ho h2 hpq
    cases hex : r.ex with
    | normal => rw [hex] at he; exact key (.inr hex) he
    | ret => rw [hex] at he; exact key (.inl hex) he
    | exit i => rw [hex] at he; cases he
  · cases he

theorem Tri.weak {c : Code} {s t : AState} {ex : Ex} {s' : AState} {ob : List Prop} {K : Nat} (h : Tri P c s ex s' K) (hw : weakA s' t = some ob) (hob : AllP ob) : Tri P c s ex t K := fun ro w0 M E a w hro hR =>
  wpIn_mono (h ro w0 M E a w hro hR) fun e a' w' ⟨he, E', hle, h'⟩ => ⟨he, E', hle, h'.weak hw hob⟩
def runT (P : Program) (K : Nat) (c : Code) (q : List Orc) (s : AState) (ex : Ex) (tgt : AState → Option (List Prop)) : Option (List Prop × List Prop) :=
  match exec P K c q s with
  | some r => if exB r.ex ex then (tgt r.st).map fun o => (r.obl, o) else none
  | none => none
theorem runT_some {P : Program} {K : Nat} {c : Code} {q : List Orc} {s : AState} {ex : Ex} {tgt : AState → Option (List Prop)} {L ob : List Prop} (he : runT P K c q s ex tgt = some (L, ob)) (h1 : AllP L) : ∃ st, Tri P c s ex st K ∧ tgt st = some ob := by
  unfold runT at he
  split at he
  · rename_i r hr
    split at he
    · rename_i hx
      rw [Option.map_eq_some_iff] at he
      obtain ⟨o, ho, e⟩ := he
      simp only [Prod.mk.injEq] at e
      obtain ⟨rfl, rfl⟩ := e
      exact ⟨r.st, exB_eq hx ▸ exec_sound _ _ _ _ hr h1, ho⟩
    · cases he
  · cases he
theorem tri_weak {P : Program} {K : Nat} {c : Code} {s t : AState} {ex : Ex} (q : List Orc) {L ob : List Prop} (h1 : AllP L) (h2 : AllP ob) (he : runT P K c q s ex (fun st => weakA st t) = some (L, ob)) : Tri P c s ex t K := by
  obtain ⟨st, h, k⟩ := runT_some he h1
  exact Tri.weak h k h2

end Go.Proofs.YtdomenmfkbfakaaGreatDoor.Sx

/- Short words. -/
namespace Go.Proofs.YtdomenmfkbfakaaGreatDoor
theorem lnO {P : Prop} (h : P := by simp only [List.length_cons, List.length_nil, List.length_append, ints_length, u8s_length, List.length_replicate, List.length_set, List.length_map, digs_length] <;> omega) : P := h
end Go.Proofs.YtdomenmfkbfakaaGreatDoor


set_option linter.unusedVariables false
set_option linter.unusedSimpArgs false
set_option maxRecDepth 20000
namespace Go.Proofs.YtdomenmfkbfakaaGreatDoor.Dq
open Go Sx Dc

theorem size_meets (n : Int) (h : -9223372036854775808 < n ∧ n < 9223372036854775808) : Meets Tryz.prog 111 [jI n] [] (jI ((n.natAbs : Nat) : Int)) [] := by
  let q1 : List Orc := [rG []]
  by_cases c1 : n < 0
  · exact meets_run (fn := Tryz.f111) 0 (q1 ++ [rG [hhB 1 true], rG [hhI 1 (-n)]]) [{}] Tryz.func111 (by kernel_rfl) Tryz.call111
      (oA (oS (bT c1)) <| oW (0 - n) (-n) (by omega))
      (oS (show jI (-n) = jI ((n.natAbs : Nat) : Int) from intE (by omega))) (by kernel_rfl)
  · exact meets_run (fn := Tryz.f111) 0 (q1 ++ [rG [hhB 1 false], rG []]) [{}] Tryz.func111 (by kernel_rfl) Tryz.call111
      (oS (bF c1))
      (oS (show jI n = jI ((n.natAbs : Nat) : Int) from intE (by omega))) (by kernel_rfl)

def rightB (m e : Int) : Bool := decide (-999999999999999 ≤ m ∧ m ≤ 999999999999999 ∧ -9 ≤ e ∧ e ≤ 9 ∧ (m = 0 → e = 0) ∧ (m ≠ 0 → e = 9 ∨ m.tmod 10 ≠ 0))

def trimD : Nat → Int → Int → Int × Int
  | 0, m, e => (m, e)
  | n + 1, m, e => if m.tmod 10 = 0 then trimD n (m.tdiv 10) (e + 1) else (m, e)
/-- The one form of m times ten to e. -/
def trimmedS (m e : Int) : Int × Int := if m = 0 then (0, 0) else trimD (9 - e).toNat m e

def trimmed_inv (m e : Int) : AState :=
  ⟨([sI m, sI e, none, none, sP 0 0] ++ nn 17), [some (jC [jI 0, jI 0] 23)]⟩

theorem trimmed_round (m e : Int) (h : -9223372036854775808 < m ∧ m < 9223372036854775808) (he : -100 ≤ e ∧ e ≤ 9) (h1 : e < 9) (h2 : m.tmod 10 = 0) : Tri Tryz.prog (loopN (bodyOf Tryz.f127) 0) (trimmed_inv m e) .normal (trimmed_inv (m.tdiv 10) (e + 1)) := by
  exact tri_weak [rG [hhB 1 true, hhB 5 true], rG [hhI 1 (m.tdiv 10)], rG [hhI 1 (e + 1)]]
    (oA (oS (bT h1)) <| oA (oS (show (10 : Int) ≠ 0 from by decide)) <| oA (oS (eqT h2)) <| oA (oS (show (10 : Int) ≠ 0 from by decide)) <| oA (oS (show AV.int .i64 (IntKind.i64.wrap (m.tdiv 10)) = jI (m.tdiv 10) from tdivI (by omega))) <| oWs (e + 1) (by omega))
    (oA (oR [jI (m.tdiv 10), jI (e + 1), jP 0 0]) <| oQ [jC [jI 0, jI 0] 23]) (by kernel_rfl)

theorem trimmed_last (m e : Int) (h : -9223372036854775808 < m ∧ m < 9223372036854775808) (he : -100 ≤ e ∧ e ≤ 9) (h1 : ¬ (e < 9 ∧ m.tmod 10 = 0)) : Tri Tryz.prog (loopN (bodyOf Tryz.f127) 0) (trimmed_inv m e) (.exit 0) (trimmed_inv m e) := by
  by_cases c1 : e < 9
  · have o1 := oA (oS (bT c1)) <| oS (show (10 : Int) ≠ 0 from by decide)
    by_cases c2 : (m.tmod 10) = 0
    · exact absurd ⟨‹_›, ‹_›⟩ h1
    · exact tri_weak [rG [hhB 1 true, hhB 5 false]]
        (oA o1 <| oS (eqF c2))
        (oA (oR [jI m, jI e, jP 0 0]) <| oQ [jC [jI 0, jI 0] 23]) (by kernel_rfl)
  · exact tri_weak [rG [hhB 1 false]]
      (oS (bF c1))
      (oA (oR [jI m, jI e, jP 0 0]) <| oQ [jC [jI 0, jI 0] 23]) (by kernel_rfl)

theorem trimmed_loop : ∀ (n : Nat) (m e : Int), n = (9 - e).toNat → (-9223372036854775808 < m ∧ m < 9223372036854775808) → (-100 ≤ e ∧ e ≤ 9) →
    Tri Tryz.prog (.loop (loopN (bodyOf Tryz.f127) 0)) (trimmed_inv m e) (.exit 0) (trimmed_inv (trimD n m e).1 (trimD n m e).2) := by
  intro n m e hn hm he
  refine tri_loop (ι := {p : Int × Int // (-9223372036854775808 < p.1 ∧ p.1 < 9223372036854775808) ∧ (-100 ≤ p.2 ∧ p.2 ≤ 9) ∧ trimD (9 - p.2).toNat p.1 p.2 = trimD n m e}) (fun i => trimmed_inv i.1.1 i.1.2) (fun i => (9 - i.1.2).toNat) (ne_normal_exit 0) ?_ ⟨(m, e), hm, he, by rw [hn]⟩
  rintro ⟨⟨m', e'⟩, h1, h2, h3⟩
  simp only at h1 h2 h3
  by_cases hc : e' < 9 ∧ m'.tmod 10 = 0
  · have e1 : (9 - e').toNat = (9 - (e' + 1)).toNat + 1 := by omega
    rw [e1, trimD, if_pos hc.2] at h3
    have hb := tdiv_range (y := 10) h1
    exact .inl ⟨⟨(m'.tdiv 10, e' + 1), hb, by simp only; omega, h3⟩, by simp only; omega, trimmed_round m' e' h1 h2 hc.1 hc.2⟩
  · have e1 : trimD (9 - e').toNat m' e' = (m', e') := by
      by_cases h9 : e' = 9
      · rw [h9]; rfl
      · have : (9 - e').toNat = (9 - (e' + 1)).toNat + 1 := by omega
        rw [this, trimD, if_neg (by omega)]
    rw [e1] at h3
    have hx : trimmed_inv m' e' = trimmed_inv (trimD n m e).1 (trimD n m e).2 := by rw [← h3]
    exact .inr (Eq.subst (motive := fun s => Tri _ _ (trimmed_inv m' e') (.exit 0) s) hx (trimmed_last m' e' h1 h2 hc))

theorem trimmed_meets (m e : Int) (h : -9223372036854775808 < m ∧ m < 9223372036854775808) (he : -100 ≤ e ∧ e ≤ 9) : Meets Tryz.prog 127 [jI m, jI e] [] (jA [jI ((trimmedS m e).1), jI ((trimmedS m e).2)]) [] := by
  let q1 : List Orc := [rG [hhN 0 0]]
  by_cases c1 : m = 0
  · exact meets_run (fn := Tryz.f127) 1 (q1 ++ [rG [hhB 1 true], rG [(1, {obj := some [jC [jI 0, jI 0] 23]})]]) [{val := some (jA [jI 0, jI 0])}] Tryz.func127 (by kernel_rfl) Tryz.call127
      (oA (oS (eqT c1)) <| oSw ([jI 0, jI 0]) ([jI 0, jI 0]) 23 (rfl) (rfl))
      (oA (oLw ([jI 0, jI 0]) (rfl)) <| oA (oS (show jA [jI 0, jI 0] = jA [jI ((trimmedS m e).1), jI ((trimmedS m e).2)] from by simp [trimmedS, *])) <| oV (D := (fun n => decide (0 ≤ n))) (jA [jI ((trimmedS m e).1), jI ((trimmedS m e).2)]) rfl) (by kernel_rfl)
  · exact meets_run (fn := Tryz.f127) 1 (q1 ++ [rG [hhB 1 false], .loop (⟨([sI m, sI e, none, none, sP 0 0] ++ nn 17), [some (jC [jI 0, jI 0] 23)]⟩) (.exit 0) (⟨([sI ((trimD (9 - e).toNat m e).1), sI ((trimD (9 - e).toNat m e).2), none, none, sP 0 0] ++ nn 17), [some (jC [jI 0, jI 0] 23)]⟩), rG [hhV 2 (jA [jI ((trimD (9 - e).toNat m e).1), jI ((trimD (9 - e).toNat m e).2)]), (3, {obj := some [jC [jI ((trimD (9 - e).toNat m e).1), jI ((trimD (9 - e).toNat m e).2)] 23]})]]) [{val := some (jA [jI ((trimD (9 - e).toNat m e).1), jI ((trimD (9 - e).toNat m e).2)])}] Tryz.func127 (by kernel_rfl) Tryz.call127
      (oA (oS (eqF c1)) <| oA (oR [jI m, jI e, jP 0 0]) <| oA (oQ [jC [jI 0, jI 0] 23]) <| oA (oS (show Tri Tryz.prog (.loop (loopN (bodyOf Tryz.f127) 0)) (⟨([sI m, sI e, none, none, sP 0 0] ++ nn 17), [some (jC [jI 0, jI 0] 23)]⟩) (.exit 0) (⟨([sI ((trimD (9 - e).toNat m e).1), sI ((trimD (9 - e).toNat m e).2), none, none, sP 0 0] ++ nn 17), [some (jC [jI 0, jI 0] 23)]⟩) from trimmed_loop _ m e rfl h he)) <| oA (oS (show ([jI ((trimD (9 - e).toNat m e).1)] : List AV).length = 1 from rfl)) <| oA (oS (show 0 + 1 ≤ ([jI 0, jI 0] : List AV).length from Nat.le_of_ble_eq_true (by kernel_rfl))) <| oA (oS (show ([jI ((trimD (9 - e).toNat m e).2)] : List AV).length = 1 from rfl)) <| oA (oS (show 1 + 1 ≤ (List.take 0 [jI 0, jI 0] ++ [jI ((trimD (9 - e).toNat m e).1)] ++ List.drop 1 [jI 0, jI 0] : List AV).length from Nat.le_of_ble_eq_true (by kernel_rfl))) <| oA (oS (show AV.agg (List.take 1 (List.take 0 [jI 0, jI 0] ++ [jI ((trimD (9 - e).toNat m e).1)] ++ List.drop 1 [jI 0, jI 0]) ++ [jI ((trimD (9 - e).toNat m e).2)] ++ List.drop 2 (List.take 0 [jI 0, jI 0] ++ [jI ((trimD (9 - e).toNat m e).1)] ++ List.drop 1 [jI 0, jI 0])) = jA [jI ((trimD (9 - e).toNat m e).1), jI ((trimD (9 - e).toNat m e).2)] from by kernel_rfl)) <| oSw ([jI ((trimD (9 - e).toNat m e).1), jI ((trimD (9 - e).toNat m e).2)]) ([jI 0, jI 0]) 23 (rfl) (rfl))
      (oA (oLw ([jI ((trimD (9 - e).toNat m e).1), jI ((trimD (9 - e).toNat m e).2)]) (rfl)) <| oA (oS (show jA [jI ((trimD (9 - e).toNat m e).1), jI ((trimD (9 - e).toNat m e).2)] = jA [jI ((trimmedS m e).1), jI ((trimmedS m e).2)] from by simp [trimmedS, *])) <| oV (D := (fun n => decide (0 ≤ n))) (jA [jI ((trimmedS m e).1), jI ((trimmedS m e).2)]) rfl) (by kernel_rfl)

end Go.Proofs.YtdomenmfkbfakaaGreatDoor.Dq


set_option linter.unusedVariables false
set_option linter.unusedSimpArgs false
set_option maxRecDepth 20000
namespace Go.Proofs.YtdomenmfkbfakaaGreatDoor.Dq
open Go Sx Dc


theorem Dig.u8 {l : List Int} (h : Dig l) : ∀ x ∈ l, 0 ≤ x ∧ x < 256 := fun x hx => by have := h x hx; omega

def lay_inv (m e r : Int) (p : Nat) (ds : List Int) : AState :=
  ⟨([none, none, sP 1 0, sP 2 0, sI r, sI (87 - (p : Int))] ++ nn 23), [some (jC [jI m, jI e] 23), some (jC ((jB false) :: (ints .u8 (List.replicate 88 0))) 96), some (jC ((jB (decide (m < 0))) :: (ints .u8 ds)) 96)]⟩

theorem lay_round (m e r : Int) (p : Nat) (ds : List Int) (hlen : ds.length = 88) (h1 : 0 < r) (h2 : r < 9223372036854775808) (h3 : p < 88) : Tri Tryz.prog (loopN (bodyOf Tryz.f78) 0) (lay_inv m e r p ds) .normal (lay_inv m e (r / 10) (p + 1) (ds.set (87 - (p : Int)).toNat (r % 10))) := by
  exact tri_weak [rG [hhB 1 true], rG [hhI 2 (r % 10), hhV 3 (jU (r % 10)), hhV 5 (jP 2 (((87 - (p : Int))).toNat + 1)), (6, {obj := some [jC ((jB (decide (m < 0))) :: (ints .u8 (ds.set (((87 - (p : Int))).toNat) (r % 10)))) 96]})], rG [hhI 1 (r / 10)], rG [hhI 1 ((87 - (p : Int)) - 1)]]
    (oA (oS (bT h1)) <| oA (oS (show (10 : Int) ≠ 0 from by decide)) <| oA (oS (show AV.int .i64 (r.tmod 10) = jI (r % 10) from remI (by omega))) <| oA (oS (show AV.int .u8 (IntKind.u8.wrap (r % 10)) = jU (r % 10) from w_u8 (by omega))) <| oA (oS (show 0 ≤ (87 - (p : Int)) from by omega)) <| oA (oS (show (87 - (p : Int)) < ((88 : Nat) : Int) from by omega)) <| oA (oS (show AV.ptr 2 (1 + Int.toNat (87 - (p : Int)) * 1) = jP 2 (((87 - (p : Int))).toNat + 1) from ptrE (by omega))) <| oA (oS (show ([jU (r % 10)] : List AV).length = 1 from rfl)) <| oA (oS (show (((87 - (p : Int))).toNat + 1) + 1 ≤ List.length ((jB (decide (m < 0))) :: (ints .u8 ds)) from lnO)) <| oA (oS (show AObj.cells (List.take (((87 - (p : Int))).toNat + 1) ((jB (decide (m < 0))) :: (ints .u8 ds)) ++ [jU (r % 10)] ++ List.drop ((((87 - (p : Int))).toNat + 1) + 1) ((jB (decide (m < 0))) :: (ints .u8 ds))) 96 = jC ((jB (decide (m < 0))) :: (ints .u8 (ds.set (((87 - (p : Int))).toNat) (r % 10)))) 96 from store_ints [jB (decide (m < 0))] (by omega))) <| oA (oS (show (10 : Int) ≠ 0 from by decide)) <| oA (oS (show AV.int .i64 (IntKind.i64.wrap (r.tdiv 10)) = jI (r / 10) from quoI (by omega))) <| oWs ((87 - (p : Int)) - 1) (by omega))
    (oA (oR [jP 1 0, jP 2 0, jI (r / 10)]) <| oA (oS (show jI ((87 - (p : Int)) - 1) = jI (87 - ((p + 1 : Nat) : Int)) from intE (by omega))) <| oQ [jC [jI m, jI e] 23, jC ((jB false) :: (ints .u8 (List.replicate 88 0))) 96, jC ((jB (decide (m < 0))) :: (ints .u8 (ds.set (((87 - (p : Int))).toNat) (r % 10)))) 96]) (by kernel_rfl)

def lay_out (m e : Int) (ds : List Int) : AState :=
  ⟨([none, none, sP 1 0, sP 2 0] ++ nn 25), [some (jC [jI m, jI e] 23), some (jC ((jB false) :: (ints .u8 (List.replicate 88 0))) 96), some (jC ((jB (decide (m < 0))) :: (ints .u8 ds)) 96)]⟩

theorem lay_last (m e r : Int) (p : Nat) (ds : List Int) (hlen : ds.length = 88) (h1 : ¬ 0 < r) : Tri Tryz.prog (loopN (bodyOf Tryz.f78) 0) (lay_inv m e r p ds) (.exit 0) (lay_out m e ds) := by
  exact tri_weak [rG [hhB 1 false]]
    (oS (bF h1))
    (oA (oR [jP 1 0, jP 2 0]) <| oQ [jC [jI m, jI e] 23, jC ((jB false) :: (ints .u8 (List.replicate 88 0))) 96, jC ((jB (decide (m < 0))) :: (ints .u8 ds)) 96]) (by kernel_rfl)

theorem lay_loop (m e N : Int) (r0 : Int) (p0 : Nat) (hr0 : 0 ≤ r0 ∧ r0 < 9223372036854775808) (hp0 : p0 ≤ 88) (hN : r0 * 10 ^ p0 = N) (hb : N < 10 ^ 80) :
    Tri Tryz.prog (.loop (loopN (bodyOf Tryz.f78) 0)) (lay_inv m e r0 p0 (digs 88 0)) (.exit 0) (lay_out m e (digs 88 N)) := by
  refine tri_loop (ι := {q : Int × Nat × Int // 0 ≤ q.1 ∧ q.1 < 9223372036854775808 ∧ 0 ≤ q.2.2 ∧ q.2.2 < 10 ^ q.2.1 ∧ q.1 * 10 ^ q.2.1 + q.2.2 = N}) (fun i => lay_inv m e i.1.1 i.1.2.1 (digs 88 i.1.2.2)) (fun i => i.1.1.toNat) (ne_normal_exit 0) ?_ ⟨(r0, p0, 0), hr0.1, hr0.2, Int.le_refl 0, pow_pos' p0, by simp only; omega⟩
  rintro ⟨⟨r, p, v⟩, h1, h2, h3, h4, h5⟩
  simp only at h1 h2 h3 h4 h5
  by_cases hr : 0 < r
  · have hp : p < 88 := by
      rcases Nat.lt_or_ge p 88 with h | h
      · exact h
      · exfalso
        have a1 : (10 : Int) ^ 88 ≤ 10 ^ p := pow_mono h
        have a2 : 1 * (10 : Int) ^ p ≤ r * 10 ^ p := Int.mul_le_mul_of_nonneg_right (by omega) (by have := pow_pos' p; omega)
        have a3 : (10 : Int) ^ 80 ≤ 10 ^ 88 := by decide
        omega
    have e1 : digs 88 (r % 10 * 10 ^ p + v) = (digs 88 v).set (87 - (p : Int)).toNat (r % 10) := by
      rw [show (87 - (p : Int)).toNat = 88 - 1 - p by omega, digs_set hp h3 h4 (by omega)]
    refine .inl ⟨⟨(r / 10, p + 1, r % 10 * 10 ^ p + v), by simp only; omega, by simp only; omega, ?_, ?_, ?_⟩, by simp only; omega, by simp only [e1]; exact lay_round m e r p _ (digs_length _ _) hr h2 hp⟩
    · simp only
      have : 0 ≤ r % 10 * 10 ^ p := Int.mul_nonneg (by omega) (by have := pow_pos' p; omega)
      omega
    · simp only
      have : r % 10 * 10 ^ p ≤ 9 * 10 ^ p := Int.mul_le_mul_of_nonneg_right (by omega) (by have := pow_pos' p; omega)
      rw [Int.pow_succ]; omega
    · simp only
      rw [Int.pow_succ, ← h5, ← Int.add_assoc]
      congr 1
      rw [Int.mul_comm (10 ^ p) 10, ← Int.mul_assoc, ← Int.add_mul]
      congr 1; omega
  · have hr0 : r = 0 := by omega
    subst hr0
    have hv : v = N := by simpa using h5
    subst hv
    exact .inr (lay_last m e 0 p _ (digs_length _ _) (by omega))

theorem lay_meets (m e : Int) (ds : List Int) (hm : -1000000000000000 < m ∧ m < 1000000000000000) (he : -18 ≤ e ∧ e ≤ 18) (hds : digs 88 ((m.natAbs : Int) * 10 ^ (e + 40).toNat) = ds) : Meets Tryz.prog 78 [jA [jI m, jI e]] [] (jA ((jB (decide (m < 0))) :: (ints .u8 ds))) [] := by
  have hb : (m.natAbs : Int) * 10 ^ (e + 40).toNat < 10 ^ 80 := by
    have a1 : (10 : Int) ^ (e + 40).toNat ≤ 10 ^ 58 := pow_mono (by omega)
    have a2 : (m.natAbs : Int) * 10 ^ (e + 40).toNat ≤ 10 ^ 15 * 10 ^ 58 := Int.mul_le_mul (by omega) a1 (by have := pow_pos' (e + 40).toNat; omega) (by decide)
    have a3 : (10 : Int) ^ 15 * 10 ^ 58 < 10 ^ 80 := by decide
    omega
  have hlen : ds.length = 88 := by rw [← hds, digs_length]
  have hl := lay_loop m e _ (m.natAbs : Int) (e + 40).toNat ⟨by omega, by omega⟩ (by omega) rfl hb
  rw [hds, ← zeros_digs] at hl
  exact meets_run (fn := Tryz.f78) 3 [rG [hhN 0 0, (1, {nm := [1], obj := some [jC ((jB false) :: (ints .u8 (List.replicate 88 0))) 96]})], rG [hhI 1 m, hhV 3 (jA ((jB (decide (m < 0))) :: (ints .u8 (List.replicate 88 0)))), (4, {nm := [2], obj := some [jC ((jB false) :: (ints .u8 (List.replicate 88 0))) 96]}), (5, {obj := some [jC ((jB (decide (m < 0))) :: (ints .u8 (List.replicate 88 0))) 96]})], rG [hhI 1 m, hhM 2 (size_meets m (by omega))], rG [hhI 1 e, hhI 2 (47 - e)], .loop (⟨([none, none, sP 1 0, sP 2 0, sI ((m.natAbs : Nat) : Int), sI (87 - (((e + 40).toNat : Nat) : Int))] ++ nn 23), [some (jC [jI m, jI e] 23), some (jC ((jB false) :: (ints .u8 (List.replicate 88 0))) 96), some (jC ((jB (decide (m < 0))) :: (ints .u8 (List.replicate 88 0))) 96)]⟩) (.exit 0) (⟨([none, none, sP 1 0, sP 2 0] ++ nn 25), [some (jC [jI m, jI e] 23), some (jC ((jB false) :: (ints .u8 (List.replicate 88 0))) 96), some (jC ((jB (decide (m < 0))) :: (ints .u8 ds)) 96)]⟩), rG [hhV 0 (jA ((jB (decide (m < 0))) :: (ints .u8 ds))), (1, {obj := some [jC ((jB (decide (m < 0))) :: (ints .u8 ds)) 96]})]] [{val := some (jA ((jB (decide (m < 0))) :: (ints .u8 ds)))}] Tryz.func78 (by kernel_rfl) Tryz.call78
    (oA (oS (show AObj.cells (zeroCellsA Tryz.prog 96) 96 = jC ((jB false) :: (ints .u8 (List.replicate 88 0))) 96 from by kernel_rfl)) <| oA (oLf ([jI m, jI e]) (0) (jI m) (rfl)) <| oA (oS (show ([jB (decide (m < 0))] : List AV).length = 1 from rfl)) <| oA (oS (show 0 + 1 ≤ ((zeroCellsA Tryz.prog 96) : List AV).length from Nat.le_of_ble_eq_true (by kernel_rfl))) <| oA (oS (show AV.agg (List.take 0 (zeroCellsA Tryz.prog 96) ++ [jB (decide (m < 0))] ++ List.drop 1 (zeroCellsA Tryz.prog 96)) = jA ((jB (decide (m < 0))) :: (ints .u8 (List.replicate 88 0))) from by kernel_rfl)) <| oA (oS (show AObj.cells (zeroCellsA Tryz.prog 96) 96 = jC ((jB false) :: (ints .u8 (List.replicate 88 0))) 96 from by kernel_rfl)) <| oA (oSw (n := 89) ((jB (decide (m < 0))) :: (ints .u8 (List.replicate 88 0))) ((jB false) :: (ints .u8 (List.replicate 88 0))) 96 lnO lnO) <| oA (oLf ([jI m, jI e]) (0) (jI m) (rfl)) <| oA (oC (size_meets m (by omega)) rfl) <| oA (oLf ([jI m, jI e]) (1) (jI e) (rfl)) <| oA (oWs (47 - e) (by omega)) <| oA (oR [jP 1 0, jP 2 0, jI ((m.natAbs : Nat) : Int)]) <| oA (oS (show jI (47 - e) = jI (87 - (((e + 40).toNat : Nat) : Int)) from intE (by omega))) <| oA (oQ [jC [jI m, jI e] 23, jC ((jB false) :: (ints .u8 (List.replicate 88 0))) 96, jC ((jB (decide (m < 0))) :: (ints .u8 (List.replicate 88 0))) 96]) <| oA (oS (show Tri Tryz.prog (.loop (loopN (bodyOf Tryz.f78) 0)) (⟨([none, none, sP 1 0, sP 2 0, sI ((m.natAbs : Nat) : Int), sI (87 - (((e + 40).toNat : Nat) : Int))] ++ nn 23), [some (jC [jI m, jI e] 23), some (jC ((jB false) :: (ints .u8 (List.replicate 88 0))) 96), some (jC ((jB (decide (m < 0))) :: (ints .u8 (List.replicate 88 0))) 96)]⟩) (.exit 0) (⟨([none, none, sP 1 0, sP 2 0] ++ nn 25), [some (jC [jI m, jI e] 23), some (jC ((jB false) :: (ints .u8 (List.replicate 88 0))) 96), some (jC ((jB (decide (m < 0))) :: (ints .u8 ds)) 96)]⟩) from hl)) <| oA (oLw (n := 89) ((jB (decide (m < 0))) :: (ints .u8 ds)) lnO) <| oSw (n := 89) ((jB (decide (m < 0))) :: (ints .u8 ds)) ((jB false) :: (ints .u8 (List.replicate 88 0))) 96 lnO lnO)
    (oA (oLw (n := 89) ((jB (decide (m < 0))) :: (ints .u8 ds)) lnO) <| oA (oS (@rfl _ (jA ((jB (decide (m < 0))) :: (ints .u8 ds))))) <| oS (show Avoid (fun n => decide (0 ≤ n)) (jA ((jB (decide (m < 0))) :: (ints .u8 ds))) from Avoid.agg (AvoidL.cons (Avoid.bool _ _) (AvoidL.ints _ _ _)))) (by kernel_rfl)


end Go.Proofs.YtdomenmfkbfakaaGreatDoor.Dq


set_option linter.unusedVariables false
set_option linter.unusedSimpArgs false
set_option maxRecDepth 20000
namespace Go.Proofs.YtdomenmfkbfakaaGreatDoor.Dq
open Go Sx Dc

/-- The greatest of the first n numbers (of the first one, if n is 0). -/
def maxU (l : List Int) : Nat → Int
  | 0 => l.getD 0 0
  | n + 1 => max (maxU l n) (l.getD n 0)
theorem maxU_zero {l : List Int} (h : ∀ x ∈ l, 0 ≤ x) : ∀ n, n ≤ l.length → 0 < l.length → 0 ≤ maxU l n ∧ (maxU l n = 0 → ∀ i, i < n → l.getD i 0 = 0) ∧ ((∀ i, i < l.length → l.getD i 0 = 0) → maxU l n = 0)
  | 0, _, h0 => by
    have e : l.getD 0 0 = l[0] := by simp [List.getD, h0]
    exact ⟨by rw [maxU, e]; exact h _ (List.getElem_mem h0), fun _ i hi => by omega, fun a => a 0 h0⟩
  | n + 1, hn, h0 => by
    obtain ⟨h1, h2, h3⟩ := maxU_zero h n (by omega) h0
    have e : l.getD n 0 = l[n] := by simp [List.getD, (by omega : n < l.length)]
    have hp : 0 ≤ l.getD n 0 := by rw [e]; exact h _ (List.getElem_mem (by omega))
    refine ⟨by rw [maxU]; omega, fun g i hi => ?_, fun a => ?_⟩
    · rw [maxU] at g
      by_cases hi' : i = n
      · subst hi'; omega
      · exact h2 (by omega) i (by omega)
    · rw [maxU, h3 a, a n (by omega)]; rfl
theorem maxU_val {l : List Int} (h : Dig l) (h0 : 0 < l.length) : maxU l l.length = 0 ↔ val l = 0 := by
  obtain ⟨_, h2, h3⟩ := maxU_zero (fun x hx => (h x hx).1) l.length (Nat.le_refl _) h0
  rw [val_zero_iff h]
  constructor
  · intro g d hd
    obtain ⟨i, hi, rfl⟩ := List.getElem_of_mem hd
    have := h2 g i hi
    simpa [List.getD, hi] using this
  · intro g
    refine h3 fun i hi => ?_
    have := g l[i] (List.getElem_mem hi)
    simpa [List.getD, hi] using this

theorem max_round (l : List Int) (o c n : Nat) (h : n < l.length) (hl : l.length < 9223372036854775808) : Tri Tryz.prog (loopN (bodyOf Tryz.f147) 0) (⟨([some (AV.slice 0 o l.length c), none, none, some (jU (maxU l n)), sI ((n : Nat) : Int)] ++ nn 20), [some (AObj.ro o (ints .u8 l))]⟩) .normal (⟨([some (AV.slice 0 o l.length c), none, none, some (jU (maxU l (n + 1))), sI ((n + 1 : Nat) : Int)] ++ nn 20), [some (AObj.ro o (ints .u8 l))]⟩) 1 := by
  exact tri_weak [rG [hhB 3 true], rG [hhV 3 (jP 0 (o + n)), hhV 4 (jU (l.getD n 0)), hhV 5 (jU (max (maxU l n) (l.getD n 0)))], rG [hhI 1 ((n + 1 : Nat) : Int)]]
    (oA (oS (show AV.bool (decide (((n : Nat) : Int) < ((l.length : Nat) : Int))) = jB true from bT (by omega))) <| oA (oS (show 0 ≤ ((n : Nat) : Int) from by omega)) <| oA (oS (show ((n : Nat) : Int) < ((l.length : Nat) : Int) from by omega)) <| oA (oS (show AV.ptr 0 (o + Int.toNat ((n : Nat) : Int) * 1) = jP 0 (o + n) from ptrE (by omega))) <| oA (oS (show o ≤ (o + n) from by omega)) <| oA (oS (show (ints .u8 l : List AV)[(o + n) - o]? = some (jU (l.getD n 0)) from ints_at [] (by simp only [List.length_nil, List.length_cons] <;> omega) (by omega))) <| oA (oS (show AV.int .u8 (if (l.getD n 0) > maxU l n then (l.getD n 0) else maxU l n) = jU (max (maxU l n) (l.getD n 0)) from maxI)) <| oW (((n : Nat) : Int) + 1) ((n + 1 : Nat) : Int) (by omega))
    (oA (oR [AV.slice 0 o l.length c]) <| oA (oS (show jU (max (maxU l n) (l.getD n 0)) = jU (maxU l (n + 1)) from by rw [maxU])) <| oA (oR [jI ((n + 1 : Nat) : Int)]) <| oQ [AObj.ro o (ints .u8 l)]) (by kernel_rfl)

def max_inv (l : List Int) (o c n : Nat) : AState :=
  ⟨([some (AV.slice 0 o l.length c), none, none, some (jU (maxU l n)), sI ((n : Nat) : Int)] ++ nn 20), [some (AObj.ro o (ints .u8 l))]⟩

def max_out (l : List Int) (o c : Nat) : AState :=
  ⟨([none, none, none, some (jU (maxU l l.length))] ++ nn 21), [some (AObj.ro o (ints .u8 l))]⟩

theorem max_last (l : List Int) (o c : Nat) (hl : l.length < 9223372036854775808) : Tri Tryz.prog (loopN (bodyOf Tryz.f147) 0) (⟨([some (AV.slice 0 o l.length c), none, none, some (jU (maxU l l.length)), sI ((l.length : Nat) : Int)] ++ nn 20), [some (AObj.ro o (ints .u8 l))]⟩) (.exit 0) (⟨([none, none, none, some (jU (maxU l l.length))] ++ nn 21), [some (AObj.ro o (ints .u8 l))]⟩) 1 := by
  exact tri_weak [rG [hhB 3 false]]
    (oS (show AV.bool (decide (((l.length : Nat) : Int) < ((l.length : Nat) : Int))) = jB false from bF (by omega)))
    (oA (oR [jU (maxU l l.length)]) <| oQ [AObj.ro o (ints .u8 l)]) (by kernel_rfl)

theorem max_loop (l : List Int) (o c : Nat) (h0 : 1 ≤ l.length) (hl : l.length < 9223372036854775808) : Tri Tryz.prog (.loop (loopN (bodyOf Tryz.f147) 0)) (max_inv l o c 1) (.exit 0) (max_out l o c) 1 :=
  tri_up (max_inv l o c) (ne_normal_exit 0) l.length (fun k hk => max_round l o c k hk hl) (max_last l o c hl) 1 h0

theorem max_meets (l : List Int) (o c : Nat) (h0 : 1 ≤ l.length) (hl : l.length < 9223372036854775808) : Meets Tryz.prog 147 [AV.slice 0 o l.length c] [AObj.ro o (ints .u8 l)] (jU (maxU l l.length)) [AObj.ro o (ints .u8 l)] := by
  exact meets_run (fn := Tryz.f147) 0 [rG [], rG [hhB 2 false], rG [hhV 1 (jP 0 o), hhV 2 (jU (l.getD 0 0))], rG [], .loop (⟨([some (AV.slice 0 o l.length c), none, none, some (jU (maxU l 1)), sI ((1 : Nat) : Int)] ++ nn 20), [some (AObj.ro o (ints .u8 l))]⟩) (.exit 0) (⟨([none, none, none, some (jU (maxU l l.length))] ++ nn 21), [some (AObj.ro o (ints .u8 l))]⟩), rG []] [{}] Tryz.func147 (by kernel_rfl) Tryz.call147
    (oA (oS (show AV.bool (decide (((l.length : Nat) : Int) < 1)) = jB false from bF (by omega))) <| oA (oS (show 0 ≤ (0 : Int) from by decide)) <| oA (oS (show (0 : Int) < ((l.length : Nat) : Int) from by omega)) <| oA (oS (show AV.ptr 0 (o + Int.toNat (0 : Int) * 1) = jP 0 o from ptrE (by omega))) <| oA (oS (show o ≤ o from by omega)) <| oA (oS (show (ints .u8 l : List AV)[o - o]? = some (jU (l.getD 0 0)) from ints_at [] (by simp only [List.length_nil, List.length_cons] <;> omega) (by omega))) <| oA (oR [AV.slice 0 o l.length c]) <| oA (oS (show jU (l.getD 0 0) = jU (maxU l 1) from intE (by simp only [maxU]; omega))) <| oA (oR [jI 1]) <| oA (oQ [AObj.ro o (ints .u8 l)]) <| oS (show Tri Tryz.prog (.loop (loopN (bodyOf Tryz.f147) 0)) (⟨([some (AV.slice 0 o l.length c), none, none, some (jU (maxU l 1)), sI ((1 : Nat) : Int)] ++ nn 20), [some (AObj.ro o (ints .u8 l))]⟩) (.exit 0) (⟨([none, none, none, some (jU (maxU l l.length))] ++ nn 21), [some (AObj.ro o (ints .u8 l))]⟩) 1 from max_loop l o c h0 hl))
    (oA (oS (@rfl _ (jU (maxU l l.length)))) <| oA (oS (show AObj.ro o (ints .u8 l) = AObj.ro o (ints .u8 l) from rfl)) <| oS (show AvoidO (fun n => decide (1 ≤ n)) (AObj.ro o (ints .u8 l)) from AvoidO.ro (AvoidL.ints _ _ _))) (by kernel_rfl)

theorem none_meets (l : List Int) (o c : Nat) (h0 : 1 ≤ l.length) (hl : l.length < 9223372036854775808) (hd : Dig l) : Meets Tryz.prog 132 [AV.slice 0 o l.length c] [AObj.ro o (ints .u8 l)] (jB (decide (val l = 0))) [AObj.ro o (ints .u8 l)] := by
  exact meets_run (fn := Tryz.f132) 0 [rG [], rG [(1, {call := some ⟨[0], [AV.slice 0 o l.length c], [AObj.ro o (ints .u8 l)], jU (maxU l l.length), [AObj.ro o (ints .u8 l)]⟩, obj := some [AObj.ro o (ints .u8 l)]})]] [{}] Tryz.func132 (by kernel_rfl) Tryz.call132
    (oA (oS (show [AV.slice 0 o l.length c] = renL [0] [AV.slice 0 o l.length c] from rfl)) <| oA (oS (show Meets Tryz.prog 147 [AV.slice 0 o l.length c] [AObj.ro o (ints .u8 l)] (jU (maxU l l.length)) [AObj.ro o (ints .u8 l)] from max_meets l o c h0 hl)) <| oA (oS (show Fits (AObj.ro o (ints .u8 l)) (AObj.ren [0] (AObj.ro o (ints .u8 l))) from Fits.of_eq (by simp only [AObj.ren, renL, AV.ren, renL_ints, renL_u8s, renL_append]))) <| oS (show updOf [0] [AObj.ro o (ints .u8 l)] [AObj.ro o (ints .u8 l)] [AObj.ro o (ints .u8 l)] ++ List.map (fun x => x.ren [0]) (List.drop 1 [AObj.ro o (ints .u8 l)]) = [AObj.ro o (ints .u8 l)] from rfl))
    (oA (oS (show jB ((maxU l l.length) == 0) = jB (decide (val l = 0)) from boolE (by rw [Bool.eq_iff_iff]; simp [maxU_val hd h0]))) <| oA (oS (show AObj.ro o (ints .u8 l) = AObj.ro o (ints .u8 l) from rfl)) <| oS (show AvoidO (fun n => decide (1 ≤ n)) (AObj.ro o (ints .u8 l)) from AvoidO.ro (AvoidL.ints _ _ _))) (by kernel_rfl)

end Go.Proofs.YtdomenmfkbfakaaGreatDoor.Dq


set_option linter.unusedVariables false
set_option linter.unusedSimpArgs false
set_option maxRecDepth 20000
namespace Go.Proofs.YtdomenmfkbfakaaGreatDoor.Dq
open Go Sx Dc

def capN (n : Int) : Int := if n ≤ 999999999999999 then n else 0
def capB (n : Int) : Bool := decide (n ≤ 999999999999999)
theorem cap_pos {r : List Nat} {n : Int} (h : n ≤ 999999999999999) : AV.ren r (AV.tuple [.int .i64 (capN n), .bool (capB n)]) = AV.tuple [.int .i64 n, .bool true] := by simp [AV.ren, renL, capN, capB, h]
theorem cap_neg {r : List Nat} {n : Int} (h : ¬ n ≤ 999999999999999) : AV.ren r (AV.tuple [.int .i64 (capN n), .bool (capB n)]) = AV.tuple [.int .i64 0, .bool false] := by simp [AV.ren, renL, capN, capB, h]
theorem capE_pos {n : Int} (h : n ≤ 999999999999999) : AV.tuple [.int .i64 n, .bool true] = AV.tuple [.int .i64 (capN n), .bool (capB n)] := by simp [capN, capB, h]
theorem capE_neg {n : Int} (h : ¬ n ≤ 999999999999999) : AV.tuple [.int .i64 0, .bool false] = AV.tuple [.int .i64 (capN n), .bool (capB n)] := by simp [capN, capB, h]
theorem val_take_succ {l : List Int} {k : Nat} (h : k < l.length) : val (l.take (k + 1)) = val (l.take k) * 10 + l.getD k 0 := by
  rw [List.take_succ_eq_append_getElem h, val_snoc]; simp [List.getD, h]
theorem val_take_mono {l : List Int} (hd : Dig l) : ∀ {k n : Nat}, k ≤ n → n ≤ l.length → val (l.take k) ≤ val (l.take n)
  | k, 0, h, _ => by rw [show k = 0 by omega]; exact Int.le_refl _
  | k, n + 1, h, hn => by
    by_cases e : k = n + 1
    · rw [e]; exact Int.le_refl _
    · have h1 := val_take_mono hd (k := k) (n := n) (by omega) (by omega)
      rw [val_take_succ (by omega)]
      have := hd.getD n
      have := (val_bounds _ (hd.take n)).1
      omega

def whole_inv (mx : Bool) (ds : List Int) (e : Int) (w : Nat) (n : Int) (k : Nat) : AState :=
  ⟨([sP 0 0, sI e, none, none, none, none, sI n, none, none, none, none, none, none, none, some (AV.slice 0 1 w 88), sI ((w : Nat) : Int), sI ((k : Nat) : Int)] ++ nn 12), [some (jC ((jB mx) :: (ints .u8 ds)) 96)]⟩

theorem whole_round (mx : Bool) (ds : List Int) (e : Int) (w : Nat) (n : Int) (k : Nat) (hl : ds.length = 88) (hw : w ≤ 88) (hk : k < w) (hn : 0 ≤ n ∧ n ≤ 999999999999999) (hd : 0 ≤ ds.getD k 0 ∧ ds.getD k 0 ≤ 9) (h : ¬ (n * 10 + ds.getD k 0) > 999999999999999) : Tri Tryz.prog (loopN (bodyOf Tryz.f142) 0) (whole_inv mx ds e w n k) .normal (whole_inv mx ds e w (n * 10 + ds.getD k 0) (k + 1)) 1 := by
  exact tri_weak [rG [hhB 0 true], rG [hhV 0 (jP 0 (k + 1)), hhV 1 (jU (ds.getD k 0))], rG [hhI 1 (n * 10), hhI 3 (ds.getD k 0), hhI 4 ((n * 10) + (ds.getD k 0))], rG [hhB 1 false], rG [hhI 0 ((k + 1 : Nat) : Int)]]
    (oA (oS (show AV.bool (decide (((k : Nat) : Int) < ((w : Nat) : Int))) = jB true from bT (by omega))) <| oA (oS (show 0 ≤ ((k : Nat) : Int) from by omega)) <| oA (oS (show ((k : Nat) : Int) < ((w : Nat) : Int) from by omega)) <| oA (oS (show AV.ptr 0 (1 + Int.toNat ((k : Nat) : Int) * 1) = jP 0 (k + 1) from ptrE (by omega))) <| oA (oLf ((jB mx) :: (ints .u8 ds)) ((k + 1)) (jU (ds.getD k 0)) (ints_get' (by omega))) <| oA (oWs (n * 10) (by omega)) <| oA (oWs (ds.getD k 0) (by omega)) <| oA (oWs ((n * 10) + (ds.getD k 0)) (by omega)) <| oA (oS (bF h)) <| oW (((k : Nat) : Int) + 1) ((k + 1 : Nat) : Int) (by omega))
    (oA (oR [jP 0 0, jI e, jI ((n * 10) + (ds.getD k 0)), AV.slice 0 1 w 88, jI ((w : Nat) : Int), jI ((k + 1 : Nat) : Int)]) <| oQ [jC ((jB mx) :: (ints .u8 ds)) 96]) (by kernel_rfl)

def whole_ret (mx : Bool) (ds : List Int) : AState :=
  ⟨([none, none, none, none, sI 0, sB false] ++ nn 23), [some (jC ((jB mx) :: (ints .u8 ds)) 96)]⟩

theorem whole_over (mx : Bool) (ds : List Int) (e : Int) (w : Nat) (n : Int) (k : Nat) (hl : ds.length = 88) (hw : w ≤ 88) (hk : k < w) (hn : 0 ≤ n ∧ n ≤ 999999999999999) (hd : 0 ≤ ds.getD k 0 ∧ ds.getD k 0 ≤ 9) (h : (n * 10 + ds.getD k 0) > 999999999999999) : Tri Tryz.prog (loopN (bodyOf Tryz.f142) 0) (whole_inv mx ds e w n k) .ret (whole_ret mx ds) 1 := by
  exact tri_weak [rG [hhB 0 true], rG [hhV 0 (jP 0 (k + 1)), hhV 1 (jU (ds.getD k 0))], rG [hhI 1 (n * 10), hhI 3 (ds.getD k 0), hhI 4 ((n * 10) + (ds.getD k 0))], rG [hhB 1 true], rG []]
    (oA (oS (show AV.bool (decide (((k : Nat) : Int) < ((w : Nat) : Int))) = jB true from bT (by omega))) <| oA (oS (show 0 ≤ ((k : Nat) : Int) from by omega)) <| oA (oS (show ((k : Nat) : Int) < ((w : Nat) : Int) from by omega)) <| oA (oS (show AV.ptr 0 (1 + Int.toNat ((k : Nat) : Int) * 1) = jP 0 (k + 1) from ptrE (by omega))) <| oA (oLf ((jB mx) :: (ints .u8 ds)) ((k + 1)) (jU (ds.getD k 0)) (ints_get' (by omega))) <| oA (oWs (n * 10) (by omega)) <| oA (oWs (ds.getD k 0) (by omega)) <| oA (oWs ((n * 10) + (ds.getD k 0)) (by omega)) <| oS (bT h))
    (oA (oR [jI 0, jB false]) <| oQ [jC ((jB mx) :: (ints .u8 ds)) 96]) (by kernel_rfl)

def whole_out (mx : Bool) (ds : List Int) (n : Int) : AState :=
  ⟨([none, none, none, none, none, none, sI n] ++ nn 22), [some (jC ((jB mx) :: (ints .u8 ds)) 96)]⟩

theorem whole_last (mx : Bool) (ds : List Int) (e : Int) (w : Nat) (n : Int) : Tri Tryz.prog (loopN (bodyOf Tryz.f142) 0) (whole_inv mx ds e w n w) (.exit 0) (whole_out mx ds n) 1 := by
  exact tri_weak [rG [hhB 0 false]]
    (oS (show AV.bool (decide (((w : Nat) : Int) < ((w : Nat) : Int))) = jB false from bF (by omega)))
    (oA (oR [jI n]) <| oQ [jC ((jB mx) :: (ints .u8 ds)) 96]) (by kernel_rfl)

theorem whole_loop_ok (mx : Bool) (ds : List Int) (e : Int) (w : Nat) (hl : ds.length = 88) (hw : w ≤ 88) (hd : Dig ds) (hN : val (ds.take w) ≤ 999999999999999) :
    Tri Tryz.prog (.loop (loopN (bodyOf Tryz.f142) 0)) (whole_inv mx ds e w 0 0) (.exit 0) (whole_out mx ds (val (ds.take w))) 1 := by
  have h := tri_up (P := Tryz.prog) (body := loopN (bodyOf Tryz.f142) 0) (ex := .exit 0) (out := whole_out mx ds (val (ds.take w))) (K := 1) (fun k => whole_inv mx ds e w (val (ds.take k)) k) (ne_normal_exit 0) w
    (fun k hk => by
      have h1 := val_take_mono hd (k := k + 1) (n := w) (by omega) (by omega)
      have h2 := val_take_mono hd (k := k) (n := w) (by omega) (by omega)
      have h3 := (val_bounds _ (hd.take k)).1
      rw [val_take_succ (by omega)] at h1
      have hr := whole_round mx ds e w (val (ds.take k)) k hl hw hk (by omega) (hd.getD k) (by omega)
      rw [← val_take_succ (by omega)] at hr
      exact hr) (whole_last mx ds e w _) 0 (Nat.zero_le _)
  simp only [List.take_zero, val_nil] at h
  exact h
theorem whole_loop_over (mx : Bool) (ds : List Int) (e : Int) (w : Nat) (hl : ds.length = 88) (hw : w ≤ 88) (hd : Dig ds) (hN : ¬ val (ds.take w) ≤ 999999999999999) :
    Tri Tryz.prog (.loop (loopN (bodyOf Tryz.f142) 0)) (whole_inv mx ds e w 0 0) .ret (whole_ret mx ds) 1 := by
  have h := tri_loop (P := Tryz.prog) (body := loopN (bodyOf Tryz.f142) 0) (ex := .ret) (out := whole_ret mx ds) (K := 1) (ι := {k : Nat // k ≤ w ∧ val (ds.take k) ≤ 999999999999999}) (fun i => whole_inv mx ds e w (val (ds.take i.1)) i.1) (fun i => w - i.1) ne_normal_ret
    (fun ⟨k, hk, hv⟩ => by
      have h0 : k < w := by
        rcases Nat.lt_or_ge k w with h | h
        · exact h
        · rw [show k = w by omega] at hv; exact absurd hv hN
      have h3 := (val_bounds _ (hd.take k)).1
      have hs := val_take_succ (l := ds) (k := k) (by omega)
      by_cases hc : val (ds.take (k + 1)) ≤ 999999999999999
      · refine .inl ⟨⟨k + 1, by omega, hc⟩, by simp only; omega, ?_⟩
        have hr := whole_round mx ds e w (val (ds.take k)) k hl hw h0 (by omega) (hd.getD k) (by omega)
        rw [← hs] at hr
        exact hr
      · exact .inr (whole_over mx ds e w (val (ds.take k)) k hl hw h0 (by omega) (hd.getD k) (by omega))) ⟨0, Nat.zero_le _, by simp [val_nil]⟩
  simp only [List.take_zero, val_nil] at h
  exact h

theorem whole_meets (mx : Bool) (ds : List Int) (e : Int) (w : Nat) (hl : ds.length = 88) (hd : Dig ds) (he : -40 ≤ e ∧ e ≤ 48) (hw' : 48 - e = w) : Meets Tryz.prog 142 [jP 0 0, jI e] [jC ((jB mx) :: (ints .u8 ds)) 96] (jT [jI (capN (val (ds.take w))), jB (capB (val (ds.take w)))]) [jC ((jB mx) :: (ints .u8 ds)) 96] := by
  have hw : w ≤ 88 := by omega
  have o1 := oA (oW (48 - e) ((w : Nat) : Int) (by omega)) <| oA (oS (show 0 ≤ (((w : Nat) : Int) : Int) from by omega)) <| oA (oS (show (0 : Nat) ≤ (Int.toNat (((w : Nat) : Int))) from by omega)) <| oA (oS (show ((Int.toNat (((w : Nat) : Int))) : Nat) ≤ 88 from by omega)) <| oA (oS (show (88 : Nat) ≤ 88 from by omega)) <| oS (show AV.slice 0 (if 88 = 0 then 1 else 1 + 0 * 1) ((Int.toNat (((w : Nat) : Int))) - 0) (88 - 0) = AV.slice 0 1 w 88 from sliceE (by first | (split <;> omega) | (simp; omega) | simp) (by omega) (by omega))
  let q1 : List Orc := [rG [], rG [], rG [hhI 4 ((w : Nat) : Int), hhV 5 (AV.slice 0 1 w 88)]]
  by_cases c1 : val (ds.take w) ≤ 999999999999999
  · exact meets_run (fn := Tryz.f142) 0 (q1 ++ [.loop (⟨([sP 0 0, sI e, none, none, none, none, sI 0, none, none, none, none, none, none, none, some (AV.slice 0 1 w 88), sI ((w : Nat) : Int), sI 0] ++ nn 12), [some (jC ((jB mx) :: (ints .u8 ds)) 96)]⟩) (.exit 0) (⟨([none, none, none, none, none, none, sI (val (ds.take w))] ++ nn 22), [some (jC ((jB mx) :: (ints .u8 ds)) 96)]⟩), rG []]) [{}, {}] Tryz.func142 (by kernel_rfl) Tryz.call142
      (oA o1 <| oA (oR [jP 0 0, jI e, jI 0, AV.slice 0 1 w 88, jI ((w : Nat) : Int), jI 0]) <| oA (oQ [jC ((jB mx) :: (ints .u8 ds)) 96]) <| oS (show Tri Tryz.prog (.loop (loopN (bodyOf Tryz.f142) 0)) (⟨([sP 0 0, sI e, none, none, none, none, sI 0, none, none, none, none, none, none, none, some (AV.slice 0 1 w 88), sI ((w : Nat) : Int), sI 0] ++ nn 12), [some (jC ((jB mx) :: (ints .u8 ds)) 96)]⟩) (.exit 0) (⟨([none, none, none, none, none, none, sI (val (ds.take w))] ++ nn 22), [some (jC ((jB mx) :: (ints .u8 ds)) 96)]⟩) 1 from whole_loop_ok mx ds e w hl hw hd c1))
      (oA (oS (show jT [jI (val (ds.take w)), jB true] = jT [jI (capN (val (ds.take w))), jB (capB (val (ds.take w)))] from capE_pos c1)) <| oA (oV (D := (fun n => decide (1 ≤ n))) (jT [jI (capN (val (ds.take w))), jB (capB (val (ds.take w)))]) rfl) <| oA (oS (show jC ((jB mx) :: (ints .u8 ds)) 96 = jC ((jB mx) :: (ints .u8 ds)) 96 from rfl)) <| oS (show AvoidO (fun n => decide (1 ≤ n)) (jC ((jB mx) :: (ints .u8 ds)) 96) from AvoidO.cells (AvoidL.cons (Avoid.bool _ _) (AvoidL.ints _ _ _)))) (by kernel_rfl)
  · exact meets_run (fn := Tryz.f142) 0 (q1 ++ [.loop (⟨([sP 0 0, sI e, none, none, none, none, sI 0, none, none, none, none, none, none, none, some (AV.slice 0 1 w 88), sI ((w : Nat) : Int), sI 0] ++ nn 12), [some (jC ((jB mx) :: (ints .u8 ds)) 96)]⟩) .ret (⟨([none, none, none, none, sI 0, sB false] ++ nn 23), [some (jC ((jB mx) :: (ints .u8 ds)) 96)]⟩)]) [{}, {}] Tryz.func142 (by kernel_rfl) Tryz.call142
      (oA o1 <| oA (oR [jP 0 0, jI e, jI 0, AV.slice 0 1 w 88, jI ((w : Nat) : Int), jI 0]) <| oA (oQ [jC ((jB mx) :: (ints .u8 ds)) 96]) <| oS (show Tri Tryz.prog (.loop (loopN (bodyOf Tryz.f142) 0)) (⟨([sP 0 0, sI e, none, none, none, none, sI 0, none, none, none, none, none, none, none, some (AV.slice 0 1 w 88), sI ((w : Nat) : Int), sI 0] ++ nn 12), [some (jC ((jB mx) :: (ints .u8 ds)) 96)]⟩) .ret (⟨([none, none, none, none, sI 0, sB false] ++ nn 23), [some (jC ((jB mx) :: (ints .u8 ds)) 96)]⟩) 1 from whole_loop_over mx ds e w hl hw hd c1))
      (oA (oS (show jT [jI 0, jB false] = jT [jI (capN (val (ds.take w))), jB (capB (val (ds.take w)))] from capE_neg c1)) <| oA (oV (D := (fun n => decide (1 ≤ n))) (jT [jI (capN (val (ds.take w))), jB (capB (val (ds.take w)))]) rfl) <| oA (oS (show jC ((jB mx) :: (ints .u8 ds)) 96 = jC ((jB mx) :: (ints .u8 ds)) 96 from rfl)) <| oS (show AvoidO (fun n => decide (1 ≤ n)) (jC ((jB mx) :: (ints .u8 ds)) 96) from AvoidO.cells (AvoidL.cons (Avoid.bool _ _) (AvoidL.ints _ _ _)))) (by kernel_rfl)

end Go.Proofs.YtdomenmfkbfakaaGreatDoor.Dq


set_option linter.unusedVariables false
set_option linter.unusedSimpArgs false
set_option maxRecDepth 20000
namespace Go.Proofs.YtdomenmfkbfakaaGreatDoor.Dq
open Go Sx Dc

theorem val_head {l : List Int} (h : 0 < l.length) : val l = l.getD 0 0 * 10 ^ (l.length - 1) + val (l.drop 1) := by
  cases l with
  | nil => simp at h
  | cons d l => rw [val_cons]; simp
/-- Does what is cut off make the number before it greater by one? -/
def upB (n : Int) (l : List Int) : Bool := decide (5 * 10 ^ (l.length - 1) < val l ∨ (val l = 5 * 10 ^ (l.length - 1) ∧ n % 2 = 1))
theorem up_ne {n : Int} {l : List Int} (hd : Dig l) (h0 : 2 ≤ l.length) (c : ¬ l.getD 0 0 = 5) : AV.bool (decide (l.getD 0 0 > 5)) = AV.bool (upB n l) := by
  refine boolE (decide_eq_decide.2 ?_)
  have h1 := val_head (l := l) (by omega)
  have h2 := val_bounds _ (hd.drop 1)
  rw [List.length_drop] at h2
  rw [h1]
  generalize l.getD 0 0 = d at *
  generalize val (l.drop 1) = v at *
  have hp := pow_pos' (l.length - 1)
  generalize (10 : Int) ^ (l.length - 1) = p at *
  constructor
  · intro g
    have : 6 * p ≤ d * p := Int.mul_le_mul_of_nonneg_right (by omega) (by omega)
    left; omega
  · intro g
    rcases Int.lt_or_le 5 d with k | k
    · exact k
    · have : d * p ≤ 4 * p := Int.mul_le_mul_of_nonneg_right (by omega) (by omega)
      omega
theorem up_odd {n : Int} {l : List Int} (hd : Dig l) (h0 : 2 ≤ l.length) (c : l.getD 0 0 = 5) (c2 : n % 2 = 1) : AV.bool true = AV.bool (upB n l) := by
  refine boolE (Eq.symm (decide_eq_true ?_))
  have h1 := val_head (l := l) (by omega)
  have h2 := val_bounds _ (hd.drop 1)
  rw [h1, c]
  omega
theorem up_even {n : Int} {l : List Int} (hd : Dig l) (h0 : 2 ≤ l.length) (c : l.getD 0 0 = 5) (c2 : ¬ n % 2 = 1) : AV.bool (!decide (val (l.drop 1) = 0)) = AV.bool (upB n l) := by
  refine boolE ?_
  have h1 := val_head (l := l) (by omega)
  have h2 := val_bounds _ (hd.drop 1)
  rw [Bool.eq_iff_iff]
  simp only [upB, Bool.not_eq_true', decide_eq_false_iff_not, decide_eq_true_eq]
  rw [h1, c]
  omega
/-- A window into figures. -/
theorem fits_fig {m : AV} {ds us : List Int} {t off i : Nat} (r : List Nat) (ho : off = i + 1) (hu : (ds.drop i).take us.length = us) : Fits (.cells (m :: ints .u8 ds) t) (AObj.ren r (.ro off (ints .u8 us))) := by
  rw [show AObj.ren r (.ro off (ints .u8 us)) = .ro off (ints .u8 us) by simp only [AObj.ren, renL_ints]]
  refine Fits.ro (o0 := 0) rfl rfl (Nat.zero_le _) ?_
  rw [ho, Nat.sub_zero, List.drop_succ_cons, ints_length]
  simp only [ints] at *
  rw [← List.map_drop, ← List.map_take, hu]
theorem fits_win {o o' i : Nat} {ds us : List Int} (r : List Nat) (ho : o' = o + i) (hu : (ds.drop i).take us.length = us) : Fits (.ro o (ints .u8 ds)) (AObj.ren r (.ro o' (ints .u8 us))) := by
  rw [show AObj.ren r (.ro o' (ints .u8 us)) = .ro o' (ints .u8 us) by simp only [AObj.ren, renL_ints]]
  refine Fits.ro (o0 := o) rfl rfl (by omega) ?_
  rw [show o' - o = i by omega, ints_length]
  simp only [ints] at *
  rw [← List.map_drop, ← List.map_take, hu]

theorem goesUp_meets (n : Int) (l : List Int) (o c : Nat) (hn : 0 ≤ n) (hd : Dig l) (h0 : 2 ≤ l.length) (hc : l.length ≤ c) (hc2 : c < 1000) : Meets Tryz.prog 143 [jI n, AV.slice 0 o l.length c] [AObj.ro o (ints .u8 l)] (jB (upB n l)) [AObj.ro o (ints .u8 l)] := by
  have o1 := oA (oS (show 0 ≤ (0 : Int) from by decide)) <| oA (oS (show (0 : Int) < ((l.length : Nat) : Int) from by omega)) <| oA (oS (show AV.ptr 0 (o + Int.toNat (0 : Int) * 1) = jP 0 o from ptrE (by omega))) <| oA (oS (show o ≤ o from by omega)) <| oS (show (ints .u8 l : List AV)[o - o]? = some (jU (l.getD 0 0)) from ints_at [] (by simp only [List.length_nil, List.length_cons] <;> omega) (by omega))
  let q1 : List Orc := [rG []]
  by_cases c1 : (l.getD 0 0) = 5
  · have o2 := oA (oS (neF c1)) <| oA (oS (show (2 : Int) ≠ 0 from by decide)) <| oS (show AV.int .i64 (n.tmod 2) = jI (n % 2) from remI (by omega))
    let q2 : List Orc := [rG [hhV 1 (jP 0 o), hhV 2 (jU (l.getD 0 0)), hhB 3 false]]
    by_cases c2 : (n % 2) = 1
    · exact meets_run (fn := Tryz.f143) 0 (q1 ++ (q2 ++ [rG [hhI 1 (n % 2), hhB 2 true]])) [{}] Tryz.func143 (by kernel_rfl) Tryz.call143
        (oA o1 <| oA o2 <| oS (eqT c2))
        (oA (oS (show jB true = jB (upB n l) from up_odd hd h0 c1 c2)) <| oA (oS (show AObj.ro o (ints .u8 l) = AObj.ro o (ints .u8 l) from rfl)) <| oS (show AvoidO (fun n => decide (1 ≤ n)) (AObj.ro o (ints .u8 l)) from AvoidO.ro (AvoidL.ints _ _ _))) (by kernel_rfl)
    · exact meets_run (fn := Tryz.f143) 0 (q1 ++ (q2 ++ [rG [hhI 1 (n % 2), hhB 2 false, hhV 5 (AV.slice 0 (o + 1) (l.length - 1) (c - 1)), (6, {call := some ⟨[0], [AV.slice 0 (o + 1) ((l.drop 1).length) (c - 1)], [AObj.ro (o + 1) (ints .u8 (l.drop 1))], jB (decide (val (l.drop 1) = 0)), [AObj.ro (o + 1) (ints .u8 (l.drop 1))]⟩, obj := some [AObj.ro o (ints .u8 l)]})]])) [{}] Tryz.func143 (by kernel_rfl) Tryz.call143
        (oA o1 <| oA o2 <| oA (oS (eqF c2)) <| oA (oS (show 0 ≤ (1 : Int) from by omega)) <| oA (oS (show ((Int.toNat (1 : Int)) : Nat) ≤ l.length from by omega)) <| oA (oS (show (l.length : Nat) ≤ c from by omega)) <| oA (oS (show (c : Nat) ≤ c from by omega)) <| oA (oS (show AV.slice 0 (if c = (Int.toNat (1 : Int)) then o else o + (Int.toNat (1 : Int)) * 1) (l.length - (Int.toNat (1 : Int))) (c - (Int.toNat (1 : Int))) = AV.slice 0 (o + 1) (l.length - 1) (c - 1) from sliceE (by first | (split <;> omega) | (simp; omega) | simp) (by omega) (by omega))) <| oA (oS (show [AV.slice 0 (o + 1) (l.length - 1) (c - 1)] = renL [0] [AV.slice 0 (o + 1) ((l.drop 1).length) (c - 1)] from by simp only [renL, AV.ren, List.length_drop]; rfl)) <| oA (oS (show Meets Tryz.prog 132 [AV.slice 0 (o + 1) ((l.drop 1).length) (c - 1)] [AObj.ro (o + 1) (ints .u8 (l.drop 1))] (jB (decide (val (l.drop 1) = 0))) [AObj.ro (o + 1) (ints .u8 (l.drop 1))] from none_meets (l.drop 1) (o + 1) (c - 1) (by rw [List.length_drop]; omega) (by rw [List.length_drop]; omega) (hd.drop 1))) <| oA (oS (show Fits (AObj.ro o (ints .u8 l)) (AObj.ren [0] (AObj.ro (o + 1) (ints .u8 (l.drop 1)))) from fits_win _ rfl List.take_length)) <| oS (show updOf [0] [AObj.ro o (ints .u8 l)] [AObj.ro (o + 1) (ints .u8 (l.drop 1))] [AObj.ro (o + 1) (ints .u8 (l.drop 1))] ++ List.map (fun x => x.ren [0]) (List.drop 1 [AObj.ro (o + 1) (ints .u8 (l.drop 1))]) = [AObj.ro o (ints .u8 l)] from rfl))
        (oA (oS (show jB (!(decide (val (l.drop 1) = 0))) = jB (upB n l) from up_even hd h0 c1 c2)) <| oA (oS (show AObj.ro o (ints .u8 l) = AObj.ro o (ints .u8 l) from rfl)) <| oS (show AvoidO (fun n => decide (1 ≤ n)) (AObj.ro o (ints .u8 l)) from AvoidO.ro (AvoidL.ints _ _ _))) (by kernel_rfl)
  · exact meets_run (fn := Tryz.f143) 0 (q1 ++ [rG [hhV 1 (jP 0 o), hhV 2 (jU (l.getD 0 0)), hhB 3 true], rG [hhV 1 (jP 0 o), hhV 2 (jU (l.getD 0 0))]]) [{}] Tryz.func143 (by kernel_rfl) Tryz.call143
      (oA o1 <| oA (oS (neT c1)) <| oA (oS (show 0 ≤ (0 : Int) from by decide)) <| oA (oS (show (0 : Int) < ((l.length : Nat) : Int) from by omega)) <| oA (oS (show AV.ptr 0 (o + Int.toNat (0 : Int) * 1) = jP 0 o from ptrE (by omega))) <| oA (oS (show o ≤ o from by omega)) <| oS (show (ints .u8 l : List AV)[o - o]? = some (jU (l.getD 0 0)) from ints_at [] (by simp only [List.length_nil, List.length_cons] <;> omega) (by omega)))
      (oA (oS (show jB (decide ((l.getD 0 0) > 5)) = jB (upB n l) from up_ne hd h0 c1)) <| oA (oS (show AObj.ro o (ints .u8 l) = AObj.ro o (ints .u8 l) from rfl)) <| oS (show AvoidO (fun n => decide (1 ≤ n)) (AObj.ro o (ints .u8 l)) from AvoidO.ro (AvoidL.ints _ _ _))) (by kernel_rfl)

theorem capE_pos' {n k : Int} (e : k = n) (h : n ≤ 999999999999999) : AV.tuple [.int .i64 n, .bool true] = AV.tuple [.int .i64 (capN k), .bool (capB k)] := by subst e; exact capE_pos h
def evenN (ds : List Int) (w : Nat) : Int := if upB (val (ds.take w)) (ds.drop w) = true then val (ds.take w) + 1 else val (ds.take w)
theorem evenN_ge (ds : List Int) (w : Nat) : val (ds.take w) ≤ evenN ds w ∧ evenN ds w ≤ val (ds.take w) + 1 := by unfold evenN; split <;> omega
theorem even_up {ds : List Int} {w : Nat} (h : upB (val (ds.take w)) (ds.drop w) = true) : evenN ds w = val (ds.take w) + 1 := by simp [evenN, h]
theorem even_dn {ds : List Int} {w : Nat} (h : ¬ upB (val (ds.take w)) (ds.drop w) = true) : evenN ds w = val (ds.take w) := by simp [evenN, h]

theorem even_meets (mx : Bool) (ds : List Int) (e : Int) (w : Nat) (hl : ds.length = 88) (hd : Dig ds) (he : -10 ≤ e ∧ e ≤ 10) (hw : 48 - e = w) : Meets Tryz.prog 126 [jP 0 0, jI e] [jC ((jB mx) :: (ints .u8 ds)) 96] (jT [jI (capN (evenN ds w)), jB (capB (evenN ds w))]) [jC ((jB mx) :: (ints .u8 ds)) 96] := by
  have hge := evenN_ge ds w
  have hb := (val_bounds _ (hd.take w)).1
  let q1 : List Orc := [rG []]
  by_cases c1 : val (ds.take w) ≤ 999999999999999
  · have o1 := oA (oS (show [jP 0 0, jI e] = renL [0] [jP 0 0, jI e] from rfl)) <| oA (oS (show Meets Tryz.prog 142 [jP 0 0, jI e] [jC ((jB mx) :: (ints .u8 ds)) 96] (jT [jI (capN (val (ds.take w))), jB (capB (val (ds.take w)))]) [jC ((jB mx) :: (ints .u8 ds)) 96] from whole_meets mx ds e w hl hd (by omega) hw)) <| oA (oS (show Fits (jC ((jB mx) :: (ints .u8 ds)) 96) (AObj.ren [0] (jC ((jB mx) :: (ints .u8 ds)) 96)) from Fits.of_eq (by simp only [AObj.ren, renL, AV.ren, renL_ints, renL_u8s, renL_append]))) <| oA (oS (show AV.ren [0] (jT [jI (capN (val (ds.take w))), jB (capB (val (ds.take w)))]) = jT [jI (val (ds.take w)), jB true] from cap_pos c1)) <| oA (oS (show updOf [0] [jC ((jB mx) :: (ints .u8 ds)) 96] [jC ((jB mx) :: (ints .u8 ds)) 96] [jC ((jB mx) :: (ints .u8 ds)) 96] ++ List.map (fun x => x.ren [0]) (List.drop 1 [jC ((jB mx) :: (ints .u8 ds)) 96]) = [jC ((jB mx) :: (ints .u8 ds)) 96] from by simp [updOf, AObj.owned, AObj.ren, renL, AV.ren, renL_ints, renL_u8s, renL_append])) <| oA (oS (show AV.bool (!true) = jB false from rfl)) <| oA (oW (48 - e) ((w : Nat) : Int) (by omega)) <| oA (oS (show 0 ≤ (((w : Nat) : Int) : Int) from by omega)) <| oA (oS (show ((Int.toNat (((w : Nat) : Int))) : Nat) ≤ 88 from by omega)) <| oA (oS (show (88 : Nat) ≤ 88 from by omega)) <| oA (oS (show (88 : Nat) ≤ 88 from by omega)) <| oA (oS (show AV.slice 0 (if 88 = (Int.toNat (((w : Nat) : Int))) then 1 else 1 + (Int.toNat (((w : Nat) : Int))) * 1) (88 - (Int.toNat (((w : Nat) : Int)))) (88 - (Int.toNat (((w : Nat) : Int)))) = AV.slice 0 (w + 1) (88 - w) (88 - w) from sliceE (by first | (split <;> omega) | (simp; omega) | simp) (by omega) (by omega))) <| oA (oS (show [jI (val (ds.take w)), AV.slice 0 (w + 1) (88 - w) (88 - w)] = renL [0] [jI (val (ds.take w)), AV.slice 0 (w + 1) ((ds.drop w).length) (88 - w)] from by simp only [renL, AV.ren, List.length_drop, hl]; rfl)) <| oA (oS (show Meets Tryz.prog 143 [jI (val (ds.take w)), AV.slice 0 (w + 1) ((ds.drop w).length) (88 - w)] [AObj.ro (w + 1) (ints .u8 (ds.drop w))] (jB (upB (val (ds.take w)) (ds.drop w))) [AObj.ro (w + 1) (ints .u8 (ds.drop w))] from goesUp_meets _ (ds.drop w) (w + 1) (88 - w) (val_bounds _ (hd.take w)).1 (hd.drop w) (by rw [List.length_drop]; omega) (by rw [List.length_drop]; omega) (by omega))) <| oS (show Fits (jC ((jB mx) :: (ints .u8 ds)) 96) (AObj.ren [0] (AObj.ro (w + 1) (ints .u8 (ds.drop w)))) from fits_fig _ rfl List.take_length)
    let q2 : List Orc := [rG [(2, {call := some ⟨[0], [jP 0 0, jI e], [jC ((jB mx) :: (ints .u8 ds)) 96], jT [jI (capN (val (ds.take w))), jB (capB (val (ds.take w)))], [jC ((jB mx) :: (ints .u8 ds)) 96]⟩, val := some (jT [jI (val (ds.take w)), jB true]), obj := some [jC ((jB mx) :: (ints .u8 ds)) 96]})], rG [hhB 1 false]]
    by_cases c2 : upB (val (ds.take w)) (ds.drop w) = true
    · have o2 := oA (oS (boolT c2)) <| oA (oS (show updOf [0] [jC ((jB mx) :: (ints .u8 ds)) 96] [AObj.ro (w + 1) (ints .u8 (ds.drop w))] [AObj.ro (w + 1) (ints .u8 (ds.drop w))] ++ List.map (fun x => x.ren [0]) (List.drop 1 [AObj.ro (w + 1) (ints .u8 (ds.drop w))]) = [jC ((jB mx) :: (ints .u8 ds)) 96] from rfl)) <| oWs ((val (ds.take w)) + 1) (by omega)
      let q3 : List Orc := [rG [hhI 5 ((w : Nat) : Int), hhV 6 (AV.slice 0 (w + 1) (88 - w) (88 - w)), (7, {call := some ⟨[0], [jI (val (ds.take w)), AV.slice 0 (w + 1) ((ds.drop w).length) (88 - w)], [AObj.ro (w + 1) (ints .u8 (ds.drop w))], jB (upB (val (ds.take w)) (ds.drop w)), [AObj.ro (w + 1) (ints .u8 (ds.drop w))]⟩, val := some (jB true), obj := some [jC ((jB mx) :: (ints .u8 ds)) 96]})], rG [hhI 1 ((val (ds.take w)) + 1)]]
      by_cases c3 : ((val (ds.take w)) + 1) > 999999999999999
      · exact meets_run (fn := Tryz.f126) 0 (q1 ++ (q2 ++ (q3 ++ [rG [hhB 1 true], rG []]))) [{}, {}] Tryz.func126 (by kernel_rfl) Tryz.call126
          (oA o1 <| oA o2 <| oS (bT c3))
          (oA (oS (show jT [jI 0, jB false] = jT [jI (capN (evenN ds w)), jB (capB (evenN ds w))] from capE_neg (by first | omega | (have := even_up c2; omega)))) <| oA (oV (D := (fun n => decide (1 ≤ n))) (jT [jI (capN (evenN ds w)), jB (capB (evenN ds w))]) rfl) <| oA (oS (show jC ((jB mx) :: (ints .u8 ds)) 96 = jC ((jB mx) :: (ints .u8 ds)) 96 from rfl)) <| oS (show AvoidO (fun n => decide (1 ≤ n)) (jC ((jB mx) :: (ints .u8 ds)) 96) from AvoidO.cells (AvoidL.cons (Avoid.bool _ _) (AvoidL.ints _ _ _)))) (by kernel_rfl)
      · exact meets_run (fn := Tryz.f126) 0 (q1 ++ (q2 ++ (q3 ++ [rG [hhB 1 false], rG []]))) [{}, {}] Tryz.func126 (by kernel_rfl) Tryz.call126
          (oA o1 <| oA o2 <| oS (bF c3))
          (oA (oS (show jT [jI ((val (ds.take w)) + 1), jB true] = jT [jI (capN (evenN ds w)), jB (capB (evenN ds w))] from capE_pos' (even_up c2) (by omega))) <| oA (oV (D := (fun n => decide (1 ≤ n))) (jT [jI (capN (evenN ds w)), jB (capB (evenN ds w))]) rfl) <| oA (oS (show jC ((jB mx) :: (ints .u8 ds)) 96 = jC ((jB mx) :: (ints .u8 ds)) 96 from rfl)) <| oS (show AvoidO (fun n => decide (1 ≤ n)) (jC ((jB mx) :: (ints .u8 ds)) 96) from AvoidO.cells (AvoidL.cons (Avoid.bool _ _) (AvoidL.ints _ _ _)))) (by kernel_rfl)
    · have o2 := oA (oS (boolF c2)) <| oS (show updOf [0] [jC ((jB mx) :: (ints .u8 ds)) 96] [AObj.ro (w + 1) (ints .u8 (ds.drop w))] [AObj.ro (w + 1) (ints .u8 (ds.drop w))] ++ List.map (fun x => x.ren [0]) (List.drop 1 [AObj.ro (w + 1) (ints .u8 (ds.drop w))]) = [jC ((jB mx) :: (ints .u8 ds)) 96] from rfl)
      let q3 : List Orc := [rG [hhI 5 ((w : Nat) : Int), hhV 6 (AV.slice 0 (w + 1) (88 - w) (88 - w)), (7, {call := some ⟨[0], [jI (val (ds.take w)), AV.slice 0 (w + 1) ((ds.drop w).length) (88 - w)], [AObj.ro (w + 1) (ints .u8 (ds.drop w))], jB (upB (val (ds.take w)) (ds.drop w)), [AObj.ro (w + 1) (ints .u8 (ds.drop w))]⟩, val := some (jB false), obj := some [jC ((jB mx) :: (ints .u8 ds)) 96]})]]
      by_cases c3 : (val (ds.take w)) > 999999999999999
      · exact meets_run (fn := Tryz.f126) 0 (q1 ++ (q2 ++ (q3 ++ [rG [hhB 1 true], rG []]))) [{}, {}] Tryz.func126 (by kernel_rfl) Tryz.call126
          (oA o1 <| oA o2 <| oS (bT c3))
          (oA (oS (show jT [jI 0, jB false] = jT [jI (capN (evenN ds w)), jB (capB (evenN ds w))] from capE_neg (by first | omega | (have := even_up c2; omega)))) <| oA (oV (D := (fun n => decide (1 ≤ n))) (jT [jI (capN (evenN ds w)), jB (capB (evenN ds w))]) rfl) <| oA (oS (show jC ((jB mx) :: (ints .u8 ds)) 96 = jC ((jB mx) :: (ints .u8 ds)) 96 from rfl)) <| oS (show AvoidO (fun n => decide (1 ≤ n)) (jC ((jB mx) :: (ints .u8 ds)) 96) from AvoidO.cells (AvoidL.cons (Avoid.bool _ _) (AvoidL.ints _ _ _)))) (by kernel_rfl)
      · exact meets_run (fn := Tryz.f126) 0 (q1 ++ (q2 ++ (q3 ++ [rG [hhB 1 false], rG []]))) [{}, {}] Tryz.func126 (by kernel_rfl) Tryz.call126
          (oA o1 <| oA o2 <| oS (bF c3))
          (oA (oS (show jT [jI (val (ds.take w)), jB true] = jT [jI (capN (evenN ds w)), jB (capB (evenN ds w))] from capE_pos' (even_dn c2) (by omega))) <| oA (oV (D := (fun n => decide (1 ≤ n))) (jT [jI (capN (evenN ds w)), jB (capB (evenN ds w))]) rfl) <| oA (oS (show jC ((jB mx) :: (ints .u8 ds)) 96 = jC ((jB mx) :: (ints .u8 ds)) 96 from rfl)) <| oS (show AvoidO (fun n => decide (1 ≤ n)) (jC ((jB mx) :: (ints .u8 ds)) 96) from AvoidO.cells (AvoidL.cons (Avoid.bool _ _) (AvoidL.ints _ _ _)))) (by kernel_rfl)
  · exact meets_run (fn := Tryz.f126) 0 (q1 ++ [rG [(2, {call := some ⟨[0], [jP 0 0, jI e], [jC ((jB mx) :: (ints .u8 ds)) 96], jT [jI (capN (val (ds.take w))), jB (capB (val (ds.take w)))], [jC ((jB mx) :: (ints .u8 ds)) 96]⟩, val := some (jT [jI 0, jB false]), obj := some [jC ((jB mx) :: (ints .u8 ds)) 96]})], rG [hhB 1 true], rG []]) [{}, {}] Tryz.func126 (by kernel_rfl) Tryz.call126
      (oA (oS (show [jP 0 0, jI e] = renL [0] [jP 0 0, jI e] from rfl)) <| oA (oS (show Meets Tryz.prog 142 [jP 0 0, jI e] [jC ((jB mx) :: (ints .u8 ds)) 96] (jT [jI (capN (val (ds.take w))), jB (capB (val (ds.take w)))]) [jC ((jB mx) :: (ints .u8 ds)) 96] from whole_meets mx ds e w hl hd (by omega) hw)) <| oA (oS (show Fits (jC ((jB mx) :: (ints .u8 ds)) 96) (AObj.ren [0] (jC ((jB mx) :: (ints .u8 ds)) 96)) from Fits.of_eq (by simp only [AObj.ren, renL, AV.ren, renL_ints, renL_u8s, renL_append]))) <| oA (oS (show AV.ren [0] (jT [jI (capN (val (ds.take w))), jB (capB (val (ds.take w)))]) = jT [jI 0, jB false] from cap_neg c1)) <| oA (oS (show updOf [0] [jC ((jB mx) :: (ints .u8 ds)) 96] [jC ((jB mx) :: (ints .u8 ds)) 96] [jC ((jB mx) :: (ints .u8 ds)) 96] ++ List.map (fun x => x.ren [0]) (List.drop 1 [jC ((jB mx) :: (ints .u8 ds)) 96]) = [jC ((jB mx) :: (ints .u8 ds)) 96] from by simp [updOf, AObj.owned, AObj.ren, renL, AV.ren, renL_ints, renL_u8s, renL_append])) <| oS (show AV.bool (!false) = jB true from rfl))
      (oA (oS (show jT [jI 0, jB false] = jT [jI (capN (evenN ds w)), jB (capB (evenN ds w))] from capE_neg (by first | omega | (have := even_up c2; omega)))) <| oA (oV (D := (fun n => decide (1 ≤ n))) (jT [jI (capN (evenN ds w)), jB (capB (evenN ds w))]) rfl) <| oA (oS (show jC ((jB mx) :: (ints .u8 ds)) 96 = jC ((jB mx) :: (ints .u8 ds)) 96 from rfl)) <| oS (show AvoidO (fun n => decide (1 ≤ n)) (jC ((jB mx) :: (ints .u8 ds)) 96) from AvoidO.cells (AvoidL.cons (Avoid.bool _ _) (AvoidL.ints _ _ _)))) (by kernel_rfl)

end Go.Proofs.YtdomenmfkbfakaaGreatDoor.Dq


set_option linter.unusedVariables false
set_option linter.unusedSimpArgs false
set_option maxRecDepth 20000
namespace Go.Proofs.YtdomenmfkbfakaaGreatDoor.Dq
open Go Sx Dc

/-- The nearest decimal: the first place at which what is rounded has not too many digits. -/
def nearGo (ds : List Int) : Nat → Nat → Option (Int × Int)
  | 0, _ => none
  | f + 1, j => if evenN ds (57 - j) ≤ 999999999999999 then some (evenN ds (57 - j), (j : Int) - 9) else nearGo ds f (j + 1)
def nearM (mx : Bool) (ds : List Int) : Int × Int :=
  match nearGo ds 19 0 with
  | none => (0, 0)
  | some (n, e) => trimmedS (if mx = true then -n else n) e
def nearE (ds : List Int) : Int := if (nearGo ds 19 0).isNone then 10 else 0

def near_inv (mx : Bool) (ds : List Int) (e : Int) : AState :=
  ⟨([none, sP 0 0, sP 1 0, sI 0, sI e] ++ nn 21), [some (jC ((jB mx) :: (ints .u8 ds)) 96), some (jC [jI 0, jI 0] 23)]⟩

theorem near_round (mx : Bool) (ds : List Int) (e : Int) (w : Nat) (hl : ds.length = 88) (hd : Dig ds) (hw : 48 - e = w) (he : -9 ≤ e ∧ e ≤ 9) (h : ¬ evenN ds w ≤ 999999999999999) : Tri Tryz.prog (loopN (bodyOf Tryz.f96) 0) (near_inv mx ds e) .normal (near_inv mx ds (e + 1)) := by
  exact tri_weak [rG [hhB 1 true], rG [(1, {call := some ⟨[0], [jP 0 0, jI e], [jC ((jB mx) :: (ints .u8 ds)) 96], jT [jI (capN (evenN ds w)), jB (capB (evenN ds w))], [jC ((jB mx) :: (ints .u8 ds)) 96]⟩, val := some (jT [jI 0, jB false]), obj := some [jC ((jB mx) :: (ints .u8 ds)) 96]})], rG [hhB 1 true], rG [hhI 1 (e + 1)]]
    (oA (oS (show AV.bool (decide (e ≤ 9)) = jB true from bT (by omega))) <| oA (oS (show [jP 0 0, jI e] = renL [0] [jP 0 0, jI e] from rfl)) <| oA (oS (show Meets Tryz.prog 126 [jP 0 0, jI e] [jC ((jB mx) :: (ints .u8 ds)) 96] (jT [jI (capN (evenN ds w)), jB (capB (evenN ds w))]) [jC ((jB mx) :: (ints .u8 ds)) 96] from even_meets mx ds e w hl hd (by omega) hw)) <| oA (oS (show Fits (jC ((jB mx) :: (ints .u8 ds)) 96) (AObj.ren [0] (jC ((jB mx) :: (ints .u8 ds)) 96)) from Fits.of_eq (by simp only [AObj.ren, renL, AV.ren, renL_ints, renL_u8s, renL_append]))) <| oA (oS (show AV.ren [0] (jT [jI (capN (evenN ds w)), jB (capB (evenN ds w))]) = jT [jI 0, jB false] from cap_neg h)) <| oA (oS (show updOf [0] [jC ((jB mx) :: (ints .u8 ds)) 96] [jC ((jB mx) :: (ints .u8 ds)) 96] [jC ((jB mx) :: (ints .u8 ds)) 96] ++ List.map (fun x => x.ren [0]) (List.drop 1 [jC ((jB mx) :: (ints .u8 ds)) 96]) = [jC ((jB mx) :: (ints .u8 ds)) 96] from by simp [updOf, AObj.owned, AObj.ren, renL, AV.ren, renL_ints, renL_u8s, renL_append])) <| oA (oS (show AV.bool (!false) = jB true from rfl)) <| oWs (e + 1) (by omega))
    (oA (oR [jP 0 0, jP 1 0, jI 0, jI (e + 1)]) <| oQ [jC ((jB mx) :: (ints .u8 ds)) 96, jC [jI 0, jI 0] 23]) (by kernel_rfl)

def near_found (mx : Bool) (ds : List Int) (m e : Int) : AState :=
  ⟨([none, none, sP 1 0, sI 0] ++ nn 22), [some (jC ((jB mx) :: (ints .u8 ds)) 96), some (jC [jI m, jI e] 23)]⟩

theorem near_got (mx : Bool) (ds : List Int) (e : Int) (w : Nat) (hl : ds.length = 88) (hd : Dig ds) (hw : 48 - e = w) (he : -9 ≤ e ∧ e ≤ 9) (h : evenN ds w ≤ 999999999999999) : Tri Tryz.prog (loopN (bodyOf Tryz.f96) 0) (near_inv mx ds e) .ret (near_found mx ds (trimmedS (if mx = true then -evenN ds w else evenN ds w) e).1 (trimmedS (if mx = true then -evenN ds w else evenN ds w) e).2) := by
  have hge := evenN_ge ds w
  have hb := (val_bounds _ (hd.take w)).1
  have o1 := oA (oS (show AV.bool (decide (e ≤ 9)) = jB true from bT (by omega))) <| oA (oS (show [jP 0 0, jI e] = renL [0] [jP 0 0, jI e] from rfl)) <| oA (oS (show Meets Tryz.prog 126 [jP 0 0, jI e] [jC ((jB mx) :: (ints .u8 ds)) 96] (jT [jI (capN (evenN ds w)), jB (capB (evenN ds w))]) [jC ((jB mx) :: (ints .u8 ds)) 96] from even_meets mx ds e w hl hd (by omega) hw)) <| oA (oS (show Fits (jC ((jB mx) :: (ints .u8 ds)) 96) (AObj.ren [0] (jC ((jB mx) :: (ints .u8 ds)) 96)) from Fits.of_eq (by simp only [AObj.ren, renL, AV.ren, renL_ints, renL_u8s, renL_append]))) <| oA (oS (show AV.ren [0] (jT [jI (capN (evenN ds w)), jB (capB (evenN ds w))]) = jT [jI (evenN ds w), jB true] from cap_pos h)) <| oA (oS (show updOf [0] [jC ((jB mx) :: (ints .u8 ds)) 96] [jC ((jB mx) :: (ints .u8 ds)) 96] [jC ((jB mx) :: (ints .u8 ds)) 96] ++ List.map (fun x => x.ren [0]) (List.drop 1 [jC ((jB mx) :: (ints .u8 ds)) 96]) = [jC ((jB mx) :: (ints .u8 ds)) 96] from by simp [updOf, AObj.owned, AObj.ren, renL, AV.ren, renL_ints, renL_u8s, renL_append])) <| oS (show AV.bool (!true) = jB false from rfl)
  let q1 : List Orc := [rG [hhB 1 true], rG [(1, {call := some ⟨[0], [jP 0 0, jI e], [jC ((jB mx) :: (ints .u8 ds)) 96], jT [jI (capN (evenN ds w)), jB (capB (evenN ds w))], [jC ((jB mx) :: (ints .u8 ds)) 96]⟩, val := some (jT [jI (evenN ds w), jB true]), obj := some [jC ((jB mx) :: (ints .u8 ds)) 96]})], rG [hhB 1 false]]
  by_cases c3 : mx = true
  · exact tri_weak (q1 ++ [rG [hhB 1 true], rG [hhI 1 (-(evenN ds w))], rG [hhM 2 (trimmed_meets (-(evenN ds w)) e (by omega) (by omega)), (3, {obj := some [jC [jI ((trimmedS (-(evenN ds w)) e).1), jI ((trimmedS (-(evenN ds w)) e).2)] 23]})]])
      (oA o1 <| oA (oLf ((jB mx) :: (ints .u8 ds)) (0) (jB true) (atT (rfl) c3)) <| oA (oW (0 - (evenN ds w)) (-(evenN ds w)) (by omega)) <| oA (oC (trimmed_meets (-(evenN ds w)) e (by omega) (by omega)) rfl) <| oSw ([jI ((trimmedS (-(evenN ds w)) e).1), jI ((trimmedS (-(evenN ds w)) e).2)]) ([jI 0, jI 0]) 23 (rfl) (rfl))
      (oA (oR [jP 1 0, jI 0]) <| oA (oQ [jC ((jB mx) :: (ints .u8 ds)) 96]) <| oS (show jC [jI ((trimmedS (-(evenN ds w)) e).1), jI ((trimmedS (-(evenN ds w)) e).2)] 23 = jC [jI ((trimmedS (if mx = true then -evenN ds w else evenN ds w) e).1), jI ((trimmedS (if mx = true then -evenN ds w else evenN ds w) e).2)] 23 from by simp only [*, if_true, if_false, Bool.false_eq_true])) (by kernel_rfl)
  · exact tri_weak (q1 ++ [rG [hhB 1 false], rG [hhM 2 (trimmed_meets (evenN ds w) e (by omega) (by omega)), (3, {obj := some [jC [jI ((trimmedS (evenN ds w) e).1), jI ((trimmedS (evenN ds w) e).2)] 23]})]])
      (oA o1 <| oA (oLf ((jB mx) :: (ints .u8 ds)) (0) (jB false) (atF (rfl) c3)) <| oA (oC (trimmed_meets (evenN ds w) e (by omega) (by omega)) rfl) <| oSw ([jI ((trimmedS (evenN ds w) e).1), jI ((trimmedS (evenN ds w) e).2)]) ([jI 0, jI 0]) 23 (rfl) (rfl))
      (oA (oR [jP 1 0, jI 0]) <| oA (oQ [jC ((jB mx) :: (ints .u8 ds)) 96]) <| oS (show jC [jI ((trimmedS (evenN ds w) e).1), jI ((trimmedS (evenN ds w) e).2)] 23 = jC [jI ((trimmedS (if mx = true then -evenN ds w else evenN ds w) e).1), jI ((trimmedS (if mx = true then -evenN ds w else evenN ds w) e).2)] 23 from by simp only [*, if_true, if_false, Bool.false_eq_true])) (by kernel_rfl)

def near_lost (mx : Bool) (ds : List Int) : AState :=
  ⟨([none, none, sP 1 0] ++ nn 23), [some (jC ((jB mx) :: (ints .u8 ds)) 96), some (jC [jI 0, jI 0] 23)]⟩

theorem near_last (mx : Bool) (ds : List Int) (e : Int) (he : ¬ e ≤ 9) : Tri Tryz.prog (loopN (bodyOf Tryz.f96) 0) (near_inv mx ds e) (.exit 0) (near_lost mx ds) := by
  exact tri_weak [rG [hhB 1 false]]
    (oS (show AV.bool (decide (e ≤ 9)) = jB false from bF he))
    (oA (oR [jP 1 0]) <| oQ [jC ((jB mx) :: (ints .u8 ds)) 96, jC [jI 0, jI 0] 23]) (by kernel_rfl)

theorem near_loop_none (mx : Bool) (ds : List Int) (hl : ds.length = 88) (hd : Dig ds) (h : nearGo ds 19 0 = none) : Tri Tryz.prog (.loop (loopN (bodyOf Tryz.f96) 0)) (near_inv mx ds (-9)) (.exit 0) (near_lost mx ds) :=
  tri_loop (ι := {q : Nat × Nat // q.1 + q.2 = 19 ∧ nearGo ds q.1 q.2 = none}) (fun i => near_inv mx ds ((i.1.2 : Int) - 9)) (fun i => i.1.1) (ne_normal_exit 0) (by
    rintro ⟨⟨n, j⟩, hj, h⟩
    simp only at hj h
    cases n with
    | zero => exact .inr (near_last mx ds _ (by simp only; omega))
    | succ n =>
      rw [nearGo] at h
      split at h
      · cases h
      · rename_i hc
        refine .inl ⟨⟨(n, j + 1), by simp only; omega, h⟩, Nat.lt_succ_self n, ?_⟩
        have := near_round mx ds ((j : Int) - 9) (57 - j) hl hd (by omega) (by omega) hc
        rwa [show (j : Int) - 9 + 1 = ((j + 1 : Nat) : Int) - 9 by omega] at this) ⟨(19, 0), rfl, h⟩
theorem near_loop_some (mx : Bool) (ds : List Int) (hl : ds.length = 88) (hd : Dig ds) (N e : Int) (h : nearGo ds 19 0 = some (N, e)) : Tri Tryz.prog (.loop (loopN (bodyOf Tryz.f96) 0)) (near_inv mx ds (-9)) .ret (near_found mx ds (trimmedS (if mx = true then -N else N) e).1 (trimmedS (if mx = true then -N else N) e).2) :=
  tri_loop (ι := {q : Nat × Nat // q.1 + q.2 = 19 ∧ nearGo ds q.1 q.2 = some (N, e)}) (fun i => near_inv mx ds ((i.1.2 : Int) - 9)) (fun i => i.1.1) ne_normal_ret (by
    rintro ⟨⟨n, j⟩, hj, h⟩
    simp only at hj h
    cases n with
    | zero => cases h
    | succ n =>
      rw [nearGo] at h
      split at h
      · rename_i hc
        simp only [Option.some.injEq, Prod.mk.injEq] at h
        obtain ⟨rfl, rfl⟩ := h
        exact .inr (near_got mx ds ((j : Int) - 9) (57 - j) hl hd (by omega) (by omega) hc)
      · rename_i hc
        refine .inl ⟨⟨(n, j + 1), by simp only; omega, h⟩, Nat.lt_succ_self n, ?_⟩
        have := near_round mx ds ((j : Int) - 9) (57 - j) hl hd (by omega) (by omega) hc
        rwa [show (j : Int) - 9 + 1 = ((j + 1 : Nat) : Int) - 9 by omega] at this) ⟨(19, 0), rfl, h⟩
theorem nearE_none {ds : List Int} {mx : Bool} (h : nearGo ds 19 0 = none) : AV.tuple [AV.agg [AV.int .i64 0, AV.int .i64 0], AV.int .i64 10] = AV.tuple [AV.agg [AV.int .i64 (nearM mx ds).1, AV.int .i64 (nearM mx ds).2], AV.int .i64 (nearE ds)] := by simp [nearM, nearE, h]
theorem nearE_some {ds : List Int} {mx : Bool} {N e : Int} (h : nearGo ds 19 0 = some (N, e)) : AV.tuple [AV.agg [AV.int .i64 (trimmedS (if mx = true then -N else N) e).1, AV.int .i64 (trimmedS (if mx = true then -N else N) e).2], AV.int .i64 0] = AV.tuple [AV.agg [AV.int .i64 (nearM mx ds).1, AV.int .i64 (nearM mx ds).2], AV.int .i64 (nearE ds)] := by simp [nearM, nearE, h]

theorem nearest_none (mx : Bool) (ds : List Int) (hl : ds.length = 88) (hd : Dig ds) (h : nearGo ds 19 0 = none) : Meets Tryz.prog 96 [jA ((jB mx) :: (ints .u8 ds))] [] (jT [jA [jI ((nearM mx ds).1), jI ((nearM mx ds).2)], jI (nearE ds)]) [] := by
  exact meets_run (fn := Tryz.f96) 2 [rG [hhN 0 0, hhN 1 1], rG [], .loop (⟨([none, sP 0 0, sP 1 0, sI 0, sI (-9)] ++ nn 21), [some (jC ((jB mx) :: (ints .u8 ds)) 96), some (jC [jI 0, jI 0] 23)]⟩) (.exit 0) (⟨([none, none, sP 1 0] ++ nn 23), [some (jC ((jB mx) :: (ints .u8 ds)) 96), some (jC [jI 0, jI 0] 23)]⟩), rG [(1, {obj := some [jC [jI 0, jI 0] 23]})]] [{val := some (jA [jI 0, jI 0])}, {}] Tryz.func96 (by kernel_rfl) Tryz.call96
    (oA (oR [jP 0 0, jP 1 0, jI 0, jI (-9)]) <| oA (oQ [jC ((jB mx) :: (ints .u8 ds)) 96, jC [jI 0, jI 0] 23]) <| oA (oS (show Tri Tryz.prog (.loop (loopN (bodyOf Tryz.f96) 0)) (⟨([none, sP 0 0, sP 1 0, sI 0, sI (-9)] ++ nn 21), [some (jC ((jB mx) :: (ints .u8 ds)) 96), some (jC [jI 0, jI 0] 23)]⟩) (.exit 0) (⟨([none, none, sP 1 0] ++ nn 23), [some (jC ((jB mx) :: (ints .u8 ds)) 96), some (jC [jI 0, jI 0] 23)]⟩) from near_loop_none mx ds hl hd h)) <| oSw ([jI 0, jI 0]) ([jI 0, jI 0]) 23 (rfl) (rfl))
    (oA (oLw ([jI 0, jI 0]) (rfl)) <| oA (oS (show jT [jA [jI 0, jI 0], jI 10] = jT [jA [jI ((nearM mx ds).1), jI ((nearM mx ds).2)], jI (nearE ds)] from nearE_none h)) <| oV (D := (fun n => decide (0 ≤ n))) (jT [jA [jI ((nearM mx ds).1), jI ((nearM mx ds).2)], jI (nearE ds)]) rfl) (by kernel_rfl)

theorem nearest_some (mx : Bool) (ds : List Int) (N e : Int) (hl : ds.length = 88) (hd : Dig ds) (h : nearGo ds 19 0 = some (N, e)) : Meets Tryz.prog 96 [jA ((jB mx) :: (ints .u8 ds))] [] (jT [jA [jI ((nearM mx ds).1), jI ((nearM mx ds).2)], jI (nearE ds)]) [] := by
  exact meets_run (fn := Tryz.f96) 2 [rG [hhN 0 0, hhN 1 1], rG [], .loop (⟨([none, sP 0 0, sP 1 0, sI 0, sI (-9)] ++ nn 21), [some (jC ((jB mx) :: (ints .u8 ds)) 96), some (jC [jI 0, jI 0] 23)]⟩) .ret (⟨([none, none, sP 1 0, sI 0] ++ nn 22), [some (jC ((jB mx) :: (ints .u8 ds)) 96), some (jC [jI ((trimmedS (if mx = true then -N else N) e).1), jI ((trimmedS (if mx = true then -N else N) e).2)] 23)]⟩)] [{val := some (jA [jI ((trimmedS (if mx = true then -N else N) e).1), jI ((trimmedS (if mx = true then -N else N) e).2)])}, {}] Tryz.func96 (by kernel_rfl) Tryz.call96
    (oA (oR [jP 0 0, jP 1 0, jI 0, jI (-9)]) <| oA (oQ [jC ((jB mx) :: (ints .u8 ds)) 96, jC [jI 0, jI 0] 23]) <| oS (show Tri Tryz.prog (.loop (loopN (bodyOf Tryz.f96) 0)) (⟨([none, sP 0 0, sP 1 0, sI 0, sI (-9)] ++ nn 21), [some (jC ((jB mx) :: (ints .u8 ds)) 96), some (jC [jI 0, jI 0] 23)]⟩) .ret (⟨([none, none, sP 1 0, sI 0] ++ nn 22), [some (jC ((jB mx) :: (ints .u8 ds)) 96), some (jC [jI ((trimmedS (if mx = true then -N else N) e).1), jI ((trimmedS (if mx = true then -N else N) e).2)] 23)]⟩) from near_loop_some mx ds hl hd N e h))
    (oA (oLw ([jI ((trimmedS (if mx = true then -N else N) e).1), jI ((trimmedS (if mx = true then -N else N) e).2)]) (rfl)) <| oA (oS (show jT [jA [jI ((trimmedS (if mx = true then -N else N) e).1), jI ((trimmedS (if mx = true then -N else N) e).2)], jI 0] = jT [jA [jI ((nearM mx ds).1), jI ((nearM mx ds).2)], jI (nearE ds)] from nearE_some h)) <| oV (D := (fun n => decide (0 ≤ n))) (jT [jA [jI ((nearM mx ds).1), jI ((nearM mx ds).2)], jI (nearE ds)]) rfl) (by kernel_rfl)

theorem nearest_meets (mx : Bool) (ds : List Int) (hl : ds.length = 88) (hd : Dig ds) : Meets Tryz.prog 96 [AV.agg (AV.bool mx :: ints .u8 ds)] [] (jT [jA [jI ((nearM mx ds).1), jI ((nearM mx ds).2)], jI (nearE ds)]) [] := by
  cases h : nearGo ds 19 0 with
  | none => exact nearest_none mx ds hl hd h
  | some p => exact nearest_some mx ds p.1 p.2 hl hd h

end Go.Proofs.YtdomenmfkbfakaaGreatDoor.Dq

/- What texts say of decimals: plain mathematics. -/
set_option linter.unusedVariables false
set_option linter.unusedSimpArgs false
namespace Go.Proofs.YtdomenmfkbfakaaGreatDoor.Dq
open Go Dc

def idx46 (s : List UInt8) : Int := Lib.indexByte s 46
theorem idx46_ge (s : List UInt8) : -1 ≤ idx46 s := Lib.indexByte_ge s 46
theorem idx46_lt : ∀ (s : List UInt8), idx46 s < s.length
  | [] => by simp [idx46, Lib.indexByte]
  | b :: s => by
    have ih := idx46_lt s
    have hg := idx46_ge s
    unfold idx46 at *
    rw [Lib.indexByte, List.length_cons]
    split
    · omega
    · split <;> omega
/-- Is there a minus ahead? -/
def minusB (s : List UInt8) : Bool := decide (s.head? = some 45)
def okDig (b : UInt8) : Prop := 48 ≤ b.toNat ∧ b.toNat ≤ 57
instance : DecidablePred okDig := fun b => inferInstanceAs (Decidable (48 ≤ b.toNat ∧ b.toNat ≤ 57))
def isDigs (s : List UInt8) : Bool := decide (s ≠ [] ∧ s.length ≤ 40 ∧ ∀ b ∈ s, okDig b)
def bytesD (s : List UInt8) : List Int := s.map fun b => (b.toNat : Int) - 48
def bodyS (s : List UInt8) : List UInt8 := if minusB s = true then s.drop 1 else s
def wholeS (b : List UInt8) : List UInt8 := if 0 ≤ idx46 b then b.take (idx46 b).toNat else b
def partS (b : List UInt8) : List UInt8 := if 0 ≤ idx46 b then b.drop ((idx46 b).toNat + 1) else []
theorem bytesD_length (s : List UInt8) : (bytesD s).length = s.length := by simp [bytesD]
theorem bytesD_dig {s : List UInt8} (h : ∀ b ∈ s, okDig b) : Dig (bytesD s) := by
  intro d hd
  obtain ⟨b, hb, rfl⟩ := List.mem_map.1 hd
  have := h b hb
  unfold okDig at this; omega
/-- The number that a text is, times ten to 40, without its sign. -/
def wrV (w p : List UInt8) : Int := val (bytesD w) * 10 ^ 40 + val (bytesD p) * 10 ^ (40 - p.length)
def okW (s : List UInt8) : Bool := isDigs (wholeS (bodyS s)) && (!decide (0 ≤ idx46 (bodyS s)) || isDigs (partS (bodyS s)))
def wrS (s : List UInt8) : Int := wrV (wholeS (bodyS s)) (partS (bodyS s))
end Go.Proofs.YtdomenmfkbfakaaGreatDoor.Dq


set_option linter.unusedVariables false
set_option linter.unusedSimpArgs false
set_option maxRecDepth 20000
namespace Go.Proofs.YtdomenmfkbfakaaGreatDoor.Dq
open Go Sx Dc

theorem meets_indexByteString {P : Program} {f : FuncId} {fn : Func} (hf : P.funcs[f]? = some fn) (h1 : (fn.name == "runtime.NumGoroutine") = false) (h2 : fn.body.isNone = true) (h3 : Extern.findNext fn = none) (h4 : Extern.find fn = some Extern.BytealgIndexByte.indexByte) (s : List UInt8) (c : Int) (hfy : f ≠ yF := by decide) :
    Meets P f [.str s, .int .u8 c] [] (.int .i64 (Lib.indexByte s c.toNat.toUInt8)) [] := by
  intro w E vs hvs hp
  simp only [denL, den, Option.some.injEq] at hvs
  subst hvs
  refine Does.of hfy (.inr ⟨_, w, ?_, E, _, rfl, rfl, PostR.same hp⟩)
  rw [run_callFunc_extern hf h1 h2 h3 (e := Extern.BytealgIndexByte.indexByte) h4]
  have := Lib.run_indexByteString (P := P) ⟨s.toArray⟩ c w
  simp only [this]
  rfl
theorem idx_one {s : List UInt8} (h : [46] = s) : AV.int .i64 0 = AV.int .i64 (idx46 s) := by subst h; rfl
theorem has_short {s : List UInt8} (c : ¬ ((s.length : Nat) : Int) ≥ 1) : AV.bool false = AV.bool (minusB s) := by
  cases s with
  | nil => rfl
  | cons a s => simp at c; omega
theorem has_long {s : List UInt8} (c : ((s.length : Nat) : Int) ≥ 1) : AV.bool ((List.drop 0 s).take (1 - 0) == [45]) = AV.bool (minusB s) := by
  cases s with
  | nil => simp at c
  | cons a s => simp [minusB]; rw [Bool.eq_iff_iff]; simp
theorem minus_pos {s : List UInt8} (h : minusB s = true) : 1 ≤ s.length := by
  cases s with
  | nil => simp [minusB] at h
  | cons a s => simp

theorem indexByte_meets (s : List UInt8) : Meets Tryz.prog 156 [jS s, jU 46] [] (jI (idx46 s)) [] := by
  exact meets_run (fn := Tryz.f156) 0 [rG [], rG [(2, {call := some ⟨[], [jS s, jU 46], [], jI (Lib.indexByte s (Int.toNat 46).toUInt8), []⟩, val := some (jI (idx46 s))})]] [{}] Tryz.func156 (by kernel_rfl) Tryz.call156
    (oA (oC (show Meets Tryz.prog 165 [jS s, jU 46] [] (jI (Lib.indexByte s (Int.toNat 46).toUInt8)) [] from meets_indexByteString (fn := Tryz.f165) Tryz.func165 (by kernel_rfl) (by kernel_rfl) (by kernel_rfl) (by kernel_rfl) s 46) rfl) <| oS (show AV.ren [] (jI (Lib.indexByte s (Int.toNat 46).toUInt8)) = jI (idx46 s) from rfl))
    (oS (@rfl _ (jI (idx46 s)))) (by kernel_rfl)

theorem index_meets (s : List UInt8) : Meets Tryz.prog 149 [jS s, jS [46]] [] (jI (idx46 s)) [] := by
  have o1 := oA (oS (show AV.int .i64 (List.length ([46] : List UInt8)) = jI 1 from rfl)) <| oS (show AV.bool ((1 : Int) == 0) = jB false from boolE (by decide))
  let q1 : List Orc := [rG [], rG [hhI 1 1]]
  by_cases c1 : [46] = s
  · exact meets_run (fn := Tryz.f149) 0 (q1 ++ [rG [hhB 1 false, hhB 5 true], rG []]) [{}] Tryz.func149 (by kernel_rfl) Tryz.call149
      (oA o1 <| oS (eqT c1))
      (oS (show jI 0 = jI (idx46 s) from idx_one c1)) (by kernel_rfl)
  · exact meets_run (fn := Tryz.f149) 0 (q1 ++ [rG [hhB 1 false, hhB 5 false], rG [hhB 1 true], rG [hhV 2 (jU 46), hhM 3 (indexByte_meets s)]]) [{}] Tryz.func149 (by kernel_rfl) Tryz.call149
      (oA o1 <| oA (oS (eqF c1)) <| oA (oS (show AV.bool ((1 : Int) == 1) = jB true from boolE (by decide))) <| oA (oS (show 0 ≤ (0 : Int) from by decide)) <| oA (oS (show Option.map (fun c : UInt8 => (c.toNat : Int)) ([46])[Int.toNat (0 : Int)]? = some 46 from rfl)) <| oC (indexByte_meets s) rfl)
      (oS (@rfl _ (jI (idx46 s)))) (by kernel_rfl)

theorem cut0_meets (s : List UInt8) (hs : s.length < 1000000) : Meets Tryz.prog 141 [jS s, jS [46]] [] (jT [jS (if 0 ≤ idx46 s then s.take (idx46 s).toNat else s), jS (if 0 ≤ idx46 s then s.drop ((idx46 s).toNat + 1) else []), jB (decide (0 ≤ idx46 s))]) [] := by
  have hg := idx46_ge s
  have hlt := idx46_lt s
  let q1 : List Orc := [rG [], rG [hhM 2 (index_meets s)]]
  by_cases c1 : (idx46 s) ≥ 0
  · exact meets_run (fn := Tryz.f141) 0 (q1 ++ [rG [hhB 1 true], rG [hhV 2 (jS (s.take (idx46 s).toNat)), hhI 6 1, hhI 7 ((idx46 s) + 1), hhV 8 (jS (s.drop ((idx46 s).toNat + 1)))]]) [{}, {}, {}] Tryz.func141 (by kernel_rfl) Tryz.call141
      (oA (oC (index_meets s) rfl) <| oA (oS (bT c1)) <| oA (oS (show 0 ≤ ((idx46 s) : Int) from by omega)) <| oA (oS (show (0 : Nat) ≤ (Int.toNat ((idx46 s))) from by omega)) <| oA (oS (show ((Int.toNat ((idx46 s))) : Nat) ≤ s.length from by omega)) <| oA (oS (show (s.length : Nat) ≤ s.length from by omega)) <| oA (oS (show AV.str (List.take ((Int.toNat ((idx46 s))) - 0) (List.drop 0 s)) = jS (s.take (idx46 s).toNat) from strE (by simp))) <| oA (oS (show AV.int .i64 (List.length ([46] : List UInt8)) = jI 1 from rfl)) <| oA (oWs ((idx46 s) + 1) (by omega)) <| oA (oS (show 0 ≤ (((idx46 s) + 1) : Int) from by omega)) <| oA (oS (show ((Int.toNat (((idx46 s) + 1))) : Nat) ≤ s.length from by omega)) <| oA (oS (show (s.length : Nat) ≤ s.length from by omega)) <| oA (oS (show (s.length : Nat) ≤ s.length from by omega)) <| oS (show AV.str (List.take (s.length - (Int.toNat (((idx46 s) + 1)))) (List.drop (Int.toNat (((idx46 s) + 1))) s)) = jS (s.drop ((idx46 s).toNat + 1)) from strE (by rw [List.take_of_length_le (by simp <;> omega)]; congr 1; omega)))
      (oA (oS (show jT [jS (s.take (idx46 s).toNat), jS (s.drop ((idx46 s).toNat + 1)), jB true] = jT [jS (if 0 ≤ idx46 s then s.take (idx46 s).toNat else s), jS (if 0 ≤ idx46 s then s.drop ((idx46 s).toNat + 1) else []), jB (decide (0 ≤ idx46 s))] from by simp [*])) <| oV (D := (fun n => decide (0 ≤ n))) (jT [jS (if 0 ≤ idx46 s then s.take (idx46 s).toNat else s), jS (if 0 ≤ idx46 s then s.drop ((idx46 s).toNat + 1) else []), jB (decide (0 ≤ idx46 s))]) rfl) (by kernel_rfl)
  · exact meets_run (fn := Tryz.f141) 0 (q1 ++ [rG [hhB 1 false], rG []]) [{}, {}, {}] Tryz.func141 (by kernel_rfl) Tryz.call141
      (oA (oC (index_meets s) rfl) <| oS (bF c1))
      (oA (oS (show jT [jS s, jS [], jB false] = jT [jS (if 0 ≤ idx46 s then s.take (idx46 s).toNat else s), jS (if 0 ≤ idx46 s then s.drop ((idx46 s).toNat + 1) else []), jB (decide (0 ≤ idx46 s))] from by simp [*])) <| oV (D := (fun n => decide (0 ≤ n))) (jT [jS (if 0 ≤ idx46 s then s.take (idx46 s).toNat else s), jS (if 0 ≤ idx46 s then s.drop ((idx46 s).toNat + 1) else []), jB (decide (0 ≤ idx46 s))]) rfl) (by kernel_rfl)

theorem cut_meets (s : List UInt8) (hs : s.length < 1000000) : Meets Tryz.prog 124 [jS s, jS [46]] [] (jT [jS (if 0 ≤ idx46 s then s.take (idx46 s).toNat else s), jS (if 0 ≤ idx46 s then s.drop ((idx46 s).toNat + 1) else []), jB (decide (0 ≤ idx46 s))]) [] := by
  exact meets_run (fn := Tryz.f124) 0 [rG [], rG [hhM 2 (cut0_meets s hs)]] [{}, {}, {}] Tryz.func124 (by kernel_rfl) Tryz.call124
    (oC (cut0_meets s hs) rfl)
    (oA (oS (@rfl _ (jT [jS (if 0 ≤ idx46 s then s.take (idx46 s).toNat else s), jS (if 0 ≤ idx46 s then s.drop ((idx46 s).toNat + 1) else []), jB (decide (0 ≤ idx46 s))]))) <| oV (D := (fun n => decide (0 ≤ n))) (jT [jS (if 0 ≤ idx46 s then s.take (idx46 s).toNat else s), jS (if 0 ≤ idx46 s then s.drop ((idx46 s).toNat + 1) else []), jB (decide (0 ≤ idx46 s))]) rfl) (by kernel_rfl)

theorem hasPrefix_meets (s : List UInt8) : Meets Tryz.prog 94 [jS s, jS [45]] [] (jB (minusB s)) [] := by
  let q1 : List Orc := [rG []]
  by_cases c1 : ((s.length : Nat) : Int) ≥ 1
  · exact meets_run (fn := Tryz.f94) 0 (q1 ++ [rG [hhI 3 1, hhB 4 true, hhI 8 1, hhV 9 (jS ((List.drop 0 s).take (1 - 0)))]]) [{}] Tryz.func94 (by kernel_rfl) Tryz.call94
      (oA (oS (show AV.int .i64 (List.length ([45] : List UInt8)) = jI 1 from rfl)) <| oA (oS (bT c1)) <| oA (oS (show AV.int .i64 (List.length ([45] : List UInt8)) = jI 1 from rfl)) <| oA (oS (show 0 ≤ (1 : Int) from by omega)) <| oA (oS (show (0 : Nat) ≤ (Int.toNat (1 : Int)) from by omega)) <| oA (oS (show ((Int.toNat (1 : Int)) : Nat) ≤ s.length from by omega)) <| oA (oS (show (s.length : Nat) ≤ s.length from by omega)) <| oS (show AV.str (List.take ((Int.toNat (1 : Int)) - 0) (List.drop 0 s)) = jS ((List.drop 0 s).take (1 - 0)) from strE (by simp)))
      (oS (show jB (((List.drop 0 s).take (1 - 0)) == [45]) = jB (minusB s) from has_long c1)) (by kernel_rfl)
  · exact meets_run (fn := Tryz.f94) 0 (q1 ++ [rG [hhI 3 1, hhB 4 false]]) [{}] Tryz.func94 (by kernel_rfl) Tryz.call94
      (oA (oS (show AV.int .i64 (List.length ([45] : List UInt8)) = jI 1 from rfl)) <| oS (bF c1))
      (oS (show jB false = jB (minusB s) from has_short c1)) (by kernel_rfl)

theorem cutPrefix0_meets (s : List UInt8) : Meets Tryz.prog 140 [jS s, jS [45]] [] (jT [jS (if minusB s = true then s.drop 1 else s), jB (minusB s)]) [] := by
  by_cases c1 : minusB s = true
  · have hp := minus_pos c1
    exact meets_run (fn := Tryz.f140) 0 [rG [], rG [hhMB 2 (hasPrefix_meets s) true, hhB 3 false], rG [hhI 2 1, hhV 3 (jS (s.drop 1))]] [{}, {}] Tryz.func140 (by kernel_rfl) Tryz.call140
      (oA (oC (hasPrefix_meets s) rfl) <| oA (oS (boolT c1)) <| oA (oS (show AV.bool (!true) = jB false from rfl)) <| oA (oS (show AV.int .i64 (List.length ([45] : List UInt8)) = jI 1 from rfl)) <| oA (oS (show 0 ≤ (1 : Int) from by omega)) <| oA (oS (show ((Int.toNat (1 : Int)) : Nat) ≤ s.length from by omega)) <| oA (oS (show (s.length : Nat) ≤ s.length from by omega)) <| oA (oS (show (s.length : Nat) ≤ s.length from by omega)) <| oS (show AV.str (List.take (s.length - (Int.toNat (1 : Int))) (List.drop (Int.toNat (1 : Int)) s)) = jS (s.drop 1) from strE (by rw [List.take_of_length_le (by simp)]; rfl)))
      (oA (oS (show jT [jS (s.drop 1), jB true] = jT [jS (if minusB s = true then s.drop 1 else s), jB (minusB s)] from by simp [*])) <| oV (D := (fun n => decide (0 ≤ n))) (jT [jS (if minusB s = true then s.drop 1 else s), jB (minusB s)]) rfl) (by kernel_rfl)
  · exact meets_run (fn := Tryz.f140) 0 [rG [], rG [hhMB 2 (hasPrefix_meets s) false, hhB 3 true], rG []] [{}, {}] Tryz.func140 (by kernel_rfl) Tryz.call140
      (oA (oC (hasPrefix_meets s) rfl) <| oA (oS (boolF c1)) <| oS (show AV.bool (!false) = jB true from rfl))
      (oA (oS (show jT [jS s, jB false] = jT [jS (if minusB s = true then s.drop 1 else s), jB (minusB s)] from by simp [*])) <| oV (D := (fun n => decide (0 ≤ n))) (jT [jS (if minusB s = true then s.drop 1 else s), jB (minusB s)]) rfl) (by kernel_rfl)

theorem cutPrefix_meets (s : List UInt8) : Meets Tryz.prog 123 [jS s, jS [45]] [] (jT [jS (if minusB s = true then s.drop 1 else s), jB (minusB s)]) [] := by
  exact meets_run (fn := Tryz.f123) 0 [rG [], rG [hhM 2 (cutPrefix0_meets s)]] [{}, {}] Tryz.func123 (by kernel_rfl) Tryz.call123
    (oC (cutPrefix0_meets s) rfl)
    (oA (oS (@rfl _ (jT [jS (if minusB s = true then s.drop 1 else s), jB (minusB s)]))) <| oV (D := (fun n => decide (0 ≤ n))) (jT [jS (if minusB s = true then s.drop 1 else s), jB (minusB s)]) rfl) (by kernel_rfl)

end Go.Proofs.YtdomenmfkbfakaaGreatDoor.Dq


set_option linter.unusedVariables false
set_option linter.unusedSimpArgs false
set_option maxRecDepth 20000
namespace Go.Proofs.YtdomenmfkbfakaaGreatDoor.Dq
open Go Sx Dc

theorem getD_mem {s : List UInt8} {k : Nat} (h : k < s.length) : s.getD k 0 ∈ s := by
  have : s.getD k 0 = s[k] := by simp [List.getD, h]
  rw [this]; exact List.getElem_mem h

def digs_inv (s : List UInt8) (k : Nat) : AState :=
  ⟨([none, none, sB false, none, none, none, none, none, none, none, none, none, none, some (AV.vec 0 s.length), sI ((s.length : Nat) : Int), sI ((k : Nat) : Int)] ++ nn 10), [some (AObj.vec (u8s s) 5 1)]⟩

theorem digs_round (s : List UInt8) (k : Nat) (hs : s.length < 1000000) (h1 : k < s.length) (hd : okDig (s.getD k 0)) : Tri Tryz.prog (loopN (bodyOf Tryz.f125) 0) (digs_inv s k) .normal (digs_inv s (k + 1)) := by
  unfold okDig at hd
  exact tri_weak [rG [hhB 0 true], rG [hhV 0 (jP 0 k), hhV 1 (jU (((s.getD k 0).toNat : Nat) : Int))], rG [hhB 1 false, hhB 4 false], rG [hhI 0 ((k + 1 : Nat) : Int)]]
    (oA (oS (show AV.bool (decide (((k : Nat) : Int) < ((s.length : Nat) : Int))) = jB true from bT (by omega))) <| oA (oS (show 0 ≤ ((k : Nat) : Int) from by omega)) <| oA (oS (show ((k : Nat) : Int) < ((s.length : Nat) : Int) from by omega)) <| oA (oS (show AV.ptr 0 (Int.toNat ((k : Nat) : Int) * 1) = jP 0 k from ptrE (by omega))) <| oA (oLf (u8s s) (k) (jU (((s.getD k 0).toNat : Nat) : Int)) (u8s_get (by omega))) <| oA (oS (show AV.bool (decide ((((s.getD k 0).toNat : Nat) : Int) < 48)) = jB false from bF (by omega))) <| oA (oS (show AV.bool (decide ((((s.getD k 0).toNat : Nat) : Int) > 57)) = jB false from bF (by omega))) <| oW (((k : Nat) : Int) + 1) ((k + 1 : Nat) : Int) (by omega))
    (oA (oR [jB false, AV.vec 0 s.length, jI ((s.length : Nat) : Int), jI ((k + 1 : Nat) : Int)]) <| oQ [AObj.vec (u8s s) 5 1]) (by kernel_rfl)

def digs_ret (s : List UInt8) : AState :=
  ⟨([none, none, sB false] ++ nn 23), [some (AObj.vec (u8s s) 5 1)]⟩

theorem digs_bad (s : List UInt8) (k : Nat) (hs : s.length < 1000000) (h1 : k < s.length) (hd : ¬ okDig (s.getD k 0)) : Tri Tryz.prog (loopN (bodyOf Tryz.f125) 0) (digs_inv s k) .ret (digs_ret s) := by
  unfold okDig at hd
  have o1 := oA (oS (show AV.bool (decide (((k : Nat) : Int) < ((s.length : Nat) : Int))) = jB true from bT (by omega))) <| oA (oS (show 0 ≤ ((k : Nat) : Int) from by omega)) <| oA (oS (show ((k : Nat) : Int) < ((s.length : Nat) : Int) from by omega)) <| oA (oS (show AV.ptr 0 (Int.toNat ((k : Nat) : Int) * 1) = jP 0 k from ptrE (by omega))) <| oLf (u8s s) (k) (jU (((s.getD k 0).toNat : Nat) : Int)) (u8s_get (by omega))
  let q1 : List Orc := [rG [hhB 0 true], rG [hhV 0 (jP 0 k), hhV 1 (jU (((s.getD k 0).toNat : Nat) : Int))]]
  by_cases c2 : (((s.getD k 0).toNat : Nat) : Int) < 48
  · exact tri_weak (q1 ++ [rG [hhB 1 true], rG []])
      (oA o1 <| oS (bT c2))
      (oA (oR [jB false]) <| oQ [AObj.vec (u8s s) 5 1]) (by kernel_rfl)
  · by_cases c3 : (((s.getD k 0).toNat : Nat) : Int) > 57
    · exact tri_weak (q1 ++ [rG [hhB 1 false, hhB 4 true], rG []])
        (oA o1 <| oA (oS (bF c2)) <| oS (bT c3))
        (oA (oR [jB false]) <| oQ [AObj.vec (u8s s) 5 1]) (by kernel_rfl)
    · omega

def digs_out (s : List UInt8) : AState :=
  ⟨([none] ++ nn 25), [some (AObj.vec (u8s s) 5 1)]⟩

theorem digs_last (s : List UInt8) (hs : s.length < 1000000) : Tri Tryz.prog (loopN (bodyOf Tryz.f125) 0) (digs_inv s s.length) (.exit 0) (digs_out s) := by
  exact tri_weak [rG [hhB 0 false]]
    (oS (show AV.bool (decide (((s.length : Nat) : Int) < ((s.length : Nat) : Int))) = jB false from bF (by omega)))
    (oQ [AObj.vec (u8s s) 5 1]) (by kernel_rfl)

theorem digs_loop_ok (s : List UInt8) (hs : s.length < 1000000) (h : ∀ b ∈ s, okDig b) : Tri Tryz.prog (.loop (loopN (bodyOf Tryz.f125) 0)) (digs_inv s 0) (.exit 0) (digs_out s) :=
  tri_up (digs_inv s) (ne_normal_exit 0) s.length (fun k hk => digs_round s k hs hk (h _ (getD_mem hk))) (digs_last s hs) 0 (Nat.zero_le _)
theorem digs_loop_bad (s : List UInt8) (hs : s.length < 1000000) (h : ¬ ∀ b ∈ s, okDig b) : Tri Tryz.prog (.loop (loopN (bodyOf Tryz.f125) 0)) (digs_inv s 0) .ret (digs_ret s) :=
  tri_loop (ι := {k : Nat // k ≤ s.length ∧ ∀ j, j < k → okDig (s.getD j 0)}) (fun i => digs_inv s i.1) (fun i => s.length - i.1) ne_normal_ret (by
    rintro ⟨k, hk, hall⟩
    have h0 : k < s.length := by
      rcases Nat.lt_or_ge k s.length with g | g
      · exact g
      · exfalso
        apply h
        intro b hb
        obtain ⟨j, hj, rfl⟩ := List.getElem_of_mem hb
        have := hall j (by omega)
        simpa [List.getD, hj] using this
    by_cases hc : okDig (s.getD k 0)
    · refine .inl ⟨⟨k + 1, by omega, fun j hj => ?_⟩, by show s.length - (k + 1) < s.length - k; omega, digs_round s k hs h0 hc⟩
      by_cases e : j = k
      · subst e; exact hc
      · exact hall j (by omega)
    · exact .inr (digs_bad s k hs h0 hc)) ⟨0, Nat.zero_le _, fun j hj => by omega⟩

theorem areDigits_meets (s : List UInt8) (hs : s.length < 1000000) : Meets Tryz.prog 125 [jS s] [] (jB (isDigs s)) [] := by
  let q1 : List Orc := [rG []]
  by_cases c1 : s = []
  · exact meets_run (fn := Tryz.f125) 1 (q1 ++ [rG [hhB 1 true], rG []]) [{}] Tryz.func125 (by kernel_rfl) Tryz.call125
      (oS (eqT c1))
      (oS (show jB false = jB (isDigs s) from boolE (by first | (simp only [isDigs]; symm; simp only [decide_eq_false_iff_not, decide_eq_true_eq]; rintro ⟨g1, g2, g3⟩; first | exact g1 c1 | omega | exact c3 g3) | (simp only [isDigs]; symm; simp only [decide_eq_true_eq]; exact ⟨c1, by omega, c3⟩)))) (by kernel_rfl)
  · by_cases c2 : ((s.length : Nat) : Int) > 40
    · exact meets_run (fn := Tryz.f125) 1 (q1 ++ [rG [hhB 1 false, hhB 5 true], rG []]) [{}] Tryz.func125 (by kernel_rfl) Tryz.call125
        (oA (oS (eqF c1)) <| oS (bT c2))
        (oS (show jB false = jB (isDigs s) from boolE (by first | (simp only [isDigs]; symm; simp only [decide_eq_false_iff_not, decide_eq_true_eq]; rintro ⟨g1, g2, g3⟩; first | exact g1 c1 | omega | exact c3 g3) | (simp only [isDigs]; symm; simp only [decide_eq_true_eq]; exact ⟨c1, by omega, c3⟩)))) (by kernel_rfl)
    · have o1 := oA (oS (eqF c1)) <| oS (bF c2)
      let q2 : List Orc := [rG [hhB 1 false, hhB 5 false], rG [hhN 1 0]]
      by_cases c3 : ∀ b ∈ s, okDig b
      · exact meets_run (fn := Tryz.f125) 1 (q1 ++ (q2 ++ [.loop (⟨([none, none, sB false, none, none, none, none, none, none, none, none, none, none, some (AV.vec 0 s.length), sI ((s.length : Nat) : Int), sI 0] ++ nn 10), [some (AObj.vec (u8s s) 5 1)]⟩) (.exit 0) (⟨([none] ++ nn 25), [some (AObj.vec (u8s s) 5 1)]⟩), rG []])) [{}] Tryz.func125 (by kernel_rfl) Tryz.call125
          (oA o1 <| oA (oR [jB false, AV.vec 0 s.length, jI ((s.length : Nat) : Int), jI 0]) <| oA (oQ [AObj.vec (u8s s) 5 1]) <| oS (show Tri Tryz.prog (.loop (loopN (bodyOf Tryz.f125) 0)) (⟨([none, none, sB false, none, none, none, none, none, none, none, none, none, none, some (AV.vec 0 s.length), sI ((s.length : Nat) : Int), sI 0] ++ nn 10), [some (AObj.vec (u8s s) 5 1)]⟩) (.exit 0) (⟨([none] ++ nn 25), [some (AObj.vec (u8s s) 5 1)]⟩) from digs_loop_ok s hs c3))
          (oS (show jB true = jB (isDigs s) from boolE (by first | (simp only [isDigs]; symm; simp only [decide_eq_false_iff_not, decide_eq_true_eq]; rintro ⟨g1, g2, g3⟩; first | exact g1 c1 | omega | exact c3 g3) | (simp only [isDigs]; symm; simp only [decide_eq_true_eq]; exact ⟨c1, by omega, c3⟩)))) (by kernel_rfl)
      · exact meets_run (fn := Tryz.f125) 1 (q1 ++ (q2 ++ [.loop (⟨([none, none, sB false, none, none, none, none, none, none, none, none, none, none, some (AV.vec 0 s.length), sI ((s.length : Nat) : Int), sI 0] ++ nn 10), [some (AObj.vec (u8s s) 5 1)]⟩) .ret (⟨([none, none, sB false] ++ nn 23), [some (AObj.vec (u8s s) 5 1)]⟩)])) [{}] Tryz.func125 (by kernel_rfl) Tryz.call125
          (oA o1 <| oA (oR [jB false, AV.vec 0 s.length, jI ((s.length : Nat) : Int), jI 0]) <| oA (oQ [AObj.vec (u8s s) 5 1]) <| oS (show Tri Tryz.prog (.loop (loopN (bodyOf Tryz.f125) 0)) (⟨([none, none, sB false, none, none, none, none, none, none, none, none, none, none, some (AV.vec 0 s.length), sI ((s.length : Nat) : Int), sI 0] ++ nn 10), [some (AObj.vec (u8s s) 5 1)]⟩) .ret (⟨([none, none, sB false] ++ nn 23), [some (AObj.vec (u8s s) 5 1)]⟩) from digs_loop_bad s hs c3))
          (oS (show jB false = jB (isDigs s) from boolE (by first | (simp only [isDigs]; symm; simp only [decide_eq_false_iff_not, decide_eq_true_eq]; rintro ⟨g1, g2, g3⟩; first | exact g1 c1 | omega | exact c3 g3) | (simp only [isDigs]; symm; simp only [decide_eq_true_eq]; exact ⟨c1, by omega, c3⟩)))) (by kernel_rfl)

end Go.Proofs.YtdomenmfkbfakaaGreatDoor.Dq


set_option linter.unusedVariables false
set_option linter.unusedSimpArgs false
set_option maxRecDepth 20000
namespace Go.Proofs.YtdomenmfkbfakaaGreatDoor.Dq
open Go Sx Dc

/-- A text's figures: so many noughts, its digits, and noughts. -/
def wrA (w : List UInt8) (k : Nat) : List Int := List.replicate (48 - w.length) 0 ++ (bytesD (w.take k) ++ List.replicate (40 + w.length - k) 0)
def wrB (w p : List UInt8) (k : Nat) : List Int := List.replicate (48 - w.length) 0 ++ (bytesD w ++ (bytesD (p.take k) ++ List.replicate (40 - k) 0))
theorem bytesD_take_succ {s : List UInt8} {k : Nat} (h : k < s.length) : bytesD (s.take (k + 1)) = bytesD (s.take k) ++ [((s.getD k 0).toNat : Int) - 48] := by
  unfold bytesD
  rw [List.take_succ_eq_append_getElem h, List.map_append]
  simp [List.getD, h]
theorem wrA_length {w : List UInt8} {k : Nat} (hw : w.length ≤ 40) (hk : k ≤ w.length) : (wrA w k).length = 88 := by
  simp only [wrA, List.length_append, List.length_replicate, bytesD_length, List.length_take]; omega
theorem wrB_length {w p : List UInt8} {k : Nat} (hw : w.length ≤ 40) (hp : p.length ≤ 40) (hk : k ≤ p.length) : (wrB w p k).length = 88 := by
  simp only [wrB, List.length_append, List.length_replicate, bytesD_length, List.length_take]; omega
theorem wrA_zero (w : List UInt8) (hw : w.length ≤ 40) : wrA w 0 = List.replicate 88 0 := by
  simp only [wrA, List.take_zero, bytesD, List.map_nil, List.nil_append, List.replicate_append_replicate]
  congr 1; omega
theorem wrA_end (w p : List UInt8) : wrA w w.length = wrB w p 0 := by
  simp only [wrA, wrB, List.take_zero, List.take_length, bytesD, List.map_nil, List.nil_append]
  congr 3; omega
theorem set_next {pre xs : List Int} {m : Nat} (i : Nat) (d : Int) (hi : i = pre.length + xs.length) : (pre ++ (xs ++ List.replicate (m + 1) 0)).set i d = pre ++ ((xs ++ [d]) ++ List.replicate m 0) := by
  subst hi
  rw [List.set_append_right _ _ (by omega), show pre.length + xs.length - pre.length = xs.length by omega, List.set_append_right _ _ (by omega), Nat.sub_self, List.replicate_succ, List.set_cons_zero]
  simp
theorem wrA_step {w : List UInt8} {k : Nat} (hw : w.length ≤ 40) (hk : k < w.length) : (wrA w k).set (48 - w.length + k) (((w.getD k 0).toNat : Int) - 48) = wrA w (k + 1) := by
  unfold wrA
  rw [bytesD_take_succ hk, show 40 + w.length - k = (40 + w.length - (k + 1)) + 1 by omega]
  exact set_next _ _ (by simp [bytesD_length]; omega)
theorem wrB_step {w p : List UInt8} {k : Nat} (hw : w.length ≤ 40) (hp : p.length ≤ 40) (hk : k < p.length) : (wrB w p k).set (48 + k) (((p.getD k 0).toNat : Int) - 48) = wrB w p (k + 1) := by
  unfold wrB
  rw [bytesD_take_succ hk, show 40 - k = (40 - (k + 1)) + 1 by omega, ← List.append_assoc, ← List.append_assoc (List.replicate (48 - w.length) 0) (bytesD w)]
  exact set_next _ _ (by simp [bytesD_length]; omega)
theorem wrB_digs {w p : List UInt8} (hw : w.length ≤ 40) (hp : p.length ≤ 40) (gw : ∀ b ∈ w, okDig b) (gp : ∀ b ∈ p, okDig b) : wrB w p p.length = digs 88 (wrV w p) := by
  refine eq_digs ?_ (wrB_length hw hp (Nat.le_refl _)) ?_
  · unfold wrB
    rw [List.take_length]
    exact (dig_zeros _).append ((bytesD_dig gw).append ((bytesD_dig gp).append (dig_zeros _)))
  · unfold wrB wrV
    rw [List.take_length, val_append, val_append, val_append, val_zeros, val_zeros]
    simp only [List.length_append, bytesD_length, List.length_replicate, show p.length + (40 - p.length) = 40 by omega]
    omega
attribute [irreducible] wrA wrB

def wr_i1 (mx : Bool) (w p : List UInt8) (ds : List Int) (k : Nat) : AState :=
  ⟨([none, none, sP 0 0, none, none, none, some (jS w), some (jS p), none, sP 1 0, none, none, none, none, none, none, none, none, none, none, none, none, none, none, none, none, none, none, none, none, none, none, none, none, none, none, none, none, none, none, some (AV.vec 2 w.length), sI ((w.length : Nat) : Int), sI ((k : Nat) : Int)] ++ nn 30), [some (jC ((jB false) :: (ints .u8 (List.replicate 88 0))) 96), some (jC ((jB mx) :: (ints .u8 ds)) 96), some (AObj.vec (u8s w) 5 1), none]⟩

theorem wr_r1 (mx : Bool) (w p : List UInt8) (ds : List Int) (k : Nat) (hl : ds.length = 88) (hw : w.length ≤ 40) (h1 : k < w.length) (hd : okDig (w.getD k 0)) : Tri Tryz.prog (loopN (bodyOf Tryz.f95) 0) (wr_i1 mx w p ds k) .normal (wr_i1 mx w p (ds.set (48 - w.length + k) ((((w.getD k 0).toNat : Nat) : Int) - 48)) (k + 1)) := by
  unfold okDig at hd
  exact tri_weak [rG [hhB 0 true], rG [hhV 1 (jP 2 k), hhV 2 (jU (((w.getD k 0).toNat : Nat) : Int))], rG [hhI 2 (((48 - w.length) : Nat) : Int), hhI 4 (((48 - w.length + k) : Nat) : Int), hhV 6 (jU ((((w.getD k 0).toNat : Nat) : Int) - 48)), hhV 8 (jP 1 ((48 - w.length + k) + 1)), (9, {obj := some [jC ((jB mx) :: (ints .u8 (ds.set (48 - w.length + k) ((((w.getD k 0).toNat : Nat) : Int) - 48)))) 96]})], rG [hhI 0 ((k + 1 : Nat) : Int)]]
    (oA (oS (show AV.bool (decide (((k : Nat) : Int) < ((w.length : Nat) : Int))) = jB true from bT (by omega))) <| oA (oS (show 0 ≤ ((k : Nat) : Int) from by omega)) <| oA (oS (show ((k : Nat) : Int) < ((w.length : Nat) : Int) from by omega)) <| oA (oS (show AV.ptr 2 (Int.toNat ((k : Nat) : Int) * 1) = jP 2 k from ptrE (by omega))) <| oA (oLf (u8s w) (k) (jU (((w.getD k 0).toNat : Nat) : Int)) (u8s_get (by omega))) <| oA (oW (48 - ((w.length : Nat) : Int)) (((48 - w.length) : Nat) : Int) (by omega)) <| oA (oW ((((48 - w.length) : Nat) : Int) + ((k : Nat) : Int)) (((48 - w.length + k) : Nat) : Int) (by omega)) <| oA (oS (show AV.int .u8 (IntKind.u8.wrap ((((w.getD k 0).toNat : Nat) : Int) - 48)) = jU ((((w.getD k 0).toNat : Nat) : Int) - 48) from w_u8 (by omega))) <| oA (oS (show 0 ≤ (((48 - w.length + k) : Nat) : Int) from by omega)) <| oA (oS (show (((48 - w.length + k) : Nat) : Int) < ((88 : Nat) : Int) from by omega)) <| oA (oS (show AV.ptr 1 (1 + Int.toNat (((48 - w.length + k) : Nat) : Int) * 1) = jP 1 ((48 - w.length + k) + 1) from ptrE (by omega))) <| oA (oS (show ([jU ((((w.getD k 0).toNat : Nat) : Int) - 48)] : List AV).length = 1 from rfl)) <| oA (oS (show ((48 - w.length + k) + 1) + 1 ≤ List.length ((jB mx) :: (ints .u8 ds)) from lnO)) <| oA (oS (show AObj.cells (List.take ((48 - w.length + k) + 1) ((jB mx) :: (ints .u8 ds)) ++ [jU ((((w.getD k 0).toNat : Nat) : Int) - 48)] ++ List.drop (((48 - w.length + k) + 1) + 1) ((jB mx) :: (ints .u8 ds))) 96 = jC ((jB mx) :: (ints .u8 (ds.set (48 - w.length + k) ((((w.getD k 0).toNat : Nat) : Int) - 48)))) 96 from store_ints [jB mx] (by omega))) <| oW (((k : Nat) : Int) + 1) ((k + 1 : Nat) : Int) (by omega))
    (oA (oR [jP 0 0, jS w, jS p, jP 1 0, AV.vec 2 w.length, jI ((w.length : Nat) : Int), jI ((k + 1 : Nat) : Int)]) <| oQ [jC ((jB false) :: (ints .u8 (List.replicate 88 0))) 96, jC ((jB mx) :: (ints .u8 (ds.set (48 - w.length + k) ((((w.getD k 0).toNat : Nat) : Int) - 48)))) 96, AObj.vec (u8s w) 5 1]) (by kernel_rfl)

def wr_o1 (mx : Bool) (w p : List UInt8) (ds : List Int) : AState :=
  ⟨([none, none, sP 0 0, none, none, none, some (jS w), some (jS p), none, sP 1 0] ++ nn 63), [some (jC ((jB false) :: (ints .u8 (List.replicate 88 0))) 96), some (jC ((jB mx) :: (ints .u8 ds)) 96), some (AObj.vec (u8s w) 5 1), none]⟩

theorem wr_x1 (mx : Bool) (w p : List UInt8) (ds : List Int) (hw : w.length ≤ 40) : Tri Tryz.prog (loopN (bodyOf Tryz.f95) 0) (wr_i1 mx w p ds w.length) (.exit 0) (wr_o1 mx w p ds) := by
  exact tri_weak [rG [hhB 0 false]]
    (oS (show AV.bool (decide (((w.length : Nat) : Int) < ((w.length : Nat) : Int))) = jB false from bF (by omega)))
    (oA (oR [jP 0 0, jS w, jS p, jP 1 0]) <| oQ [jC ((jB false) :: (ints .u8 (List.replicate 88 0))) 96, jC ((jB mx) :: (ints .u8 ds)) 96, AObj.vec (u8s w) 5 1]) (by kernel_rfl)

def wr_i2 (mx : Bool) (w p : List UInt8) (ds : List Int) (k : Nat) : AState :=
  ⟨([none, none, sP 0 0, none, none, none, none, none, none, sP 1 0, none, none, none, none, none, none, none, none, none, none, none, none, none, none, none, none, none, none, none, none, none, none, none, none, none, none, none, none, none, none, none, none, none, none, none, none, none, none, none, none, none, none, none, none, none, none, none, none, some (AV.vec 3 p.length), sI ((p.length : Nat) : Int), sI ((k : Nat) : Int)] ++ nn 12), [some (jC ((jB false) :: (ints .u8 (List.replicate 88 0))) 96), some (jC ((jB mx) :: (ints .u8 ds)) 96), some (AObj.vec (u8s w) 5 1), some (AObj.vec (u8s p) 5 1)]⟩

theorem wr_r2 (mx : Bool) (w p : List UInt8) (ds : List Int) (k : Nat) (hl : ds.length = 88) (hp : p.length ≤ 40) (h1 : k < p.length) (hd : okDig (p.getD k 0)) : Tri Tryz.prog (loopN (bodyOf Tryz.f95) 1) (wr_i2 mx w p ds k) .normal (wr_i2 mx w p (ds.set (48 + k) ((((p.getD k 0).toNat : Nat) : Int) - 48)) (k + 1)) := by
  unfold okDig at hd
  exact tri_weak [rG [hhB 0 true], rG [hhV 1 (jP 3 k), hhV 2 (jU (((p.getD k 0).toNat : Nat) : Int))], rG [hhI 1 (((48 + k) : Nat) : Int), hhV 3 (jU ((((p.getD k 0).toNat : Nat) : Int) - 48)), hhV 5 (jP 1 ((48 + k) + 1)), (6, {obj := some [jC ((jB mx) :: (ints .u8 (ds.set (48 + k) ((((p.getD k 0).toNat : Nat) : Int) - 48)))) 96]})], rG [hhI 0 ((k + 1 : Nat) : Int)]]
    (oA (oS (show AV.bool (decide (((k : Nat) : Int) < ((p.length : Nat) : Int))) = jB true from bT (by omega))) <| oA (oS (show 0 ≤ ((k : Nat) : Int) from by omega)) <| oA (oS (show ((k : Nat) : Int) < ((p.length : Nat) : Int) from by omega)) <| oA (oS (show AV.ptr 3 (Int.toNat ((k : Nat) : Int) * 1) = jP 3 k from ptrE (by omega))) <| oA (oLf (u8s p) (k) (jU (((p.getD k 0).toNat : Nat) : Int)) (u8s_get (by omega))) <| oA (oW (48 + ((k : Nat) : Int)) (((48 + k) : Nat) : Int) (by omega)) <| oA (oS (show AV.int .u8 (IntKind.u8.wrap ((((p.getD k 0).toNat : Nat) : Int) - 48)) = jU ((((p.getD k 0).toNat : Nat) : Int) - 48) from w_u8 (by omega))) <| oA (oS (show 0 ≤ (((48 + k) : Nat) : Int) from by omega)) <| oA (oS (show (((48 + k) : Nat) : Int) < ((88 : Nat) : Int) from by omega)) <| oA (oS (show AV.ptr 1 (1 + Int.toNat (((48 + k) : Nat) : Int) * 1) = jP 1 ((48 + k) + 1) from ptrE (by omega))) <| oA (oS (show ([jU ((((p.getD k 0).toNat : Nat) : Int) - 48)] : List AV).length = 1 from rfl)) <| oA (oS (show ((48 + k) + 1) + 1 ≤ List.length ((jB mx) :: (ints .u8 ds)) from lnO)) <| oA (oS (show AObj.cells (List.take ((48 + k) + 1) ((jB mx) :: (ints .u8 ds)) ++ [jU ((((p.getD k 0).toNat : Nat) : Int) - 48)] ++ List.drop (((48 + k) + 1) + 1) ((jB mx) :: (ints .u8 ds))) 96 = jC ((jB mx) :: (ints .u8 (ds.set (48 + k) ((((p.getD k 0).toNat : Nat) : Int) - 48)))) 96 from store_ints [jB mx] (by omega))) <| oW (((k : Nat) : Int) + 1) ((k + 1 : Nat) : Int) (by omega))
    (oA (oR [jP 0 0, jP 1 0, AV.vec 3 p.length, jI ((p.length : Nat) : Int), jI ((k + 1 : Nat) : Int)]) <| oQ [jC ((jB false) :: (ints .u8 (List.replicate 88 0))) 96, jC ((jB mx) :: (ints .u8 (ds.set (48 + k) ((((p.getD k 0).toNat : Nat) : Int) - 48)))) 96, AObj.vec (u8s w) 5 1, AObj.vec (u8s p) 5 1]) (by kernel_rfl)

def wr_o2 (mx : Bool) (w p : List UInt8) (ds : List Int) : AState :=
  ⟨([none, none, sP 0 0, none, none, none, none, none, none, sP 1 0] ++ nn 63), [some (jC ((jB false) :: (ints .u8 (List.replicate 88 0))) 96), some (jC ((jB mx) :: (ints .u8 ds)) 96), some (AObj.vec (u8s w) 5 1), some (AObj.vec (u8s p) 5 1)]⟩

theorem wr_x2 (mx : Bool) (w p : List UInt8) (ds : List Int) (hp : p.length ≤ 40) : Tri Tryz.prog (loopN (bodyOf Tryz.f95) 1) (wr_i2 mx w p ds p.length) (.exit 2) (wr_o2 mx w p ds) := by
  exact tri_weak [rG [hhB 0 false]]
    (oS (show AV.bool (decide (((p.length : Nat) : Int) < ((p.length : Nat) : Int))) = jB false from bF (by omega)))
    (oA (oR [jP 0 0, jP 1 0]) <| oQ [jC ((jB false) :: (ints .u8 (List.replicate 88 0))) 96, jC ((jB mx) :: (ints .u8 ds)) 96, AObj.vec (u8s w) 5 1, AObj.vec (u8s p) 5 1]) (by kernel_rfl)

theorem wr_l1 (mx : Bool) (w p : List UInt8) (hw : w.length ≤ 40) (gw : ∀ b ∈ w, okDig b) : Tri Tryz.prog (.loop (loopN (bodyOf Tryz.f95) 0)) (wr_i1 mx w p (wrA w 0) 0) (.exit 0) (wr_o1 mx w p (wrA w w.length)) :=
  tri_up (fun k => wr_i1 mx w p (wrA w k) k) (ne_normal_exit 0) w.length (fun k hk => by
    have h := wr_r1 mx w p (wrA w k) k (wrA_length hw (by omega)) hw hk (gw _ (getD_mem hk))
    rw [wrA_step hw hk] at h
    exact h) (wr_x1 mx w p _ hw) 0 (Nat.zero_le _)
theorem wr_l2 (mx : Bool) (w p : List UInt8) (hw : w.length ≤ 40) (hp : p.length ≤ 40) (gp : ∀ b ∈ p, okDig b) : Tri Tryz.prog (.loop (loopN (bodyOf Tryz.f95) 1)) (wr_i2 mx w p (wrB w p 0) 0) (.exit 2) (wr_o2 mx w p (wrB w p p.length)) :=
  tri_up (fun k => wr_i2 mx w p (wrB w p k) k) (ne_normal_exit 2) p.length (fun k hk => by
    have h := wr_r2 mx w p (wrB w p k) k (wrB_length hw hp (by omega)) hp hk (gp _ (getD_mem hk))
    rw [wrB_step hw hp hk] at h
    exact h) (wr_x2 mx w p _ hp) 0 (Nat.zero_le _)
theorem isDigs_spec {s : List UInt8} (h : isDigs s = true) : s ≠ [] ∧ s.length ≤ 40 ∧ ∀ b ∈ s, okDig b := by simpa only [isDigs, decide_eq_true_eq] using h

theorem written_ok (s b w p : List UInt8) (mx pt : Bool) (hs : s.length < 1000000) (hbl : b.length < 1000000) (hwn : w.length < 1000000) (hpn : p.length < 1000000) (hmx : minusB s = mx) (hb : bodyS s = b) (hw : wholeS b = w) (hp : partS b = p) (hpt : decide (0 ≤ idx46 b) = pt) (hpe : pt = false → p = []) (h1 : isDigs w = true) (h2 : pt = true → isDigs p = true) : Meets Tryz.prog 95 [jS s] [] (jT [jA ((jB mx) :: (ints .u8 (digs 88 (wrV w p)))), jB true]) [] := by
  have hwl := (isDigs_spec h1).2.1
  have gw := (isDigs_spec h1).2.2
  have gp : ∀ b ∈ p, okDig b := by
    cases hq : pt with
    | true => exact (isDigs_spec (h2 hq)).2.2
    | false => rw [hpe hq]; intro b hb; cases hb
  have hpl : p.length ≤ 40 := by
    cases hq : pt with
    | true => exact (isDigs_spec (h2 hq)).2.1
    | false => rw [hpe hq]; decide
  have e1 := wrB_digs hwl hpl gw gp
  have len1 := wrA_length hwl (Nat.le_refl _)
  have len2 := wrB_length hwl hpl (Nat.le_refl _)
  have o1 := oA (oS (show AObj.cells (zeroCellsA Tryz.prog 96) 96 = jC ((jB false) :: (ints .u8 (List.replicate 88 0))) 96 from by kernel_rfl)) <| oA (oC (cutPrefix_meets s) rfl) <| oS (show AV.ren [] (jT [jS (if minusB s = true then s.drop 1 else s), jB (minusB s)]) = jT [jS b, jB mx] from (by rw [← hb, ← hmx]; rfl))
  let q1 : List Orc := [rG [(0, {nm := [0], obj := some [jC ((jB false) :: (ints .u8 (List.replicate 88 0))) 96]})], rG [(1, {call := some ⟨[], [jS s, jS [45]], [], jT [jS (if minusB s = true then s.drop 1 else s), jB (minusB s)], []⟩, val := some (jT [jS b, jB mx])})]]
  by_cases c1 : pt = true
  · exact meets_run (fn := Tryz.f95) 4 (q1 ++ [rG [(1, {call := some ⟨[], [jS b, jS [46]], [], jT [jS (if 0 ≤ idx46 b then b.take (idx46 b).toNat else b), jS (if 0 ≤ idx46 b then b.drop ((idx46 b).toNat + 1) else []), jB (decide (0 ≤ idx46 b))], []⟩, val := some (jT [jS w, jS p, jB true])})], rG [hhMB 1 (areDigits_meets w (by omega)) true, hhB 2 false, hhMB 7 (areDigits_meets p (by omega)) true, hhB 8 false], rG [hhV 1 (jA ((jB mx) :: (ints .u8 (List.replicate 88 0)))), (2, {nm := [1], obj := some [jC ((jB false) :: (ints .u8 (List.replicate 88 0))) 96]}), (3, {obj := some [jC ((jB mx) :: (ints .u8 (List.replicate 88 0))) 96]})], rG [hhN 1 2], .loop (⟨([none, none, sP 0 0, none, none, none, some (jS w), some (jS p), none, sP 1 0, none, none, none, none, none, none, none, none, none, none, none, none, none, none, none, none, none, none, none, none, none, none, none, none, none, none, none, none, none, none, some (AV.vec 2 w.length), sI ((w.length : Nat) : Int), sI 0] ++ nn 30), [some (jC ((jB false) :: (ints .u8 (List.replicate 88 0))) 96), some (jC ((jB mx) :: (ints .u8 (wrA w 0))) 96), some (AObj.vec (u8s w) 5 1), none]⟩) (.exit 0) (⟨([none, none, sP 0 0, none, none, none, some (jS w), some (jS p), none, sP 1 0] ++ nn 63), [some (jC ((jB false) :: (ints .u8 (List.replicate 88 0))) 96), some (jC ((jB mx) :: (ints .u8 (wrA w w.length))) 96), some (AObj.vec (u8s w) 5 1), none]⟩), rG [hhN 1 3], .loop (⟨([none, none, sP 0 0, none, none, none, none, none, none, sP 1 0, none, none, none, none, none, none, none, none, none, none, none, none, none, none, none, none, none, none, none, none, none, none, none, none, none, none, none, none, none, none, none, none, none, none, none, none, none, none, none, none, none, none, none, none, none, none, none, none, some (AV.vec 3 p.length), sI ((p.length : Nat) : Int), sI 0] ++ nn 12), [some (jC ((jB false) :: (ints .u8 (List.replicate 88 0))) 96), some (jC ((jB mx) :: (ints .u8 (wrB w p 0))) 96), some (AObj.vec (u8s w) 5 1), some (AObj.vec (u8s p) 5 1)]⟩) (.exit 2) (⟨([none, none, sP 0 0, none, none, none, none, none, none, sP 1 0] ++ nn 63), [some (jC ((jB false) :: (ints .u8 (List.replicate 88 0))) 96), some (jC ((jB mx) :: (ints .u8 (wrB w p p.length))) 96), some (AObj.vec (u8s w) 5 1), some (AObj.vec (u8s p) 5 1)]⟩), rG [hhV 0 (jA ((jB mx) :: (ints .u8 (wrB w p p.length)))), (1, {obj := some [jC ((jB mx) :: (ints .u8 (wrB w p p.length))) 96]})]]) [{val := some (jA ((jB mx) :: (ints .u8 (wrB w p p.length))))}, {}] Tryz.func95 (by kernel_rfl) Tryz.call95
      (oA o1 <| oA (oC (cut_meets b hbl) rfl) <| oA (oS (show AV.ren [] (jT [jS (if 0 ≤ idx46 b then b.take (idx46 b).toNat else b), jS (if 0 ≤ idx46 b then b.drop ((idx46 b).toNat + 1) else []), jB (decide (0 ≤ idx46 b))]) = jT [jS w, jS p, jB true] from (by rw [show decide (0 ≤ idx46 b) = true by rw [hpt]; simpa using c1, ← hw, ← hp]; rfl))) <| oA (oC (areDigits_meets w (by omega)) rfl) <| oA (oS (boolT h1)) <| oA (oS (show AV.bool (!true) = jB false from rfl)) <| oA (oC (areDigits_meets p (by omega)) rfl) <| oA (oS (show AV.ren [] (jB (isDigs p)) = jB true from boolT (h2 c1))) <| oA (oS (show AV.bool (!true) = jB false from rfl)) <| oA (oS (show ([jB mx] : List AV).length = 1 from rfl)) <| oA (oS (show 0 + 1 ≤ ((zeroCellsA Tryz.prog 96) : List AV).length from Nat.le_of_ble_eq_true (by kernel_rfl))) <| oA (oS (show AV.agg (List.take 0 (zeroCellsA Tryz.prog 96) ++ [jB mx] ++ List.drop 1 (zeroCellsA Tryz.prog 96)) = jA ((jB mx) :: (ints .u8 (List.replicate 88 0))) from by kernel_rfl)) <| oA (oS (show AObj.cells (zeroCellsA Tryz.prog 96) 96 = jC ((jB false) :: (ints .u8 (List.replicate 88 0))) 96 from by kernel_rfl)) <| oA (oSw (n := 89) ((jB mx) :: (ints .u8 (List.replicate 88 0))) ((jB false) :: (ints .u8 (List.replicate 88 0))) 96 lnO lnO) <| oA (oR [jP 0 0, jS w, jS p, jP 1 0, AV.vec 2 w.length, jI ((w.length : Nat) : Int), jI 0]) <| oA (oQ [jC ((jB false) :: (ints .u8 (List.replicate 88 0))) 96]) <| oA (oS (show jC ((jB mx) :: (ints .u8 (List.replicate 88 0))) 96 = jC ((jB mx) :: (ints .u8 (wrA w 0))) 96 from by rw [wrA_zero w hwl])) <| oA (oQ [AObj.vec (u8s w) 5 1]) <| oA (oS (show Tri Tryz.prog (.loop (loopN (bodyOf Tryz.f95) 0)) (⟨([none, none, sP 0 0, none, none, none, some (jS w), some (jS p), none, sP 1 0, none, none, none, none, none, none, none, none, none, none, none, none, none, none, none, none, none, none, none, none, none, none, none, none, none, none, none, none, none, none, some (AV.vec 2 w.length), sI ((w.length : Nat) : Int), sI 0] ++ nn 30), [some (jC ((jB false) :: (ints .u8 (List.replicate 88 0))) 96), some (jC ((jB mx) :: (ints .u8 (wrA w 0))) 96), some (AObj.vec (u8s w) 5 1), none]⟩) (.exit 0) (⟨([none, none, sP 0 0, none, none, none, some (jS w), some (jS p), none, sP 1 0] ++ nn 63), [some (jC ((jB false) :: (ints .u8 (List.replicate 88 0))) 96), some (jC ((jB mx) :: (ints .u8 (wrA w w.length))) 96), some (AObj.vec (u8s w) 5 1), none]⟩) from wr_l1 mx w p hwl gw)) <| oA (oR [jP 0 0, jP 1 0, AV.vec 3 p.length, jI ((p.length : Nat) : Int), jI 0]) <| oA (oQ [jC ((jB false) :: (ints .u8 (List.replicate 88 0))) 96]) <| oA (oS (show jC ((jB mx) :: (ints .u8 (wrA w w.length))) 96 = jC ((jB mx) :: (ints .u8 (wrB w p 0))) 96 from by rw [wrA_end w p])) <| oA (oQ [AObj.vec (u8s w) 5 1, AObj.vec (u8s p) 5 1]) <| oA (oS (show Tri Tryz.prog (.loop (loopN (bodyOf Tryz.f95) 1)) (⟨([none, none, sP 0 0, none, none, none, none, none, none, sP 1 0, none, none, none, none, none, none, none, none, none, none, none, none, none, none, none, none, none, none, none, none, none, none, none, none, none, none, none, none, none, none, none, none, none, none, none, none, none, none, none, none, none, none, none, none, none, none, none, none, some (AV.vec 3 p.length), sI ((p.length : Nat) : Int), sI 0] ++ nn 12), [some (jC ((jB false) :: (ints .u8 (List.replicate 88 0))) 96), some (jC ((jB mx) :: (ints .u8 (wrB w p 0))) 96), some (AObj.vec (u8s w) 5 1), some (AObj.vec (u8s p) 5 1)]⟩) (.exit 2) (⟨([none, none, sP 0 0, none, none, none, none, none, none, sP 1 0] ++ nn 63), [some (jC ((jB false) :: (ints .u8 (List.replicate 88 0))) 96), some (jC ((jB mx) :: (ints .u8 (wrB w p p.length))) 96), some (AObj.vec (u8s w) 5 1), some (AObj.vec (u8s p) 5 1)]⟩) from wr_l2 mx w p hwl hpl gp)) <| oA (oLw (n := 89) ((jB mx) :: (ints .u8 (wrB w p p.length))) lnO) <| oSw (n := 89) ((jB mx) :: (ints .u8 (wrB w p p.length))) ((jB false) :: (ints .u8 (List.replicate 88 0))) 96 lnO lnO)
      (oA (oLw (n := 89) ((jB mx) :: (ints .u8 (wrB w p p.length))) lnO) <| oA (oS (show jT [jA ((jB mx) :: (ints .u8 (wrB w p p.length))), jB true] = jT [jA ((jB mx) :: (ints .u8 (digs 88 (wrV w p)))), jB true] from by rw [e1])) <| oS (show Avoid (fun n => decide (0 ≤ n)) (jT [jA ((jB mx) :: (ints .u8 (digs 88 (wrV w p)))), jB true]) from Avoid.tuple (AvoidL.cons (Avoid.agg (AvoidL.cons (Avoid.bool _ _) (AvoidL.ints _ _ _))) (AvoidL.cons (Avoid.bool _ _) (AvoidL.nil _))))) (by kernel_rfl)
  · exact meets_run (fn := Tryz.f95) 4 (q1 ++ [rG [(1, {call := some ⟨[], [jS b, jS [46]], [], jT [jS (if 0 ≤ idx46 b then b.take (idx46 b).toNat else b), jS (if 0 ≤ idx46 b then b.drop ((idx46 b).toNat + 1) else []), jB (decide (0 ≤ idx46 b))], []⟩, val := some (jT [jS w, jS p, jB false])})], rG [hhMB 1 (areDigits_meets w (by omega)) true, hhB 2 false], rG [hhV 1 (jA ((jB mx) :: (ints .u8 (List.replicate 88 0)))), (2, {nm := [1], obj := some [jC ((jB false) :: (ints .u8 (List.replicate 88 0))) 96]}), (3, {obj := some [jC ((jB mx) :: (ints .u8 (List.replicate 88 0))) 96]})], rG [hhN 1 2], .loop (⟨([none, none, sP 0 0, none, none, none, some (jS w), some (jS p), none, sP 1 0, none, none, none, none, none, none, none, none, none, none, none, none, none, none, none, none, none, none, none, none, none, none, none, none, none, none, none, none, none, none, some (AV.vec 2 w.length), sI ((w.length : Nat) : Int), sI 0] ++ nn 30), [some (jC ((jB false) :: (ints .u8 (List.replicate 88 0))) 96), some (jC ((jB mx) :: (ints .u8 (wrA w 0))) 96), some (AObj.vec (u8s w) 5 1), none]⟩) (.exit 0) (⟨([none, none, sP 0 0, none, none, none, some (jS w), some (jS p), none, sP 1 0] ++ nn 63), [some (jC ((jB false) :: (ints .u8 (List.replicate 88 0))) 96), some (jC ((jB mx) :: (ints .u8 (wrA w w.length))) 96), some (AObj.vec (u8s w) 5 1), none]⟩), rG [hhN 1 3], .loop (⟨([none, none, sP 0 0, none, none, none, none, none, none, sP 1 0, none, none, none, none, none, none, none, none, none, none, none, none, none, none, none, none, none, none, none, none, none, none, none, none, none, none, none, none, none, none, none, none, none, none, none, none, none, none, none, none, none, none, none, none, none, none, none, none, some (AV.vec 3 p.length), sI ((p.length : Nat) : Int), sI 0] ++ nn 12), [some (jC ((jB false) :: (ints .u8 (List.replicate 88 0))) 96), some (jC ((jB mx) :: (ints .u8 (wrB w p 0))) 96), some (AObj.vec (u8s w) 5 1), some (AObj.vec (u8s p) 5 1)]⟩) (.exit 2) (⟨([none, none, sP 0 0, none, none, none, none, none, none, sP 1 0] ++ nn 63), [some (jC ((jB false) :: (ints .u8 (List.replicate 88 0))) 96), some (jC ((jB mx) :: (ints .u8 (wrB w p p.length))) 96), some (AObj.vec (u8s w) 5 1), some (AObj.vec (u8s p) 5 1)]⟩), rG [hhV 0 (jA ((jB mx) :: (ints .u8 (wrB w p p.length)))), (1, {obj := some [jC ((jB mx) :: (ints .u8 (wrB w p p.length))) 96]})]]) [{val := some (jA ((jB mx) :: (ints .u8 (wrB w p p.length))))}, {}] Tryz.func95 (by kernel_rfl) Tryz.call95
      (oA o1 <| oA (oC (cut_meets b hbl) rfl) <| oA (oS (show AV.ren [] (jT [jS (if 0 ≤ idx46 b then b.take (idx46 b).toNat else b), jS (if 0 ≤ idx46 b then b.drop ((idx46 b).toNat + 1) else []), jB (decide (0 ≤ idx46 b))]) = jT [jS w, jS p, jB false] from (by rw [show decide (0 ≤ idx46 b) = false by rw [hpt]; simpa using c1, ← hw, ← hp]; rfl))) <| oA (oC (areDigits_meets w (by omega)) rfl) <| oA (oS (boolT h1)) <| oA (oS (show AV.bool (!true) = jB false from rfl)) <| oA (oS (show ([jB mx] : List AV).length = 1 from rfl)) <| oA (oS (show 0 + 1 ≤ ((zeroCellsA Tryz.prog 96) : List AV).length from Nat.le_of_ble_eq_true (by kernel_rfl))) <| oA (oS (show AV.agg (List.take 0 (zeroCellsA Tryz.prog 96) ++ [jB mx] ++ List.drop 1 (zeroCellsA Tryz.prog 96)) = jA ((jB mx) :: (ints .u8 (List.replicate 88 0))) from by kernel_rfl)) <| oA (oS (show AObj.cells (zeroCellsA Tryz.prog 96) 96 = jC ((jB false) :: (ints .u8 (List.replicate 88 0))) 96 from by kernel_rfl)) <| oA (oSw (n := 89) ((jB mx) :: (ints .u8 (List.replicate 88 0))) ((jB false) :: (ints .u8 (List.replicate 88 0))) 96 lnO lnO) <| oA (oR [jP 0 0, jS w, jS p, jP 1 0, AV.vec 2 w.length, jI ((w.length : Nat) : Int), jI 0]) <| oA (oQ [jC ((jB false) :: (ints .u8 (List.replicate 88 0))) 96]) <| oA (oS (show jC ((jB mx) :: (ints .u8 (List.replicate 88 0))) 96 = jC ((jB mx) :: (ints .u8 (wrA w 0))) 96 from by rw [wrA_zero w hwl])) <| oA (oQ [AObj.vec (u8s w) 5 1]) <| oA (oS (show Tri Tryz.prog (.loop (loopN (bodyOf Tryz.f95) 0)) (⟨([none, none, sP 0 0, none, none, none, some (jS w), some (jS p), none, sP 1 0, none, none, none, none, none, none, none, none, none, none, none, none, none, none, none, none, none, none, none, none, none, none, none, none, none, none, none, none, none, none, some (AV.vec 2 w.length), sI ((w.length : Nat) : Int), sI 0] ++ nn 30), [some (jC ((jB false) :: (ints .u8 (List.replicate 88 0))) 96), some (jC ((jB mx) :: (ints .u8 (wrA w 0))) 96), some (AObj.vec (u8s w) 5 1), none]⟩) (.exit 0) (⟨([none, none, sP 0 0, none, none, none, some (jS w), some (jS p), none, sP 1 0] ++ nn 63), [some (jC ((jB false) :: (ints .u8 (List.replicate 88 0))) 96), some (jC ((jB mx) :: (ints .u8 (wrA w w.length))) 96), some (AObj.vec (u8s w) 5 1), none]⟩) from wr_l1 mx w p hwl gw)) <| oA (oR [jP 0 0, jP 1 0, AV.vec 3 p.length, jI ((p.length : Nat) : Int), jI 0]) <| oA (oQ [jC ((jB false) :: (ints .u8 (List.replicate 88 0))) 96]) <| oA (oS (show jC ((jB mx) :: (ints .u8 (wrA w w.length))) 96 = jC ((jB mx) :: (ints .u8 (wrB w p 0))) 96 from by rw [wrA_end w p])) <| oA (oQ [AObj.vec (u8s w) 5 1, AObj.vec (u8s p) 5 1]) <| oA (oS (show Tri Tryz.prog (.loop (loopN (bodyOf Tryz.f95) 1)) (⟨([none, none, sP 0 0, none, none, none, none, none, none, sP 1 0, none, none, none, none, none, none, none, none, none, none, none, none, none, none, none, none, none, none, none, none, none, none, none, none, none, none, none, none, none, none, none, none, none, none, none, none, none, none, none, none, none, none, none, none, none, none, none, none, some (AV.vec 3 p.length), sI ((p.length : Nat) : Int), sI 0] ++ nn 12), [some (jC ((jB false) :: (ints .u8 (List.replicate 88 0))) 96), some (jC ((jB mx) :: (ints .u8 (wrB w p 0))) 96), some (AObj.vec (u8s w) 5 1), some (AObj.vec (u8s p) 5 1)]⟩) (.exit 2) (⟨([none, none, sP 0 0, none, none, none, none, none, none, sP 1 0] ++ nn 63), [some (jC ((jB false) :: (ints .u8 (List.replicate 88 0))) 96), some (jC ((jB mx) :: (ints .u8 (wrB w p p.length))) 96), some (AObj.vec (u8s w) 5 1), some (AObj.vec (u8s p) 5 1)]⟩) from wr_l2 mx w p hwl hpl gp)) <| oA (oLw (n := 89) ((jB mx) :: (ints .u8 (wrB w p p.length))) lnO) <| oSw (n := 89) ((jB mx) :: (ints .u8 (wrB w p p.length))) ((jB false) :: (ints .u8 (List.replicate 88 0))) 96 lnO lnO)
      (oA (oLw (n := 89) ((jB mx) :: (ints .u8 (wrB w p p.length))) lnO) <| oA (oS (show jT [jA ((jB mx) :: (ints .u8 (wrB w p p.length))), jB true] = jT [jA ((jB mx) :: (ints .u8 (digs 88 (wrV w p)))), jB true] from by rw [e1])) <| oS (show Avoid (fun n => decide (0 ≤ n)) (jT [jA ((jB mx) :: (ints .u8 (digs 88 (wrV w p)))), jB true]) from Avoid.tuple (AvoidL.cons (Avoid.agg (AvoidL.cons (Avoid.bool _ _) (AvoidL.ints _ _ _))) (AvoidL.cons (Avoid.bool _ _) (AvoidL.nil _))))) (by kernel_rfl)

theorem written_bad (s b w p : List UInt8) (mx pt : Bool) (hs : s.length < 1000000) (hbl : b.length < 1000000) (hwn : w.length < 1000000) (hpn : p.length < 1000000) (hmx : minusB s = mx) (hb : bodyS s = b) (hw : wholeS b = w) (hp : partS b = p) (hpt : decide (0 ≤ idx46 b) = pt) (hpe : pt = false → p = []) (h : ¬ (isDigs w = true ∧ (pt = true → isDigs p = true))) : Meets Tryz.prog 95 [jS s] [] (jT [jA ((jB false) :: (ints .u8 (List.replicate 88 0))), jB false]) [] := by
  have o1 := oA (oS (show AObj.cells (zeroCellsA Tryz.prog 96) 96 = jC ((jB false) :: (ints .u8 (List.replicate 88 0))) 96 from by kernel_rfl)) <| oA (oC (cutPrefix_meets s) rfl) <| oS (show AV.ren [] (jT [jS (if minusB s = true then s.drop 1 else s), jB (minusB s)]) = jT [jS b, jB mx] from (by rw [← hb, ← hmx]; rfl))
  let q1 : List Orc := [rG [(0, {nm := [0], obj := some [jC ((jB false) :: (ints .u8 (List.replicate 88 0))) 96]})], rG [(1, {call := some ⟨[], [jS s, jS [45]], [], jT [jS (if minusB s = true then s.drop 1 else s), jB (minusB s)], []⟩, val := some (jT [jS b, jB mx])})]]
  by_cases c1 : pt = true
  · have o2 := oA (oC (cut_meets b hbl) rfl) <| oA (oS (show AV.ren [] (jT [jS (if 0 ≤ idx46 b then b.take (idx46 b).toNat else b), jS (if 0 ≤ idx46 b then b.drop ((idx46 b).toNat + 1) else []), jB (decide (0 ≤ idx46 b))]) = jT [jS w, jS p, jB true] from (by rw [show decide (0 ≤ idx46 b) = true by rw [hpt]; simpa using c1, ← hw, ← hp]; rfl))) <| oC (areDigits_meets w (by omega)) rfl
    let q2 : List Orc := [rG [(1, {call := some ⟨[], [jS b, jS [46]], [], jT [jS (if 0 ≤ idx46 b then b.take (idx46 b).toNat else b), jS (if 0 ≤ idx46 b then b.drop ((idx46 b).toNat + 1) else []), jB (decide (0 ≤ idx46 b))], []⟩, val := some (jT [jS w, jS p, jB true])})]]
    by_cases c2 : isDigs w = true
    · have o3 := oA (oS (boolT c2)) <| oA (oS (show AV.bool (!true) = jB false from rfl)) <| oC (areDigits_meets p (by omega)) rfl
      by_cases c3 : isDigs p = true
      · exact absurd ⟨‹_›, fun _ => ‹_›⟩ h
      · exact meets_run (fn := Tryz.f95) 4 (q1 ++ (q2 ++ [rG [hhMB 1 (areDigits_meets w (by omega)) true, hhB 2 false, hhMB 7 (areDigits_meets p (by omega)) false, hhB 8 true], rG [hhV 0 (jA ((jB false) :: (ints .u8 (List.replicate 88 0)))), (1, {obj := some [jC ((jB false) :: (ints .u8 (List.replicate 88 0))) 96]})]])) [{val := some (jA ((jB false) :: (ints .u8 (List.replicate 88 0))))}, {}] Tryz.func95 (by kernel_rfl) Tryz.call95
          (oA o1 <| oA o2 <| oA o3 <| oA (oS (boolF c3)) <| oA (oS (show AV.bool (!false) = jB true from rfl)) <| oA (oS (show AV.agg (zeroCellsA Tryz.prog 96) = jA ((jB false) :: (ints .u8 (List.replicate 88 0))) from by kernel_rfl)) <| oSw (n := 89) ((jB false) :: (ints .u8 (List.replicate 88 0))) ((jB false) :: (ints .u8 (List.replicate 88 0))) 96 lnO lnO)
          (oA (oLw (n := 89) ((jB false) :: (ints .u8 (List.replicate 88 0))) lnO) <| oA (oS (@rfl _ (jT [jA ((jB false) :: (ints .u8 (List.replicate 88 0))), jB false]))) <| oS (show Avoid (fun n => decide (0 ≤ n)) (jT [jA ((jB false) :: (ints .u8 (List.replicate 88 0))), jB false]) from Avoid.tuple (AvoidL.cons (Avoid.agg (AvoidL.cons (Avoid.bool _ _) (AvoidL.ints _ _ _))) (AvoidL.cons (Avoid.bool _ _) (AvoidL.nil _))))) (by kernel_rfl)
    · exact meets_run (fn := Tryz.f95) 4 (q1 ++ (q2 ++ [rG [hhMB 1 (areDigits_meets w (by omega)) false, hhB 2 true], rG [hhV 0 (jA ((jB false) :: (ints .u8 (List.replicate 88 0)))), (1, {obj := some [jC ((jB false) :: (ints .u8 (List.replicate 88 0))) 96]})]])) [{val := some (jA ((jB false) :: (ints .u8 (List.replicate 88 0))))}, {}] Tryz.func95 (by kernel_rfl) Tryz.call95
        (oA o1 <| oA o2 <| oA (oS (boolF c2)) <| oA (oS (show AV.bool (!false) = jB true from rfl)) <| oA (oS (show AV.agg (zeroCellsA Tryz.prog 96) = jA ((jB false) :: (ints .u8 (List.replicate 88 0))) from by kernel_rfl)) <| oSw (n := 89) ((jB false) :: (ints .u8 (List.replicate 88 0))) ((jB false) :: (ints .u8 (List.replicate 88 0))) 96 lnO lnO)
        (oA (oLw (n := 89) ((jB false) :: (ints .u8 (List.replicate 88 0))) lnO) <| oA (oS (@rfl _ (jT [jA ((jB false) :: (ints .u8 (List.replicate 88 0))), jB false]))) <| oS (show Avoid (fun n => decide (0 ≤ n)) (jT [jA ((jB false) :: (ints .u8 (List.replicate 88 0))), jB false]) from Avoid.tuple (AvoidL.cons (Avoid.agg (AvoidL.cons (Avoid.bool _ _) (AvoidL.ints _ _ _))) (AvoidL.cons (Avoid.bool _ _) (AvoidL.nil _))))) (by kernel_rfl)
  · have o2 := oA (oC (cut_meets b hbl) rfl) <| oA (oS (show AV.ren [] (jT [jS (if 0 ≤ idx46 b then b.take (idx46 b).toNat else b), jS (if 0 ≤ idx46 b then b.drop ((idx46 b).toNat + 1) else []), jB (decide (0 ≤ idx46 b))]) = jT [jS w, jS p, jB false] from (by rw [show decide (0 ≤ idx46 b) = false by rw [hpt]; simpa using c1, ← hw, ← hp]; rfl))) <| oC (areDigits_meets w (by omega)) rfl
    let q2 : List Orc := [rG [(1, {call := some ⟨[], [jS b, jS [46]], [], jT [jS (if 0 ≤ idx46 b then b.take (idx46 b).toNat else b), jS (if 0 ≤ idx46 b then b.drop ((idx46 b).toNat + 1) else []), jB (decide (0 ≤ idx46 b))], []⟩, val := some (jT [jS w, jS p, jB false])})]]
    by_cases c2 : isDigs w = true
    · exact absurd ⟨‹_›, fun g => absurd g ‹_›⟩ h
    · exact meets_run (fn := Tryz.f95) 4 (q1 ++ (q2 ++ [rG [hhMB 1 (areDigits_meets w (by omega)) false, hhB 2 true], rG [hhV 0 (jA ((jB false) :: (ints .u8 (List.replicate 88 0)))), (1, {obj := some [jC ((jB false) :: (ints .u8 (List.replicate 88 0))) 96]})]])) [{val := some (jA ((jB false) :: (ints .u8 (List.replicate 88 0))))}, {}] Tryz.func95 (by kernel_rfl) Tryz.call95
        (oA o1 <| oA o2 <| oA (oS (boolF c2)) <| oA (oS (show AV.bool (!false) = jB true from rfl)) <| oA (oS (show AV.agg (zeroCellsA Tryz.prog 96) = jA ((jB false) :: (ints .u8 (List.replicate 88 0))) from by kernel_rfl)) <| oSw (n := 89) ((jB false) :: (ints .u8 (List.replicate 88 0))) ((jB false) :: (ints .u8 (List.replicate 88 0))) 96 lnO lnO)
        (oA (oLw (n := 89) ((jB false) :: (ints .u8 (List.replicate 88 0))) lnO) <| oA (oS (@rfl _ (jT [jA ((jB false) :: (ints .u8 (List.replicate 88 0))), jB false]))) <| oS (show Avoid (fun n => decide (0 ≤ n)) (jT [jA ((jB false) :: (ints .u8 (List.replicate 88 0))), jB false]) from Avoid.tuple (AvoidL.cons (Avoid.agg (AvoidL.cons (Avoid.bool _ _) (AvoidL.ints _ _ _))) (AvoidL.cons (Avoid.bool _ _) (AvoidL.nil _))))) (by kernel_rfl)

theorem bodyS_len (s : List UInt8) : (bodyS s).length ≤ s.length := by unfold bodyS; split <;> simp
theorem wholeS_len (s : List UInt8) : (wholeS s).length ≤ s.length := by unfold wholeS; split <;> simp <;> omega
theorem partS_len (s : List UInt8) : (partS s).length ≤ s.length := by unfold partS; split <;> simp
theorem partS_none {s : List UInt8} (h : decide (0 ≤ idx46 s) = false) : partS s = [] := by
  unfold partS; rw [if_neg (by simpa using h)]
theorem okW_spec (s : List UInt8) : okW s = true ↔ isDigs (wholeS (bodyS s)) = true ∧ (decide (0 ≤ idx46 (bodyS s)) = true → isDigs (partS (bodyS s)) = true) := by
  unfold okW
  cases isDigs (wholeS (bodyS s)) <;> cases decide (0 ≤ idx46 (bodyS s)) <;> cases isDigs (partS (bodyS s)) <;> simp
theorem written_yes (s : List UInt8) (hs : s.length < 1000000) (h : okW s = true) : Meets Tryz.prog 95 [AV.str s] [] (AV.tuple [AV.agg (AV.bool (minusB s) :: ints .u8 (digs 88 (wrS s))), AV.bool true]) [] := by
  have h1 := bodyS_len s
  have h2 := wholeS_len (bodyS s)
  have h3 := partS_len (bodyS s)
  have hk := (okW_spec s).1 h
  exact written_ok s _ _ _ _ _ hs (by omega) (by omega) (by omega) rfl rfl rfl rfl rfl partS_none hk.1 hk.2
theorem written_no (s : List UInt8) (hs : s.length < 1000000) (h : ¬ okW s = true) : Meets Tryz.prog 95 [AV.str s] [] (AV.tuple [AV.agg (AV.bool false :: ints .u8 (List.replicate 88 0)), AV.bool false]) [] := by
  have h1 := bodyS_len s
  have h2 := wholeS_len (bodyS s)
  have h3 := partS_len (bodyS s)
  exact written_bad s _ _ _ _ _ hs (by omega) (by omega) (by omega) rfl rfl rfl rfl rfl partS_none (fun g => h ((okW_spec s).2 g))

end Go.Proofs.YtdomenmfkbfakaaGreatDoor.Dq


set_option linter.unusedVariables false
set_option linter.unusedSimpArgs false
set_option maxRecDepth 20000
namespace Go.Proofs.YtdomenmfkbfakaaGreatDoor.Dq
open Go Sx Dc

theorem trimD_bounds : ∀ (n : Nat) (m e : Int), ((trimD n m e).1.natAbs ≤ m.natAbs) ∧ e ≤ (trimD n m e).2 ∧ (trimD n m e).2 ≤ e + n
  | 0, m, e => by simp [trimD]
  | n + 1, m, e => by
    rw [trimD]
    split
    · have ih := trimD_bounds n (m.tdiv 10) (e + 1)
      have h : (m.tdiv 10).natAbs ≤ m.natAbs := by rw [Int.natAbs_tdiv]; exact Nat.div_le_self _ _
      omega
    · simp only []; omega
theorem trimmedS_bounds {m e : Int} (he : -9 ≤ e ∧ e ≤ 9) : (trimmedS m e).1.natAbs ≤ m.natAbs ∧ -9 ≤ (trimmedS m e).2 ∧ (trimmedS m e).2 ≤ 9 := by
  unfold trimmedS
  split
  · simp
  · have := trimD_bounds (9 - e).toNat m e
    omega
theorem nearGo_bounds {ds : List Int} (hd : Dig ds) : ∀ (f j : Nat) (N e : Int), f + j = 19 → nearGo ds f j = some (N, e) → 0 ≤ N ∧ N ≤ 999999999999999 ∧ -9 ≤ e ∧ e ≤ 9
  | 0, j, N, e, _, h => by cases h
  | f + 1, j, N, e, hj, h => by
    rw [nearGo] at h
    split at h
    · rename_i hc
      simp only [Option.some.injEq, Prod.mk.injEq] at h
      obtain ⟨rfl, rfl⟩ := h
      have h1 := evenN_ge ds (57 - j)
      have h2 := (val_bounds _ (hd.take (57 - j))).1
      omega
    · exact nearGo_bounds hd f (j + 1) N e (by omega) h
theorem nearM_bounds {ds : List Int} (hd : Dig ds) (mx : Bool) : (-1000000000000000 < (nearM mx ds).1 ∧ (nearM mx ds).1 < 1000000000000000) ∧ -9 ≤ (nearM mx ds).2 ∧ (nearM mx ds).2 ≤ 9 := by
  unfold nearM
  cases h : nearGo ds 19 0 with
  | none => simp
  | some p =>
    obtain ⟨N, e⟩ := p
    have hb := nearGo_bounds hd 19 0 N e rfl h
    have ht := trimmedS_bounds (m := if mx = true then -N else N) (e := e) ⟨hb.2.2.1, hb.2.2.2⟩
    have : (if mx = true then -N else N).natAbs = N.natAbs := by split <;> omega
    simp only
    omega
abbrev bad3 : Int × Int × Int := (0, 0, 10)
def aV (m e : Int) : Int := ((m.natAbs : Nat) : Int) * 10 ^ (e + 40).toNat
theorem digs_aV (m e : Int) : digs 88 (((m.natAbs : Nat) : Int) * 10 ^ (e + 40).toNat) = digs 88 (aV m e) := rfl
end Go.Proofs.YtdomenmfkbfakaaGreatDoor.Dq
