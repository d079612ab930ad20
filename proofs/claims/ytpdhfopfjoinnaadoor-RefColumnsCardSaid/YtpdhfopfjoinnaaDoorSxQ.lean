/- The symbolic executor, part Q: regions are sound, in the text's order and in every other one. -/
import Derived.Test.YtpdhfopfjoinnaaDoorSxP
set_option linter.unusedSimpArgs false
set_option linter.unusedVariables false
namespace Go.Proofs.YtpdhfopfjoinnaaDoor.Sx
open Go

variable {P : Program}

/-- Steps, one behind the other, each with the footprint that is noted for it. -/
inductive Runs (P : Program) (ops : Array Oper) (hint : Nat → Hint) (LG : Nat → Foot) : List Nat → AState → AState → Prop
  | nil (s : AState) : Runs P ops hint LG [] s s
  | cons {i : Nat} {o : Oper} {st : Step} {R : List Nat} {s s' : AState} (ho : ops[i]? = some o) (hs : astep P ops (hint i) o s = some st) (hob : AllP st.obl) (hf : st.foot = LG i) (r : Runs P ops hint LG R st.st s') : Runs P ops hint LG (i :: R) s s'

variable {ops : Array Oper} {hint : Nat → Hint} {LG : Nat → Foot}

def indepI (ops : Array Oper) (LG : Nat → Foot) (k i : Nat) : Bool :=
  match ops[k]?, ops[i]? with
  | some x, some y => indepB ops x y (LG k) (LG i)
  | _, _ => false

theorem runs_front {i : Nat} {post : List Nat} {s' : AState} : ∀ (pre : List Nat) (s : AState), Runs P ops hint LG (pre ++ i :: post) s s' → (∀ k ∈ pre, indepI ops LG k i = true) → Runs P ops hint LG (i :: (pre ++ post)) s s'
  | [], s, h, _ => h
  | k :: pre, s, h, hi => by
    cases h with
    | cons ho hs hob hf r =>
      have r' := runs_front pre _ r (fun j hj => hi j (by simp [hj]))
      cases r' with
      | cons ho2 hs2 hob2 hf2 r2 =>
        have hind := hi k (by simp)
        simp only [indepI, ho, ho2] at hind
        rw [← hf, ← hf2] at hind
        obtain ⟨st1, st2, a1, a2, a3, a4, a5, a6, a7⟩ := astep_comm hs hs2 hind
        refine .cons ho2 a1 (a2 ▸ hob2) (a3.trans hf2) (.cons ho a4 (a5 ▸ hob) (a6.trans hf) ?_)
        rw [a7]; exact r2

theorem runs_text {w0 : World} {M : Nat → Prop} {Q : Exit → Act → World → Prop} {s' : AState} : ∀ (R : List Nat) (s : AState) (E : Env) (a : Act) (w : World), Runs P ops hint LG R s s' → Rel w0 M E s a w →
    (∀ E' a' w', Env.le E E' → Rel w0 M E' s' a' w' → Q .normal a' w') → wpOps P ops Q R a w
  | [], s, E, a, w, r, h, hq => by cases r; exact hq E a w (.refl _) h
  | i :: R, s, E, a, w, r, h, hq => by
    cases r with
    | cons ho hs hob hf r =>
      have hn : ∀ E' a' w', Env.le E E' → Rel w0 M E' _ a' w' → wpOps P ops Q R a' w' := fun E' a' w' hle h' => runs_text R _ E' a' w' r h' (fun E2 a2 w2 l2 h2 => hq E2 a2 w2 (hle.trans l2) h2)
      have := astep_sound (Q := Q) hs hob h hn
      rw [wpOps]
      simp only [ho]
      split
      · rename_i hw; rw [if_pos hw] at this; exact .inl this
      · rename_i hw; rw [if_neg hw] at this; exact this

/-- The operations that an edge of its own says an operation comes behind. -/
def direct (o : Oper) : List Nat := o.after.toList.filterMap fun e => if Region.binds .any e then some e.on else none

def directI (ops : Array Oper) (i : Nat) : List Nat := match ops[i]? with | some o => direct o | none => []

/-- All that it comes behind. -/
def ancs : List (List Nat) → List (List Nat) → List (List Nat)
  | [], acc => acc
  | d :: ds, acc => ancs ds (acc ++ [d ++ d.flatMap fun k => acc.getD k []])

def ancOK (ops : Array Oper) (A : List (List Nat)) : Bool :=
  (List.range ops.size).all fun i => (directI ops i).all (fun k => decide (k < i)) && (A.getD i []).all fun m => (directI ops i).contains m || (directI ops i).any fun k => (A.getD k []).contains m

def pairsOK (ops : Array Oper) (A : List (List Nat)) (LG : Nat → Foot) : Bool :=
  (List.range ops.size).all fun i => (List.range i).all fun k => (A.getD i []).contains k || indepI ops LG k i

theorem mem_ready {listed : Array Bool} {i : Nat} (h : i ∈ Region.ready .any ops listed) : i < ops.size ∧ listed.getD i true = false ∧ ∀ k ∈ directI ops i, listed.getD k false = true := by
  simp only [Region.ready, List.mem_filter, List.mem_range, Bool.and_eq_true, Bool.not_eq_true'] at h
  obtain ⟨h1, h2, h3⟩ := h
  refine ⟨h1, h2, fun k hk => ?_⟩
  have ho : ops[i]? = some ops[i] := by simp [h1]
  simp only [ho, Option.map_some, Option.getD_some] at h3
  simp only [directI, ho, direct, List.mem_filterMap] at hk
  obtain ⟨e, he, hb⟩ := hk
  split at hb
  · rename_i hbind
    cases hb
    have := (Array.all_eq_true'.1 h3) e (Array.mem_toList_iff.1 he)
    simpa [hbind] using this
  · cases hb

theorem ready_of {listed : Array Bool} {i : Nat} (h1 : i < ops.size) (h2 : listed.getD i true = false) (h3 : ∀ k ∈ directI ops i, listed.getD k false = true) : i ∈ Region.ready .any ops listed := by
  simp only [Region.ready, List.mem_filter, List.mem_range, Bool.and_eq_true, Bool.not_eq_true']
  refine ⟨h1, h2, ?_⟩
  have ho : ops[i]? = some ops[i] := by simp [h1]
  simp only [ho, Option.map_some, Option.getD_some]
  refine Array.all_eq_true'.2 fun e he => ?_
  cases hb : Region.binds .any e with
  | false => simp
  | true =>
    have := h3 e.on (by
      simp only [directI, ho, direct, List.mem_filterMap]
      exact ⟨e, Array.mem_toList_iff.2 he, by simp [hb]⟩)
    simpa using this

theorem getD_flip {listed : Array Bool} {k : Nat} (hk : k < listed.size) : (listed.getD k true = false ↔ ¬ listed.getD k false = true) := by
  simp [Array.getD, hk]

theorem runs_any {w0 : World} {M : Nat → Prop} {Q : Exit → Act → World → Prop} {s' : AState} {A : List (List Nat)} (hA : ancOK ops A = true) (hP : pairsOK ops A LG = true) :
    ∀ (fuel : Nat) (listed : Array Bool) (R : List Nat) (s : AState) (E : Env) (a : Act) (w : World), listed.size = ops.size → R.length ≤ fuel → R.Pairwise (· < ·) → (∀ i, i ∈ R ↔ i < ops.size ∧ listed.getD i true = false) →
      (∀ i, i < ops.size → listed.getD i false = true → ∀ k ∈ A.getD i [], listed.getD k false = true) → Runs P ops hint LG R s s' → Rel w0 M E s a w → (∀ E' a' w', Env.le E E' → Rel w0 M E' s' a' w' → Q .normal a' w') →
      wpAny P .any ops Q fuel listed a w := by
  have hA' : ∀ i, i < ops.size → (∀ k ∈ directI ops i, k < i) ∧ ∀ m ∈ A.getD i [], m ∈ directI ops i ∨ ∃ k ∈ directI ops i, m ∈ A.getD k [] := fun i hi => by
    have := List.all_eq_true.1 hA i (List.mem_range.2 hi)
    simp only [Bool.and_eq_true, List.all_eq_true, decide_eq_true_eq, Bool.or_eq_true, List.contains_eq_mem, List.any_eq_true] at this
    exact this
  have hP' : ∀ i, i < ops.size → ∀ k, k < i → k ∈ A.getD i [] ∨ indepI ops LG k i = true := fun i hi k hk => by
    have := List.all_eq_true.1 (List.all_eq_true.1 hP i (List.mem_range.2 hi)) k (List.mem_range.2 hk)
    simpa using this
  have rnil : ∀ (listed : Array Bool) (R : List Nat), listed.size = ops.size → R.Pairwise (· < ·) → (∀ i, i ∈ R ↔ i < ops.size ∧ listed.getD i true = false) → Region.ready .any ops listed = [] → R = [] := by
    intro listed R hsz hp hR hr
    cases R with
    | nil => rfl
    | cons i R =>
      exfalso
      obtain ⟨h1, h2⟩ := (hR i).1 (by simp)
      have : i ∈ Region.ready .any ops listed := ready_of h1 h2 fun k hk => by
        have hki := (hA' i h1).1 k hk
        cases hb : listed.getD k false with
        | true => rfl
        | false =>
          exfalso
          have hkR := (hR k).2 ⟨by omega, (getD_flip (by omega)).2 (by simp [hb])⟩
          rcases List.mem_cons.1 hkR with e | e
          · omega
          · have := (List.pairwise_cons.1 hp).1 k e; omega
      rw [hr] at this; cases this
  intro fuel
  induction fuel with
  | zero =>
    intro listed R s E a w hsz hlen hp hR hcl r h hq
    have : R = [] := List.length_eq_zero_iff.1 (by omega)
    subst this
    cases r
    refine ⟨?_, hq E a w (.refl _) h⟩
    cases hr : Region.ready .any ops listed with
    | nil => rfl
    | cons i l =>
      obtain ⟨h1, h2, _⟩ := mem_ready (ops := ops) (listed := listed) (i := i) (by rw [hr]; simp)
      exact absurd ((hR i).2 ⟨h1, h2⟩) (by simp)
  | succ fuel ih =>
    intro listed R s E a w hsz hlen hp hR hcl r h hq
    refine ⟨fun hr => ?_, fun i hi => ?_⟩
    · have := rnil listed R hsz hp hR hr
      subst this
      cases r
      exact hq E a w (.refl _) h
    · obtain ⟨h1, h2, h3⟩ := mem_ready hi
      have hanc : ∀ m ∈ A.getD i [], listed.getD m false = true := fun m hm => by
        rcases (hA' i h1).2 m hm with g | ⟨k, hk, g⟩
        · exact h3 m g
        · exact hcl k (by have := (hA' i h1).1 k hk; omega) (h3 k hk) m g
      obtain ⟨pre, post, rfl⟩ := List.append_of_mem ((hR i).2 ⟨h1, h2⟩)
      have hpre : ∀ k ∈ pre, indepI ops LG k i = true := fun k hk => by
        have hlt : k < i := (List.pairwise_append.1 hp).2.2 k hk i (by simp)
        rcases hP' i h1 k hlt with g | g
        · exfalso
          have := hanc k g
          obtain ⟨_, hk2⟩ := (hR k).1 (by simp [hk])
          exact (getD_flip (by omega)).1 hk2 this
        · exact g
      have r' := runs_front pre s r hpre
      cases r' with
      | cons ho hs hob hf r2 =>
        have hsz' : (listed.setIfInBounds i true).size = ops.size := by simpa using hsz
        have hnd : (pre ++ i :: post).Nodup := hp.imp (fun h => Nat.ne_of_lt h)
        have hp2 : (pre ++ post).Pairwise (· < ·) := hp.sublist (by simp)
        have hset : ∀ k d, (listed.setIfInBounds i true).getD k d = if k = i then true else listed.getD k d := fun k d => by
          by_cases e : k = i
          · subst e; simp [Array.getD, hsz, h1]
          · rw [if_neg e, getD_set_ne d (fun h => e h.symm)]
        have hR2 : ∀ k, k ∈ pre ++ post ↔ k < ops.size ∧ (listed.setIfInBounds i true).getD k true = false := fun k => by
          rw [hset]
          by_cases e : k = i
          · subst e
            simp only [if_true]
            constructor
            · intro hk
              exfalso
              rw [List.nodup_append] at hnd
              rcases List.mem_append.1 hk with g | g
              · exact hnd.2.2 k g k (by simp) rfl
              · exact (List.nodup_cons.1 hnd.2.1).1 g
            · rintro ⟨_, hh⟩; cases hh
          · rw [if_neg e, ← hR k]
            simp [e]
        have hcl2 : ∀ j, j < ops.size → (listed.setIfInBounds i true).getD j false = true → ∀ k ∈ A.getD j [], (listed.setIfInBounds i true).getD k false = true := fun j hj hl k hk => by
          rw [hset] at hl ⊢
          by_cases ek : k = i
          · simp [ek]
          · rw [if_neg ek]
            by_cases ej : j = i
            · subst ej; exact hanc k hk
            · rw [if_neg ej] at hl; exact hcl j hj hl k hk
        have hn : ∀ E' a' w', Env.le E E' → Rel w0 M E' _ a' w' → wpAny P .any ops Q fuel (listed.setIfInBounds i true) a' w' := fun E' a' w' hle h' =>
          ih _ (pre ++ post) _ E' a' w' hsz' (by simp at hlen ⊢; omega) hp2 hR2 hcl2 r2 h' (fun E2 a2 w2 l2 h2 => hq E2 a2 w2 (hle.trans l2) h2)
        have := astep_sound (Q := Q) hs hob h hn
        unfold wpOp
        simp only [ho]
        split
        · rename_i hw; rw [if_pos hw] at this; exact .inl this
        · rename_i hw; rw [if_neg hw] at this; exact this

theorem region_text {w0 : World} {M : Nat → Prop} {Q : Exit → Act → World → Prop} {s s' : AState} {E : Env} {a : Act} {w : World} {id : Nat} (r : Runs P ops hint LG (List.range ops.size) s s') (h : Rel w0 M E s a w)
    (hq : ∀ E' a' w', Env.le E E' → Rel w0 M E' s' a' w' → Q .normal a' w') : (Code.region id ops false).wp P Q a w :=
  wp_region (runs_text _ s E a w r h hq)

theorem region_draw {w0 : World} {M : Nat → Prop} {Q : Exit → Act → World → Prop} {s s' : AState} {E : Env} {a : Act} {w : World} {id : Nat} {A : List (List Nat)} (hm : P.follows .mixedOrders = true) (hA : ancOK ops A = true) (hP : pairsOK ops A LG = true)
    (r : Runs P ops hint LG (List.range ops.size) s s') (h : Rel w0 M E s a w) (hq : ∀ E' a' w', Env.le E E' → Rel w0 M E' s' a' w' → Q .normal a' w') : (Code.region id ops true).wp P Q a w :=
  wp_region_any hm (runs_any hA hP ops.size _ (List.range ops.size) s E a _ (by simp) (by simp) List.pairwise_lt_range (fun i => by
      rw [List.mem_range]
      constructor
      · intro hi; exact ⟨hi, by simp [Array.getD, hi]⟩
      · exact fun hh => hh.1)
    (fun i hi hl => by simp [Array.getD, hi] at hl) r (h.drew _) hq)

end Go.Proofs.YtpdhfopfjoinnaaDoor.Sx
