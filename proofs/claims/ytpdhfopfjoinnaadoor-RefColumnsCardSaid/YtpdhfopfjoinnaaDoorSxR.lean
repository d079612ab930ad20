/- The symbolic executor, part R: code, loops, and contracts out of runs. -/
import Derived.Test.YtpdhfopfjoinnaaDoorSxQ
import Derived.LoopN
set_option linter.unusedSimpArgs false
set_option linter.unusedVariables false
namespace Go.Proofs.YtpdhfopfjoinnaaDoor.Sx
open Go

variable {P : Program}

/-- How a piece of code is left. -/
inductive Ex where
  | normal
  | exit (id : Nat)
  | ret

def Ex.to : Ex → Exit
  | .normal => .normal
  | .exit id => .exit id
  | .ret => .ret

/-- The first K names keep their blocks. -/
def Env.leK (K : Nat) (E E' : Env) : Prop := ∀ n p, n < K → E n = some p → E' n = some p
theorem Env.leK.refl (K : Nat) (E : Env) : Env.leK K E E := fun _ _ _ h => h
theorem Env.leK.trans {K : Nat} {A B C : Env} (h : Env.leK K A B) (k : Env.leK K B C) : Env.leK K A C := fun n p hn e => k n p hn (h n p hn e)
theorem Env.le.toK {K : Nat} {A B : Env} (h : Env.le A B) : Env.leK K A B := fun n p _ e => h n p e

/-- FROM STATE s THE CODE c COMES TO STATE s', and is left as ex says. -/
def Tri (P : Program) (c : Code) (s : AState) (ex : Ex) (s' : AState) (K : Nat := 0) : Prop :=
  ∀ (w0 : World) (M : Nat → Prop) (E : Env) (a : Act) (w : World), Rel w0 M E s a w → c.wp P (fun e a' w' => e = ex.to ∧ ∃ E', Env.leK K E E' ∧ Rel w0 M E' s' a' w') a w

/-- What is told in the order of the text: of each region its hints; of each loop the state at its head, how it is left, and the state behind it. -/
inductive Orc where
  | reg (hs : List (Nat × Hint))
  | loop (sIn : AState) (ex : Ex) (sOut : AState)

def hintOf (hs : List (Nat × Hint)) (i : Nat) : Hint := (hs.lookup i).getD {}

def runOps (P : Program) (ops : Array Oper) (hint : Nat → Hint) : List Nat → AState → Option (List Prop × List Foot × AState)
  | [], s => some ([], [], s)
  | i :: R, s =>
    match ops[i]? with
    | none => none
    | some o =>
      match astep P ops (hint i) o s with
      | none => none
      | some st =>
        match runOps P ops hint R st.st with
        | none => none
        | some (ob, fs, s') => some (st.obl ++ ob, st.foot :: fs, s')

def orderOK (P : Program) (ops : Array Oper) (fs : List Foot) : Bool :=
  let A := ancs (ops.toList.map direct) []
  P.follows .mixedOrders && ancOK ops A && pairsOK ops A (fun i => fs.getD i .no)

/-- A state told as another one that says less. -/
def weakSlots : List (Option AV) → List (Option AV) → Option (List Prop)
  | [], [] => some []
  | _ :: as, none :: bs => weakSlots as bs
  | some a :: as, some b :: bs => (weakSlots as bs).map fun o => (a = b) :: o
  | _, _ => none

/-- What is known of a block is told the same, or (of one that is never written) of its first cells alone. -/
def sameF : AObj → AObj → Prop
  | .flat m c, .flat m' cs => m = m' ∧ c.take cs.length = cs
  | a, b => a = b
theorem sameF_cases {a b : AObj} (h : sameF a b) : a = b ∨ ∃ m c cs, a = .flat m c ∧ b = .flat m cs ∧ c.take cs.length = cs := by
  cases a with
  | flat m c =>
    cases b with
    | flat m' cs => obtain ⟨rfl, h⟩ := h; exact .inr ⟨_, _, _, rfl, rfl, h⟩
    | cells x t => exact .inl h
    | vec x t z => exact .inl h
    | ro x t => exact .inl h
    | iter x t => exact .inl h
    | dead => exact .inl h
  | cells x t => exact .inl h
  | vec x t z => exact .inl h
  | ro x t => exact .inl h
  | iter x t => exact .inl h
  | dead => exact .inl h
theorem sameF_obj {a b : AObj} (h : sameF a b) {E : Env} {w : World} {k : Nat} {c : Cap} (ho : ObjR E w k c a) : ObjR E w k c b := by
  rcases sameF_cases h with rfl | ⟨m, l, cs, rfl, rfl, e⟩
  · exact ho
  · obtain ⟨xs, hx, hz, hw⟩ := ho
    refine ⟨xs.take cs.length, ?_, fun h0 => ?_, fun h0 => ⟨(hw h0).1, fun i x hi => ?_⟩⟩
    · have := denC_take hx cs.length; rwa [e] at this
    · rw [hz h0] at e; simpa using e.symm
    · refine (hw h0).2 i x ?_
      have hlt := (List.getElem?_eq_some_iff.1 hi).1
      rw [List.getElem?_take] at hi
      split at hi
      · exact hi
      · cases hi
theorem sameF_owned {a b : AObj} (h : sameF a b) : b.owned = a.owned := by
  rcases sameF_cases h with rfl | ⟨m, l, cs, rfl, rfl, e⟩ <;> rfl
theorem sameF_mine {a b : AObj} (h : sameF a b) : b.mine = a.mine := by
  rcases sameF_cases h with rfl | ⟨m, l, cs, rfl, rfl, e⟩ <;> rfl
theorem sameF_live {a b : AObj} (h : sameF a b) : b.live = a.live := by
  rcases sameF_cases h with rfl | ⟨m, l, cs, rfl, rfl, e⟩ <;> rfl
theorem sameF_touches' {a b : AObj} (h : sameF a b) {k j : Nat} {c : Cap} (ht : touches k c b j) : touches k c a j := by
  rcases sameF_cases h with rfl | ⟨m, l, cs, rfl, rfl, e⟩ <;> exact ht

def weakMem : List (Option AObj) → List (Option AObj) → Option (List Prop)
  | [], [] => some []
  | none :: as, none :: bs => weakMem as bs
  | some _ :: as, some .dead :: bs => weakMem as bs
  | some a :: as, some b :: bs => (weakMem as bs).map fun o => sameF a b :: o
  | _, _ => none

def weakA (s t : AState) : Option (List Prop) :=
  match weakSlots s.slots t.slots, weakMem s.mem t.mem with
  | some a, some b => some (a ++ b)
  | _, _ => none

structure Out where
  obl : List Prop
  ex : Ex
  st : AState
  rest : List Orc

def exec (P : Program) (K : Nat) : Code → List Orc → AState → Option Out
  | .skip, q, s => some ⟨[], .normal, s, q⟩
  | .label _, q, s => some ⟨[], .normal, s, q⟩
  | .ret, q, s => some ⟨[], .ret, s, q⟩
  | .exit id, q, s => some ⟨[], .exit id, s, q⟩
  | .region _ ops draw, .reg hs :: q, s =>
    match runOps P ops (hintOf hs) (List.range ops.size) s with
    | some (ob, fs, s') => if !draw || orderOK P ops fs then some ⟨ob, .normal, s', q⟩ else none
    | none => none
  | .seq x y, q, s =>
    match exec P K x q s with
    | some ⟨ob, .normal, s', q'⟩ =>
      match exec P K y q' s' with
      | some ⟨ob2, ex, s2, q2⟩ => some ⟨ob ++ ob2, ex, s2, q2⟩
      | none => none
    | r => r
  | .cond c x y, q, s =>
    match s.ev c with
    | some (.bool true) => exec P K x q s
    | some (.bool false) => exec P K y q s
    | _ => none
  | .block id x, q, s =>
    match exec P K x q s with
    | some ⟨ob, .exit j, s', q'⟩ => some ⟨ob, if j == id then .normal else .exit j, s', q'⟩
    | r => r
  | .loop x, .loop sIn ex sOut :: q, s =>
    match weakA s sIn with
    | some ob => some ⟨ob ++ [Tri P (.loop x) sIn ex sOut K], ex, sOut, q⟩
    | none => none
  | _, _, _ => none

theorem runs_of_runOps {ops : Array Oper} {hint : Nat → Hint} : ∀ (R : List Nat) (s : AState) (ob : List Prop) (fs : List Foot) (s' : AState) (LG : Nat → Foot), runOps P ops hint R s = some (ob, fs, s') → AllP ob → (∀ j : Nat, (fs[j]?) = (R[j]?).map LG) → Runs P ops hint LG R s s'
  | [], s, ob, fs, s', LG, h, _, _ => by simp [runOps] at h; obtain ⟨_, _, rfl⟩ := h; exact .nil s
  | i :: R, s, ob, fs, s', LG, h, hob, hf => by
    simp only [runOps] at h
    split at h
    · cases h
    · rename_i o ho
      split at h
      · cases h
      · rename_i st hst
        split at h
        · cases h
        · rename_i ob2 fs2 s2 h2
          cases h
          obtain ⟨k1, k2⟩ := allP_append.1 hob
          have h0 := hf 0
          simp at h0
          exact .cons ho hst k1 h0 (runs_of_runOps R _ _ _ _ LG h2 k2 fun j => by have := hf (j + 1); simpa using this)

theorem runOps_length {ops : Array Oper} {hint : Nat → Hint} : ∀ (R : List Nat) (s : AState) (ob : List Prop) (fs : List Foot) (s' : AState), runOps P ops hint R s = some (ob, fs, s') → fs.length = R.length
  | [], s, ob, fs, s', h => by simp [runOps] at h; obtain ⟨_, rfl, _⟩ := h; rfl
  | i :: R, s, ob, fs, s', h => by
    simp only [runOps] at h
    split at h
    · cases h
    · split at h
      · cases h
      · split at h
        · cases h
        · rename_i ob2 fs2 s2 h2
          cases h
          simp [runOps_length R _ _ _ _ h2]

theorem weakSlots_get : ∀ (as bs : List (Option AV)) (ob : List Prop), weakSlots as bs = some ob → AllP ob → as.length = bs.length ∧ ∀ (t : Nat) (v : AV), bs[t]? = some (some v) → as[t]? = some (some v)
  | [], [], _, _, _ => ⟨rfl, fun t v h => by simp at h⟩
  | [], _ :: _, _, h, _ => by simp [weakSlots] at h
  | _ :: _, [], _, h, _ => by simp [weakSlots] at h
  | a :: as, none :: bs, ob, h, hob => by
    have h' : weakSlots as bs = some ob := by cases a <;> simpa [weakSlots] using h
    obtain ⟨h1, h2⟩ := weakSlots_get as bs ob h' hob
    refine ⟨by simp [h1], fun t v ht => ?_⟩
    cases t with
    | zero => simp at ht
    | succ t => simpa using h2 t v (by simpa using ht)
  | none :: as, some b :: bs, ob, h, _ => by simp [weakSlots] at h
  | some a :: as, some b :: bs, ob, h, hob => by
    simp only [weakSlots, Option.map_eq_some_iff] at h
    obtain ⟨o, ho, rfl⟩ := h
    obtain ⟨k1, k2⟩ := hob
    have k1 : a = b := k1
    obtain ⟨h1, h2⟩ := weakSlots_get as bs o ho k2
    refine ⟨by simp [h1], fun t v ht => ?_⟩
    cases t with
    | zero => simp at ht ⊢; rw [k1]; exact ht
    | succ t => simpa using h2 t v (by simpa using ht)

theorem weakMem_get : ∀ (as bs : List (Option AObj)) (ob : List Prop), weakMem as bs = some ob → AllP ob → as.length = bs.length ∧ (∀ n : Nat, bs[n]? = some none → as[n]? = some none) ∧ ∀ (n : Nat) (o : AObj), bs[n]? = some (some o) → ∃ o', as[n]? = some (some o') ∧ (o = .dead ∨ sameF o' o)
  | [], [], _, _, _ => ⟨rfl, fun n h => by simp at h, fun n o h => by simp at h⟩
  | [], _ :: _, _, h, _ => by simp [weakMem] at h
  | _ :: _, [], _, h, _ => by simp [weakMem] at h
  | none :: as, none :: bs, ob, h, hob => by
    obtain ⟨h1, h2, h3⟩ := weakMem_get as bs ob (by simpa [weakMem] using h) hob
    refine ⟨by simp [h1], fun n hn => ?_, fun n o hn => ?_⟩
    · cases n with
      | zero => simp
      | succ n => simpa using h2 n (by simpa using hn)
    · cases n with
      | zero => simp at hn
      | succ n => simpa using h3 n o (by simpa using hn)
  | none :: as, some b :: bs, ob, h, _ => by simp [weakMem] at h
  | some a :: as, none :: bs, ob, h, _ => by simp [weakMem] at h
  | some a :: as, some b :: bs, ob, h, hob => by
    by_cases hd : b = .dead
    · subst hd
      obtain ⟨h1, h2, h3⟩ := weakMem_get as bs ob (by simpa [weakMem] using h) hob
      refine ⟨by simp [h1], fun n hn => ?_, fun n o hn => ?_⟩
      · cases n with
        | zero => simp at hn
        | succ n => simpa using h2 n (by simpa using hn)
      · cases n with
        | zero => simp at hn; exact ⟨a, by simp, .inl hn.symm⟩
        | succ n => simpa using h3 n o (by simpa using hn)
    · have h' : ∃ o, weakMem as bs = some o ∧ ob = sameF a b :: o := by
        cases b <;> first
          | exact absurd rfl hd
          | (simp only [weakMem, Option.map_eq_some_iff] at h; obtain ⟨o, ho, e⟩ := h; exact ⟨o, ho, e.symm⟩)
      obtain ⟨o, ho, rfl⟩ := h'
      obtain ⟨k1, k2⟩ := hob
      have k1 : sameF a b := k1
      obtain ⟨h1, h2, h3⟩ := weakMem_get as bs o ho k2
      refine ⟨by simp [h1], fun n hn => ?_, fun n o hn => ?_⟩
      · cases n with
        | zero => simp at hn
        | succ n => simpa using h2 n (by simpa using hn)
      · cases n with
        | zero => simp at hn; exact ⟨a, by simp, .inr (hn ▸ k1)⟩
        | succ n => simpa using h3 n o (by simpa using hn)

theorem Rel.weak {w0 w : World} {M : Nat → Prop} {E : Env} {s t : AState} {a : Act} {ob : List Prop} (h : Rel w0 M E s a w) (hw : weakA s t = some ob) (hob : AllP ob) : Rel w0 M E t a w := by
  unfold weakA at hw
  split at hw
  · rename_i o1 o2 h1 h2
    cases hw
    obtain ⟨k1, k2⟩ := allP_append.1 hob
    obtain ⟨l1, g1⟩ := weakSlots_get _ _ _ h1 k1
    obtain ⟨l2, g2, g3⟩ := weakMem_get _ _ _ h2 k2
    exact { h with
      size := h.size.trans l1
      slots := fun t v ht => h.slots t v (g1 t v ht)
      fresh := fun n hn => h.fresh n (g2 n hn)
      mem := fun n o hn => by
        obtain ⟨o', ho', hor⟩ := g3 n o hn
        obtain ⟨b, c, hE, hob, hM⟩ := h.mem n o' ho'
        rcases hor with rfl | hs
        · exact ⟨b, c, hE, trivial, fun e => by cases e⟩
        · exact ⟨b, c, hE, sameF_obj hs hob, fun e ht => hM (by rw [← sameF_mine hs]; exact e) (sameF_touches' hs ht)⟩
      apart := fun n m o o2 b c b' c' hn hm ho ho2 e1 e2 hne => by
        obtain ⟨x, hx, hor⟩ := g3 n o hn
        obtain ⟨y, hy, hor2⟩ := g3 m o2 hm
        rcases hor with rfl | hs
        · cases ho
        · rcases hor2 with rfl | hs2
          · cases ho2
          · exact fun ht => h.apart n m x y b c b' c' hx hy (by rw [← sameF_owned hs]; exact ho) (by rw [← sameF_live hs2]; exact ho2) e1 e2 hne (sameF_touches' hs2 ht) }
  · cases hw

theorem wp_block_ex {c : Code} {id : Nat} {Q : Exit → Act → World → Prop} {a : Act} {w : World} (h : c.wp P (Exit.inBlock id Q) a w) : (Code.block id c).wp P Q a w := wp_block h

/-- A RUN IS SOUND. -/
theorem exec_sound {K : Nat} : ∀ (c : Code) (q : List Orc) (s : AState) (r : Out), exec P K c q s = some r → AllP r.obl → Tri P c s r.ex r.st K
  | .skip, q, s, r, h, hob => by
    simp [exec] at h; subst h
    exact fun w0 M E a w hR => wp_skip ⟨rfl, E, .refl _ _, hR⟩
  | .label l, q, s, r, h, hob => by
    simp [exec] at h; subst h
    exact fun w0 M E a w hR => wp_label ⟨rfl, E, .refl _ _, hR⟩
  | .ret, q, s, r, h, hob => by
    simp [exec] at h; subst h
    exact fun w0 M E a w hR => wp_ret ⟨rfl, E, .refl _ _, hR⟩
  | .exit id, q, s, r, h, hob => by
    simp [exec] at h; subst h
    exact fun w0 M E a w hR => wp_exit ⟨rfl, E, .refl _ _, hR⟩
  | .region id ops draw, q, s, r, h, hob => by
    cases q with
    | nil => simp [exec] at h
    | cons o q =>
      cases o with
      | loop _ _ _ => simp [exec] at h
      | reg hs =>
        simp only [exec] at h
        split at h
        · rename_i ob fs s' hr
          split at h
          · rename_i hd
            cases h
            intro w0 M E a w hR
            have hlen := runOps_length _ _ _ _ _ hr
            have runs := runs_of_runOps (LG := fun i => fs.getD i .no) _ _ _ _ _ hr hob (fun j => by
              by_cases hj : j < ops.size
              · have hj' : j < fs.length := by simpa [hlen] using hj
                simp [hj, hj', List.getD]
              · have hj' : ¬ j < fs.length := by simpa [hlen] using hj
                rw [List.getElem?_eq_none (by omega), List.getElem?_eq_none (by simp; omega)]; rfl)
            cases draw with
            | false => exact region_text runs hR fun E' a' w' hle h' => ⟨rfl, E', hle.toK, h'⟩
            | true =>
              simp only [Bool.not_true, Bool.false_or, orderOK, Bool.and_eq_true] at hd
              exact region_draw hd.1.1 hd.1.2 hd.2 runs hR fun E' a' w' hle h' => ⟨rfl, E', hle.toK, h'⟩
          · cases h
        · cases h
  | .seq x y, q, s, r, h, hob => by
    simp only [exec] at h
    split at h
    · rename_i ob s' q' hx
      split at h
      · rename_i ob2 ex s2 q2 hy
        cases h
        obtain ⟨k1, k2⟩ := allP_append.1 hob
        have t1 := exec_sound x q s _ hx k1
        have t2 := exec_sound y q' s' _ hy k2
        intro w0 M E a w hR
        refine wp_seq (wp_mono (t1 w0 M E a w hR) ?_)
        rintro e a' w' ⟨rfl, E', hle, h'⟩
        refine wp_mono (t2 w0 M E' a' w' h') ?_
        rintro e2 a2 w2 ⟨rfl, E2, hle2, h2⟩
        exact ⟨rfl, E2, hle.trans hle2, h2⟩
      · cases h
    · rename_i hx
      have t1 := exec_sound x q s _ h hob
      intro w0 M E a w hR
      refine wp_seq (wp_mono (t1 w0 M E a w hR) ?_)
      rintro e a' w' ⟨rfl, E', hle, h'⟩
      obtain ⟨ob, ex, s', q'⟩ := r
      cases ex with
      | normal => exact absurd h (hx ob s' q')
      | exit id => exact ⟨rfl, E', hle, h'⟩
      | ret => exact ⟨rfl, E', hle, h'⟩
  | .cond c x y, q, s, r, h, hob => by
    simp only [exec] at h
    split at h
    · rename_i hc
      intro w0 M E a w hR
      have := hR.ev hc
      exact wp_cond_true (by simpa [den] using this.symm) (exec_sound x q s r h hob w0 M E a w hR)
    · rename_i hc
      intro w0 M E a w hR
      have := hR.ev hc
      exact wp_cond_false (by simpa [den] using this.symm) (exec_sound y q s r h hob w0 M E a w hR)
    · cases h
  | .block id x, q, s, r, h, hob => by
    simp only [exec] at h
    split at h
    · rename_i ob j s' q' hx
      cases h
      have t1 := exec_sound x q s _ hx hob
      intro w0 M E a w hR
      refine wp_block (wp_mono (t1 w0 M E a w hR) ?_)
      rintro e a' w' ⟨rfl, E', hle, h'⟩
      simp only [Ex.to, Exit.inBlock]
      by_cases hj : j = id
      · simp only [hj, if_true, beq_self_eq_true]; exact ⟨trivial, E', hle, h'⟩
      · have hj' : (j == id) = false := by simpa using hj
        simp only [hj, if_false, hj', Bool.false_eq_true]; exact ⟨trivial, E', hle, h'⟩
    · rename_i hx
      have t1 := exec_sound x q s _ h hob
      intro w0 M E a w hR
      refine wp_block (wp_mono (t1 w0 M E a w hR) ?_)
      rintro e a' w' ⟨rfl, E', hle, h'⟩
      obtain ⟨ob, ex, s', q'⟩ := r
      cases ex with
      | normal => exact ⟨rfl, E', hle, h'⟩
      | exit j => exact absurd h (hx ob j s' q')
      | ret => exact ⟨rfl, E', hle, h'⟩
  | .loop x, q, s, r, h, hob => by
    cases q with
    | nil => simp [exec] at h
    | cons o q =>
      cases o with
      | reg _ => simp [exec] at h
      | loop sIn ex sOut =>
        simp only [exec] at h
        split at h
        · rename_i ob hw
          cases h
          obtain ⟨k1, k2, _⟩ := allP_append.1 hob |>.imp id id
          exact fun w0 M E a w hR => k2 w0 M E a w (hR.weak hw k1)
        · cases h
  | .rangeFunc _ _ _ _, q, s, r, h, hob => by simp [exec] at h
  | .scope _, q, s, r, h, hob => by simp [exec] at h
  | .goto _, q, s, r, h, hob => by simp [exec] at h
  | .refuse _, q, s, r, h, hob => by simp [exec] at h

end Go.Proofs.YtpdhfopfjoinnaaDoor.Sx
