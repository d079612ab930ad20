import Derived.Test.YtphhepnldndbhaaGreatDoorGr02
import Derived.LoopN
set_option linter.unusedSimpArgs false
set_option linter.unusedVariables false
namespace Go.Proofs.YtphhepnldndbhaaGreatDoor.Sx
open Go
variable {P : Program}
def tmpsOf : List Operand → List Nat
  | [] => []
  | .tmp t :: xs => t :: tmpsOf xs
  | _ :: xs => tmpsOf xs
def looks (ops : Array Oper) (o : Oper) : List Nat :=
  (match o.guard with
    | none => []
    | some (j, _) => match (ops[j]?).bind (·.dst) with | some d => [d] | none => []) ++ tmpsOf o.op.operands.toList
structure Delta where
  dst : Option Tmp
  v : AV
  wn : List Nat
  wo : List AObj
  an : List Nat
  ao : List AObj
def Delta.app (d : Delta) (s : AState) : AState := { s.put d.dst d.v with mem := setMem (setMem s.mem d.wn d.wo) d.an d.ao }
structure Agree (ops : Array Oper) (o : Oper) (F : Foot) (s s' : AState) : Prop where
  slots : ∀ t ∈ looks ops o, s'.slots[t]? = s.slots[t]?
  rd : ∀ n ∈ F.rd, s'.mem[n]? = s.mem[n]?
  al : ∀ n ∈ F.al, s'.mem[n]? = s.mem[n]?
theorem ev_congr {s s' : AState} {x : Operand} (h : ∀ t, x = .tmp t → s'.slots[t]? = s.slots[t]?) : s'.ev x = s.ev x := by
  cases x with
  | tmp t => simp only [AState.ev, h t rfl]
  | _ => rfl
theorem evs_congr {s s' : AState} : ∀ (xs : List Operand), (∀ t ∈ tmpsOf xs, s'.slots[t]? = s.slots[t]?) → evs s' xs = evs s xs
  | [], _ => rfl
  | x :: xs, h => by
    have h1 : s'.ev x = s.ev x := ev_congr fun t e => h t (by subst e; simp [tmpsOf])
    have h2 : evs s' xs = evs s xs := evs_congr xs fun t ht => h t (by cases x <;> simp [tmpsOf, ht])
    simp only [evs, h1, h2]
theorem objs_congr {m m' : List (Option AObj)} : ∀ (ns : List Nat), (∀ n ∈ ns, m'[n]? = m[n]?) → objs m' ns = objs m ns
  | [], _ => rfl
  | n :: ns, h => by
    simp only [objs, h n (by simp), objs_congr ns fun k hk => h k (by simp [hk])]
theorem guardA_congr {ops : Array Oper} {o : Oper} {s s' : AState} (h : ∀ t ∈ looks ops o, s'.slots[t]? = s.slots[t]?) : guardA ops o s' = guardA ops o s := by
  unfold guardA
  cases hg : o.guard with
  | none => rfl
  | some p =>
    obtain ⟨j, want⟩ := p
    simp only
    cases hd : (ops[j]?).bind (·.dst) with
    | none => rfl
    | some d =>
      simp only
      rw [h d (by simp [looks, hg, hd])]
theorem all_congr {f g : Nat → Bool} {l : List Nat} (h : ∀ n ∈ l, f n = g n) : l.all f = l.all g := by
  induction l with
  | nil => rfl
  | cons a l ih => simp only [List.all_cons, h a (by simp), ih fun n hn => h n (by simp [hn])]
theorem astep_local {ops : Array Oper} {h : Hint} {o : Oper} {s : AState} {st : Step} (hs : astep P ops h o s = some st) :
    ∃ d : Delta, st.st = d.app s ∧ d.dst = o.dst ∧ (∀ n ∈ d.wn, n ∈ st.foot.rd ∧ st.foot.ws ≠ []) ∧ d.an = st.foot.al ∧
      ∀ s', Agree ops o st.foot s s' → astep P ops h o s' = some ⟨st.obl, st.foot, d.app s'⟩ := by
  unfold astep at hs
  split at hs
  · cases hs
  · rename_i hg
    cases hs
    refine ⟨⟨o.dst, .tuple [], [], [], [], []⟩, ?_, rfl, (fun n hn => by cases hn), rfl, fun s' ha => ?_⟩
    · cases o.dst <;> rfl
    · unfold astep
      rw [guardA_congr ha.slots, hg]
      simp only [Delta.app, setMem]
      cases o.dst <;> rfl
  · rename_i hg
    split at hs
    · cases hs
    · rename_i vals hv
      split at hs
      · cases hs
      · rename_i F hf
        split at hs
        · cases hs
        · rename_i cs hc
          split at hs
          · rename_i hck
            split at hs
            · cases hs
            · rename_i r hr
              split at hs
              · rename_i hfin
                cases hs
                refine ⟨⟨o.dst, r.val, if F.ws.isEmpty then [] else F.rd, r.upd, F.al, r.new⟩, ?_, rfl, ?_, rfl, fun s' ha => ?_⟩
                · simp only [Delta.app]
                  cases F.ws.isEmpty <;> simp [setMem]
                · intro n hn
                  simp only at hn
                  split at hn
                  · cases hn
                  · rename_i hw; exact ⟨hn, by simpa using hw⟩
                · unfold astep
                  have hrd : ∀ n ∈ F.rd, s'.mem[n]? = s.mem[n]? := ha.rd
                  have hal : ∀ n ∈ F.al, s'.mem[n]? = s.mem[n]? := ha.al
                  simp only [Bool.and_eq_true] at hck
                  have hsub : ∀ n ∈ F.ws, n ∈ F.rd := fun n hn => by
                    have := List.all_eq_true.1 hck.1.2 n hn; simpa using this
                  have e1 : F.al.all (freshB s'.mem) = F.al.all (freshB s.mem) := all_congr fun n hn => by unfold freshB; rw [hal n hn]
                  have e2 : F.ws.all (ownedB s'.mem) = F.ws.all (ownedB s.mem) := all_congr fun n hn => by unfold ownedB; rw [hrd n (hsub n hn)]
                  have ht : (∀ t ∈ tmpsOf o.op.operands.toList, s'.slots[t]? = s.slots[t]?) := fun t ht => ha.slots t (by simp [looks, ht])
                  rw [guardA_congr ha.slots, hg]
                  simp only [evs_congr _ ht, hv, hf, objs_congr _ hrd, hc, e1, e2, hr]
                  rw [if_pos (by simpa only [Bool.and_eq_true] using hck), if_pos hfin]
                  simp only [Delta.app]
                  cases F.ws.isEmpty <;> simp [setMem]
              · cases hs
          · cases hs
def dstFree (ops : Array Oper) (x y : Oper) : Bool :=
  match x.dst with
  | none => true
  | some d => !(looks ops y).contains d && !(y.dst == some d)
def memFree (F G : Foot) : Bool :=
  (F.ws.isEmpty || F.rd.all fun n => !G.rd.contains n && !G.al.contains n) && F.al.all fun n => !G.rd.contains n && !G.al.contains n
def indepB (ops : Array Oper) (x y : Oper) (F G : Foot) : Bool := dstFree ops x y && dstFree ops y x && memFree F G && memFree G F
theorem memFree_spec {F G : Foot} (h : memFree F G = true) {d : Delta} (h1 : ∀ n ∈ d.wn, n ∈ F.rd ∧ F.ws ≠ []) (h2 : d.an = F.al) : ∀ n, (n ∈ d.wn ∨ n ∈ d.an) → n ∉ G.rd ∧ n ∉ G.al := by
  simp only [memFree, Bool.and_eq_true, Bool.or_eq_true] at h
  rintro n (hn | hn)
  · obtain ⟨a, b⟩ := h1 n hn
    rcases h.1 with g | g
    · exact absurd (by simpa using g) b
    · have := List.all_eq_true.1 g n a
      simpa using this
  · have := List.all_eq_true.1 h.2 n (h2 ▸ hn)
    simpa using this
theorem app_mem_other {d : Delta} {s : AState} {n : Nat} (h1 : n ∉ d.wn) (h2 : n ∉ d.an) : (d.app s).mem[n]? = s.mem[n]? := by
  simp only [Delta.app]
  rw [setMem_not _ _ _ _ h2, setMem_not _ _ _ _ h1]
theorem app_slots_other {d : Delta} {s : AState} {t : Nat} (h : d.dst ≠ some t) : (d.app s).slots[t]? = s.slots[t]? := by
  simp only [Delta.app, AState.put]
  cases hd : d.dst with
  | none => rfl
  | some u =>
    simp only
    rw [List.getElem?_set_ne (by rintro rfl; exact h hd)]
theorem setMem_comm {ns ms : List Nat} (h : ∀ n ∈ ns, n ∉ ms) : ∀ (os us : List AObj) (mem : List (Option AObj)), setMem (setMem mem ns os) ms us = setMem (setMem mem ms us) ns os := by
  have one : ∀ (ms : List Nat) (us : List AObj) (mem : List (Option AObj)) (n : Nat) (o : AObj), n ∉ ms → setMem (mem.set n (some o)) ms us = (setMem mem ms us).set n (some o) := by
    intro ms
    induction ms with
    | nil => intro us mem n o _; simp [setMem]
    | cons m ms ih =>
      intro us mem n o hn
      simp only [List.mem_cons, not_or] at hn
      cases us with
      | nil => simp [setMem]
      | cons u us =>
        simp only [setMem]
        rw [List.set_comm _ _ (fun e => hn.1 e), ih us _ n o hn.2]
  induction ns with
  | nil => intro os us mem; simp [setMem]
  | cons n ns ih =>
    intro os us mem
    cases os with
    | nil => simp [setMem]
    | cons o os =>
      simp only [setMem]
      rw [ih (fun k hk => h k (by simp [hk])), one ms us mem n o (h n (by simp))]
theorem astep_comm {ops : Array Oper} {hi hj : Hint} {x y : Oper} {s : AState} {st1 st2 : Step} (h1 : astep P ops hi x s = some st1) (h2 : astep P ops hj y st1.st = some st2) (hind : indepB ops x y st1.foot st2.foot = true) :
    ∃ st1' st2', astep P ops hj y s = some st1' ∧ st1'.obl = st2.obl ∧ st1'.foot = st2.foot ∧ astep P ops hi x st1'.st = some st2' ∧ st2'.obl = st1.obl ∧ st2'.foot = st1.foot ∧ st2'.st = st2.st := by
  simp only [indepB, Bool.and_eq_true] at hind
  obtain ⟨⟨⟨i1, i2⟩, i3⟩, i4⟩ := hind
  obtain ⟨d, e1, dd, dw, da, dl⟩ := astep_local h1
  obtain ⟨g, e2, gd, gw, ga, gl⟩ := astep_local h2
  have mf := memFree_spec i3 dw da
  have mg := memFree_spec i4 gw ga
  have sx : ∀ t, x.dst = some t → t ∉ looks ops y ∧ y.dst ≠ some t := fun t ht => by
    simp only [dstFree, ht, Bool.and_eq_true] at i1; simpa using i1
  have sy : ∀ t, y.dst = some t → t ∉ looks ops x ∧ x.dst ≠ some t := fun t ht => by
    simp only [dstFree, ht, Bool.and_eq_true] at i2; simpa using i2
  have a1 : Agree ops y st2.foot st1.st s :=
    { slots := fun t ht => by rw [e1, app_slots_other (by rw [dd]; intro e; exact (sx t e).1 ht)]
      rd := fun n hn => by rw [e1, app_mem_other (fun h => (mf n (.inl h)).1 hn) (fun h => (mf n (.inr h)).1 hn)]
      al := fun n hn => by rw [e1, app_mem_other (fun h => (mf n (.inl h)).2 hn) (fun h => (mf n (.inr h)).2 hn)] }
  have a2 : Agree ops x st1.foot s (g.app s) :=
    { slots := fun t ht => app_slots_other (by rw [gd]; intro e; exact (sy t e).1 ht)
      rd := fun n hn => app_mem_other (fun h => (mg n (.inl h)).1 hn) (fun h => (mg n (.inr h)).1 hn)
      al := fun n hn => app_mem_other (fun h => (mg n (.inl h)).2 hn) (fun h => (mg n (.inr h)).2 hn) }
  refine ⟨_, _, gl s a1, rfl, rfl, dl _ a2, rfl, rfl, ?_⟩
  rw [e2, e1]
  simp only [Delta.app]
  congr 1
  · simp only [AState.put, dd, gd]
    cases hx : x.dst with
    | none => cases y.dst <;> rfl
    | some a =>
      cases hy : y.dst with
      | none => rfl
      | some b =>
        simp only
        exact List.set_comm _ _ (by rintro rfl; exact (sx _ hx).2 hy)
  · have m1 : ∀ n, n ∈ d.wn ∨ n ∈ d.an → n ∉ g.wn ∧ n ∉ g.an := fun n hn => ⟨fun h => (mf n hn).1 (gw n h).1, fun h => (mf n hn).2 (ga ▸ h)⟩
    have eg : ∀ m, setMem (setMem m g.wn g.wo) g.an g.ao = setMem (setMem m g.wn g.wo) g.an g.ao := fun _ => rfl
    have c1 : ∀ m, setMem (setMem (setMem m d.an d.ao) g.wn g.wo) g.an g.ao = setMem (setMem (setMem m g.wn g.wo) g.an g.ao) d.an d.ao := fun m => by
      rw [setMem_comm (fun n hn => (m1 n (.inr hn)).1), setMem_comm (fun n hn => (m1 n (.inr hn)).2)]
    have c2 : ∀ m, setMem (setMem (setMem m d.wn d.wo) g.wn g.wo) g.an g.ao = setMem (setMem (setMem m g.wn g.wo) g.an g.ao) d.wn d.wo := fun m => by
      rw [setMem_comm (fun n hn => (m1 n (.inl hn)).1), setMem_comm (fun n hn => (m1 n (.inl hn)).2)]
    have p1 : ∀ (q : AState) (z : Option Tmp) (v : AV), (q.put z v).mem = q.mem := fun q z v => by cases z <;> rfl
    rw [c1, c2]
end Go.Proofs.YtphhepnldndbhaaGreatDoor.Sx
namespace Go.Proofs.YtphhepnldndbhaaGreatDoor.Sx
open Go
variable {P : Program}
inductive Runs (P : Program) (ops : Array Oper) (hint : Nat → Hint) (LG : Nat → Foot) : List Nat → AState → AState → Prop
  | nil (s : AState) : Runs P ops hint LG [] s s
  | cons {i : Nat} {o : Oper} {st : Step} {R : List Nat} {s s' : AState} (ho : ops[i]? = some o) (hs : astep P ops (hint i) o s = some st) (hob : AllP st.obl) (hf : st.foot = LG i) (r : Runs P ops hint LG R st.st s') : Runs P ops hint LG (i :: R) s s'
variable {ops : Array Oper} {hint : Nat → Hint} {LG : Nat → Foot}
def indepI (ops : Array Oper) (LG : Nat → Foot) (k i : Nat) : Bool :=
  match ops[k]?, ops[i]? with
  | some x, some y => indepB ops x y (LG k) (LG i)
  | _, _ => false
theorem runs_front {i : Nat} {post : List Nat} {s' : AState} : ∀ (pre : List Nat) (s : AState), Runs P ops hint LG (pre ++ i :: post) s s' → (∀ k ∈ pre, indepI ops LG k i = true) → Runs P ops hint LG (i :: (pre ++ post)) s s'
  | [], s, h, _ => h
  | k :: pre, s, h, hi => by
    cases h with
    | cons ho hs hob hf r =>
      have r' := runs_front pre _ r (fun j hj => hi j (by simp [hj]))
      cases r' with
      | cons ho2 hs2 hob2 hf2 r2 =>
        have hind := hi k (by simp)
        simp only [indepI, ho, ho2] at hind
        rw [← hf, ← hf2] at hind
        obtain ⟨st1, st2, a1, a2, a3, a4, a5, a6, a7⟩ := astep_comm hs hs2 hind
        refine .cons ho2 a1 (a2 ▸ hob2) (a3.trans hf2) (.cons ho a4 (a5 ▸ hob) (a6.trans hf) ?_)
        rw [a7]; exact r2
theorem runs_text {ro : Option Nat} {w0 : World} {M : Nat → Prop} {Q : Exit → Act → World → Prop} {s' : AState} : ∀ (R : List Nat) (s : AState) (E : Env) (a : Act) (w : World), Runs P ops hint LG R s s' → Rel w0 M E s a w →
    (∀ E' a' w', Env.le E E' → Rel w0 M E' s' a' w' → Q .normal a' w') → wpOpsIn (WR ro) 0 P ops Q R a w
  | [], s, E, a, w, r, h, hq => by cases r; exact hq E a w (.refl _) h
  | i :: R, s, E, a, w, r, h, hq => by
    cases r with
    | cons ho hs hob hf r =>
      have hn : ∀ E' a' w', Env.le E E' → Rel w0 M E' _ a' w' → wpOpsIn (WR ro) 0 P ops Q R a' w' := fun E' a' w' hle h' => runs_text R _ E' a' w' r h' (fun E2 a2 w2 l2 h2 => hq E2 a2 w2 (hle.trans l2) h2)
      have := astep_sound (ro := ro) (Q := Q) hs hob h hn
      rw [wpOpsIn]
      simp only [ho]
      split
      · rename_i hw; rw [if_pos hw] at this; exact this
      · rename_i hw; rw [if_neg hw] at this; exact ⟨fun _ _ => True.intro, this⟩
def direct (o : Oper) : List Nat := o.after.toList.filterMap fun e => if Region.binds .any e then some e.on else none
def directI (ops : Array Oper) (i : Nat) : List Nat := match ops[i]? with | some o => direct o | none => []
def ancOK (ops : Array Oper) (A : List (List Nat)) : Bool :=
  (List.range ops.size).all fun i => (directI ops i).all (fun k => decide (k < i)) && (A.getD i []).all fun m => (directI ops i).contains m || (directI ops i).any fun k => (A.getD k []).contains m
def pairsOK (ops : Array Oper) (A : List (List Nat)) (LG : Nat → Foot) : Bool :=
  (List.range ops.size).all fun i => (List.range i).all fun k => (A.getD i []).contains k || indepI ops LG k i
theorem mem_ready {listed : Array Bool} {i : Nat} (h : i ∈ Region.ready .any ops listed) : i < ops.size ∧ listed.getD i true = false ∧ ∀ k ∈ directI ops i, listed.getD k false = true := by
  simp only [Region.ready, List.mem_filter, List.mem_range, Bool.and_eq_true, Bool.not_eq_true'] at h
  obtain ⟨h1, h2, h3⟩ := h
  refine ⟨h1, h2, fun k hk => ?_⟩
  have ho : ops[i]? = some ops[i] := by simp [h1]
  simp only [ho, Option.map_some, Option.getD_some] at h3
  simp only [directI, ho, direct, List.mem_filterMap] at hk
  obtain ⟨e, he, hb⟩ := hk
  split at hb
  · rename_i hbind
    cases hb
    have := (Array.all_eq_true'.1 h3) e (Array.mem_toList_iff.1 he)
    simpa [hbind] using this
  · cases hb
theorem ready_of {listed : Array Bool} {i : Nat} (h1 : i < ops.size) (h2 : listed.getD i true = false) (h3 : ∀ k ∈ directI ops i, listed.getD k false = true) : i ∈ Region.ready .any ops listed := by
  simp only [Region.ready, List.mem_filter, List.mem_range, Bool.and_eq_true, Bool.not_eq_true']
  refine ⟨h1, h2, ?_⟩
  have ho : ops[i]? = some ops[i] := by simp [h1]
  simp only [ho, Option.map_some, Option.getD_some]
  refine Array.all_eq_true'.2 fun e he => ?_
  cases hb : Region.binds .any e with
  | false => simp
  | true =>
    have := h3 e.on (by
      simp only [directI, ho, direct, List.mem_filterMap]
      exact ⟨e, Array.mem_toList_iff.2 he, by simp [hb]⟩)
    simpa using this
theorem getD_flip {listed : Array Bool} {k : Nat} (hk : k < listed.size) : (listed.getD k true = false ↔ ¬ listed.getD k false = true) := by
  simp [Array.getD, hk]
theorem runs_any {ro : Option Nat} {w0 : World} {M : Nat → Prop} {Q : Exit → Act → World → Prop} {s' : AState} {A : List (List Nat)} (hA : ancOK ops A = true) (hP : pairsOK ops A LG = true) :
    ∀ (fuel : Nat) (listed : Array Bool) (R : List Nat) (s : AState) (E : Env) (a : Act) (w : World), listed.size = ops.size → R.length ≤ fuel → R.Pairwise (· < ·) → (∀ i, i ∈ R ↔ i < ops.size ∧ listed.getD i true = false) →
      (∀ i, i < ops.size → listed.getD i false = true → ∀ k ∈ A.getD i [], listed.getD k false = true) → Runs P ops hint LG R s s' → Rel w0 M E s a w → (∀ E' a' w', Env.le E E' → Rel w0 M E' s' a' w' → Q .normal a' w') →
      wpAnyIn (WR ro) 0 P .any ops Q fuel listed a w := by
  have hA' : ∀ i, i < ops.size → (∀ k ∈ directI ops i, k < i) ∧ ∀ m ∈ A.getD i [], m ∈ directI ops i ∨ ∃ k ∈ directI ops i, m ∈ A.getD k [] := fun i hi => by
    have := List.all_eq_true.1 hA i (List.mem_range.2 hi)
    simp only [Bool.and_eq_true, List.all_eq_true, decide_eq_true_eq, Bool.or_eq_true, List.contains_eq_mem, List.any_eq_true] at this
    exact this
  have hP' : ∀ i, i < ops.size → ∀ k, k < i → k ∈ A.getD i [] ∨ indepI ops LG k i = true := fun i hi k hk => by
    have := List.all_eq_true.1 (List.all_eq_true.1 hP i (List.mem_range.2 hi)) k (List.mem_range.2 hk)
    simpa using this
  have rnil : ∀ (listed : Array Bool) (R : List Nat), listed.size = ops.size → R.Pairwise (· < ·) → (∀ i, i ∈ R ↔ i < ops.size ∧ listed.getD i true = false) → Region.ready .any ops listed = [] → R = [] := by
    intro listed R hsz hp hR hr
    cases R with
    | nil => rfl
    | cons i R =>
      exfalso
      obtain ⟨h1, h2⟩ := (hR i).1 (by simp)
      have : i ∈ Region.ready .any ops listed := ready_of h1 h2 fun k hk => by
        have hki := (hA' i h1).1 k hk
        cases hb : listed.getD k false with
        | true => rfl
        | false =>
          exfalso
          have hkR := (hR k).2 ⟨by omega, (getD_flip (by omega)).2 (by simp [hb])⟩
          rcases List.mem_cons.1 hkR with e | e
          · omega
          · have := (List.pairwise_cons.1 hp).1 k e; omega
      rw [hr] at this; cases this
  intro fuel
  induction fuel with
  | zero =>
    intro listed R s E a w hsz hlen hp hR hcl r h hq
    have : R = [] := List.length_eq_zero_iff.1 (by omega)
    subst this
    cases r
    refine ⟨?_, hq E a w (.refl _) h⟩
    cases hr : Region.ready .any ops listed with
    | nil => rfl
    | cons i l =>
      obtain ⟨h1, h2, _⟩ := mem_ready (ops := ops) (listed := listed) (i := i) (by rw [hr]; simp)
      exact absurd ((hR i).2 ⟨h1, h2⟩) (by simp)
  | succ fuel ih =>
    intro listed R s E a w hsz hlen hp hR hcl r h hq
    refine ⟨fun hr => ?_, fun i hi => ?_⟩
    · have := rnil listed R hsz hp hR hr
      subst this
      cases r
      exact hq E a w (.refl _) h
    · obtain ⟨h1, h2, h3⟩ := mem_ready hi
      have hanc : ∀ m ∈ A.getD i [], listed.getD m false = true := fun m hm => by
        rcases (hA' i h1).2 m hm with g | ⟨k, hk, g⟩
        · exact h3 m g
        · exact hcl k (by have := (hA' i h1).1 k hk; omega) (h3 k hk) m g
      obtain ⟨pre, post, rfl⟩ := List.append_of_mem ((hR i).2 ⟨h1, h2⟩)
      have hpre : ∀ k ∈ pre, indepI ops LG k i = true := fun k hk => by
        have hlt : k < i := (List.pairwise_append.1 hp).2.2 k hk i (by simp)
        rcases hP' i h1 k hlt with g | g
        · exfalso
          have := hanc k g
          obtain ⟨_, hk2⟩ := (hR k).1 (by simp [hk])
          exact (getD_flip (by omega)).1 hk2 this
        · exact g
      have r' := runs_front pre s r hpre
      cases r' with
      | cons ho hs hob hf r2 =>
        have hsz' : (listed.setIfInBounds i true).size = ops.size := by simpa using hsz
        have hnd : (pre ++ i :: post).Nodup := hp.imp (fun h => Nat.ne_of_lt h)
        have hp2 : (pre ++ post).Pairwise (· < ·) := hp.sublist (by simp)
        have hset : ∀ k d, (listed.setIfInBounds i true).getD k d = if k = i then true else listed.getD k d := fun k d => by
          by_cases e : k = i
          · subst e; simp [Array.getD, hsz, h1]
          · rw [if_neg e, getD_set_ne d (fun h => e h.symm)]
        have hR2 : ∀ k, k ∈ pre ++ post ↔ k < ops.size ∧ (listed.setIfInBounds i true).getD k true = false := fun k => by
          rw [hset]
          by_cases e : k = i
          · subst e
            simp only [if_true]
            constructor
            · intro hk
              exfalso
              rw [List.nodup_append] at hnd
              rcases List.mem_append.1 hk with g | g
              · exact hnd.2.2 k g k (by simp) rfl
              · exact (List.nodup_cons.1 hnd.2.1).1 g
            · rintro ⟨_, hh⟩; cases hh
          · rw [if_neg e, ← hR k]
            simp [e]
        have hcl2 : ∀ j, j < ops.size → (listed.setIfInBounds i true).getD j false = true → ∀ k ∈ A.getD j [], (listed.setIfInBounds i true).getD k false = true := fun j hj hl k hk => by
          rw [hset] at hl ⊢
          by_cases ek : k = i
          · simp [ek]
          · rw [if_neg ek]
            by_cases ej : j = i
            · subst ej; exact hanc k hk
            · rw [if_neg ej] at hl; exact hcl j hj hl k hk
        have hn : ∀ E' a' w', Env.le E E' → Rel w0 M E' _ a' w' → wpAnyIn (WR ro) 0 P .any ops Q fuel (listed.setIfInBounds i true) a' w' := fun E' a' w' hle h' =>
          ih _ (pre ++ post) _ E' a' w' hsz' (by simp at hlen ⊢; omega) hp2 hR2 hcl2 r2 h' (fun E2 a2 w2 l2 h2 => hq E2 a2 w2 (hle.trans l2) h2)
        have := astep_sound (ro := ro) (Q := Q) hs hob h hn
        unfold wpOpIn
        simp only [ho]
        split
        · rename_i hw; rw [if_pos hw] at this; exact this
        · rename_i hw; rw [if_neg hw] at this; exact ⟨fun _ _ => True.intro, this⟩
theorem region_text {ro : Option Nat} {w0 : World} {M : Nat → Prop} {Q : Exit → Act → World → Prop} {s s' : AState} {E : Env} {a : Act} {w : World} {id : Nat} (r : Runs P ops hint LG (List.range ops.size) s s') (h : Rel w0 M E s a w)
    (hq : ∀ E' a' w', Env.le E E' → Rel w0 M E' s' a' w' → Q .normal a' w') : (Code.region id ops false).wpIn (WR ro) 0 P Q a w :=
  wpIn_region (runs_text _ s E a w r h hq)
theorem region_draw {ro : Option Nat} {w0 : World} {M : Nat → Prop} {Q : Exit → Act → World → Prop} {s s' : AState} {E : Env} {a : Act} {w : World} {id : Nat} {A : List (List Nat)} (hm : P.follows .mixedOrders = true) (hA : ancOK ops A = true) (hP : pairsOK ops A LG = true)
    (r : Runs P ops hint LG (List.range ops.size) s s') (h : Rel w0 M E s a w) (hq : ∀ E' a' w', Env.le E E' → Rel w0 M E' s' a' w' → Q .normal a' w') : (Code.region id ops true).wpIn (WR ro) 0 P Q a w :=
  wpIn_region_any hm (runs_any hA hP ops.size _ (List.range ops.size) s E a _ (by simp) (by simp) List.pairwise_lt_range (fun i => by
      rw [List.mem_range]
      constructor
      · intro hi; exact ⟨hi, by simp [Array.getD, hi]⟩
      · exact fun hh => hh.1)
    (fun i hi hl => by simp [Array.getD, hi] at hl) r (h.drew _) hq)
end Go.Proofs.YtphhepnldndbhaaGreatDoor.Sx
namespace Go.Proofs.YtphhepnldndbhaaGreatDoor.Sx
open Go
variable {P : Program}
inductive Ex where
  | normal
  | exit (id : Nat)
  | ret
def Ex.to : Ex → Exit
  | .normal => .normal
  | .exit id => .exit id
  | .ret => .ret
def Env.leK (K : Nat) (E E' : Env) : Prop := ∀ n p, n < K → E n = some p → E' n = some p
theorem Env.leK.refl (K : Nat) (E : Env) : Env.leK K E E := fun _ _ _ h => h
theorem Env.leK.trans {K : Nat} {A B C : Env} (h : Env.leK K A B) (k : Env.leK K B C) : Env.leK K A C := fun n p hn e => k n p hn (h n p hn e)
theorem Env.le.toK {K : Nat} {A B : Env} (h : Env.le A B) : Env.leK K A B := fun n p _ e => h n p e
theorem wpIn_scope {F : Fence} {n : Nat} {P : Program} {Q : Exit → Act → World → Prop} {a : Act} {w : World} {c : Code} (h : c.wpIn F n P Q a w) (hg : ∀ l a w, ¬ Q (.goto l) a w) : (Code.scope c).wpIn F n P Q a w := by
  intro b k cs hro hb hr
  have h0 : (lone (b.atR a (.code (.scope c) :: k)) cs w).fenced P F := fenced_calm hb hr rfl
  have s1 : ∀ {k : List Item}, step P (lone (b.atR a (.code (.scope c) :: k)) cs w) = .next (lone (b.atR a (.code c :: .inScope c :: k)) cs w) := step_lone_go (by simp [stepG, stepG.exec, Frame.atR])
  have s2 : ∀ {a : Act} {w : World} {k : List Item}, step P (lone (b.atR a (.inScope c :: k)) cs w) = .next (lone (b.atR a k) cs w) := step_lone_go (by simp [stepG, stepG.exec, Frame.atR])
  obtain ⟨e, a₁, w₁, hq, harr⟩ := h b (.inScope c :: k) cs hro hb hr
  cases e with
  | normal => exact ⟨.normal, a₁, w₁, hq, .head h0 s1 (StepsIn.trans harr (.one (fenced_calm hb hr rfl) s2))⟩
  | exit id =>
    have hx : exitTo id (.inScope c :: k) = exitTo id k := by simp [exitTo]
    exact ⟨.exit id, a₁, w₁, hq, fun k' hk => .head h0 s1 (harr.1 k' (by rw [hx]; exact hk)),
      fun hr' hk => let ⟨k₁, h1, h2⟩ := harr.2 hr' (by rw [hx]; exact hk); ⟨k₁, h1, .head h0 s1 h2⟩⟩
  | goto l => exact absurd hq (hg l a₁ w₁)
  | ret => exact ⟨_, a₁, w₁, hq, .of_steps (.one h0 s1) harr⟩
  | panic ch => exact ⟨_, a₁, w₁, hq, .of_steps (.one h0 s1) harr⟩
  | outgrown => exact ⟨_, a₁, w₁, hq, .of_steps (.one h0 s1) harr⟩
def noRange : Code → Bool
  | .seq a b => noRange a && noRange b
  | .cond _ a b => noRange a && noRange b
  | .block _ b => noRange b
  | .loop b => noRange b
  | .scope b => noRange b
  | .rangeFunc _ _ _ _ => false
  | _ => true
def Tri (P : Program) (c : Code) (s : AState) (ex : Ex) (s' : AState) (K : Nat := 0) : Prop :=
  ∀ (ro : Option Nat) (w0 : World) (M : Nat → Prop) (E : Env) (a : Act) (w : World), (ro = none ∨ noRange c = true) → Rel w0 M E s a w → c.wpIn (WR ro) 0 P (fun e a' w' => e = ex.to ∧ ∃ E', Env.leK K E E' ∧ Rel w0 M E' s' a' w') a w
theorem no_left {ro : Option Nat} {a b : Bool} (h : ro = none ∨ (a && b) = true) : ro = none ∨ a = true := h.imp id fun h => by simp only [Bool.and_eq_true] at h; exact h.1
theorem no_right {ro : Option Nat} {a b : Bool} (h : ro = none ∨ (a && b) = true) : ro = none ∨ b = true := h.imp id fun h => by simp only [Bool.and_eq_true] at h; exact h.2
def runOps (P : Program) (ops : Array Oper) (hint : Nat → Hint) : List Nat → AState → Option (List Prop × List Foot × AState)
  | [], s => some ([], [], s)
  | i :: R, s =>
    match ops[i]? with
    | none => none
    | some o =>
      match astep P ops (hint i) o s with
      | none => none
      | some st =>
        match runOps P ops hint R st.st with
        | none => none
        | some (ob, fs, s') => some (st.obl ++ ob, st.foot :: fs, s')
def sameF : AObj → AObj → Prop
  | .flat m c, .flat m' cs => m = m' ∧ c.take cs.length = cs
  | a, b => a = b
theorem sameF_cases {a b : AObj} (h : sameF a b) : a = b ∨ ∃ m c cs, a = .flat m c ∧ b = .flat m cs ∧ c.take cs.length = cs := by
  cases a with
  | flat m c =>
    cases b with
    | flat m' cs => obtain ⟨rfl, h⟩ := h; exact .inr ⟨_, _, _, rfl, rfl, h⟩
    | cells x t => exact .inl h
    | vec x t z => exact .inl h
    | ro x t => exact .inl h
    | iter x t => exact .inl h
    | shut x t z => exact .inl h
    | flatR m sh rows => exact .inl h
    | flatN sh rows => exact .inl h
    | mapS n ks => exact .inl h
    | loopR up n ix cs ps asg body => exact .inl h
    | dead => exact .inl h
  | cells x t => exact .inl h
  | vec x t z => exact .inl h
  | ro x t => exact .inl h
  | iter x t => exact .inl h
  | shut x t z => exact .inl h
  | flatR m sh rows => exact .inl h
  | flatN sh rows => exact .inl h
  | mapS n ks => exact .inl h
  | loopR up n ix cs ps asg body => exact .inl h
  | dead => exact .inl h
theorem sameF_obj {a b : AObj} (h : sameF a b) {E : Env} {w : World} {k : Nat} {c : Cap} (ho : ObjR E w k c a) : ObjR E w k c b := by
  rcases sameF_cases h with rfl | ⟨m, l, cs, rfl, rfl, e⟩
  · exact ho
  · obtain ⟨xs, hx, hz, hw⟩ := ho
    refine ⟨xs.take cs.length, ?_, fun h0 => ?_, fun h0 => ⟨(hw h0).1, fun i x hi => ?_⟩⟩
    · have := denC_take hx cs.length; rwa [e] at this
    · rw [hz h0] at e; simpa using e.symm
    · refine (hw h0).2 i x ?_
      have hlt := (List.getElem?_eq_some_iff.1 hi).1
      rw [List.getElem?_take] at hi
      split at hi
      · exact hi
      · cases hi
theorem sameF_owned {a b : AObj} (h : sameF a b) : b.owned = a.owned := by
  rcases sameF_cases h with rfl | ⟨m, l, cs, rfl, rfl, e⟩ <;> rfl
theorem sameF_mine {a b : AObj} (h : sameF a b) : b.mine = a.mine := by
  rcases sameF_cases h with rfl | ⟨m, l, cs, rfl, rfl, e⟩ <;> rfl
theorem sameF_live {a b : AObj} (h : sameF a b) : b.live = a.live := by
  rcases sameF_cases h with rfl | ⟨m, l, cs, rfl, rfl, e⟩ <;> rfl
theorem sameF_touches' {a b : AObj} (h : sameF a b) {k j : Nat} {c : Cap} (ht : touches k c b j) : touches k c a j := by
  rcases sameF_cases h with rfl | ⟨m, l, cs, rfl, rfl, e⟩ <;> exact ht
theorem runs_of_runOps {ops : Array Oper} {hint : Nat → Hint} : ∀ (R : List Nat) (s : AState) (ob : List Prop) (fs : List Foot) (s' : AState) (LG : Nat → Foot), runOps P ops hint R s = some (ob, fs, s') → AllP ob → (∀ j : Nat, (fs[j]?) = (R[j]?).map LG) → Runs P ops hint LG R s s'
  | [], s, ob, fs, s', LG, h, _, _ => by simp [runOps] at h; obtain ⟨_, _, rfl⟩ := h; exact .nil s
  | i :: R, s, ob, fs, s', LG, h, hob, hf => by
    simp only [runOps] at h
    split at h
    · cases h
    · rename_i o ho
      split at h
      · cases h
      · rename_i st hst
        split at h
        · cases h
        · rename_i ob2 fs2 s2 h2
          cases h
          obtain ⟨k1, k2⟩ := qzu.1 hob
          have h0 := hf 0
          simp at h0
          exact .cons ho hst k1 h0 (runs_of_runOps R _ _ _ _ LG h2 k2 fun j => by have := hf (j + 1); simpa using this)
theorem runOps_length {ops : Array Oper} {hint : Nat → Hint} : ∀ (R : List Nat) (s : AState) (ob : List Prop) (fs : List Foot) (s' : AState), runOps P ops hint R s = some (ob, fs, s') → fs.length = R.length
  | [], s, ob, fs, s', h => by simp [runOps] at h; obtain ⟨_, rfl, _⟩ := h; rfl
  | i :: R, s, ob, fs, s', h => by
    simp only [runOps] at h
    split at h
    · cases h
    · split at h
      · cases h
      · split at h
        · cases h
        · rename_i ob2 fs2 s2 h2
          cases h
          simp [runOps_length R _ _ _ _ h2]
end Go.Proofs.YtphhepnldndbhaaGreatDoor.Sx
namespace Go.Proofs.YtphhepnldndbhaaGreatDoor.Sx
open Go
variable {P : Program}
def Env.drop (E : Env) (D : Nat → Bool) : Env := fun n => if D n then none else E n
def Avoid (D : Nat → Bool) (v : AV) : Prop := ∀ (E : Env) (x : Value), den E v = some x → den (E.drop D) v = some x
def AvoidL (D : Nat → Bool) (vs : List AV) : Prop := ∀ (E : Env) (xs : List Value), denL E vs = some xs → denL (E.drop D) vs = some xs
def AvoidO (D : Nat → Bool) (o : AObj) : Prop := ∀ (E : Env) (w : World) (b : Nat) (c : Cap), ObjR E w b c o → ObjR (E.drop D) w b c o
theorem AvoidL.nil (D : Nat → Bool) : AvoidL D [] := fun _ _ h => h
theorem AvoidL.cons {D : Nat → Bool} {v : AV} {vs : List AV} (h : Avoid D v) (k : AvoidL D vs) : AvoidL D (v :: vs) := fun E xs e => by
  obtain ⟨x, ys, hx, hy, rfl⟩ := qxz.1 e
  exact qxz.2 ⟨x, ys, h E x hx, k E ys hy, rfl⟩
theorem denL_append_inv {E : Env} : ∀ {vs us : List AV} {zs : List Value}, denL E (vs ++ us) = some zs → ∃ xs ys, denL E vs = some xs ∧ denL E us = some ys ∧ zs = xs ++ ys
  | [], us, zs, h => ⟨[], zs, rfl, h, rfl⟩
  | v :: vs, us, zs, h => by
    simp only [List.cons_append] at h
    obtain ⟨x, ys, hx, hy, rfl⟩ := qxz.1 h
    obtain ⟨as, bs, ha, hb, rfl⟩ := denL_append_inv hy
    exact ⟨x :: as, bs, qxz.2 ⟨x, as, hx, ha, rfl⟩, hb, rfl⟩
theorem AvoidL.append {D : Nat → Bool} {vs us : List AV} (h : AvoidL D vs) (k : AvoidL D us) : AvoidL D (vs ++ us) := fun E zs e => by
  obtain ⟨xs, ys, hx, hy, rfl⟩ := denL_append_inv e
  exact denL_append (h E xs hx) (k E ys hy)
theorem Avoid.bool (D : Nat → Bool) (b : Bool) : Avoid D (.bool b) := fun _ _ h => h
theorem Avoid.int (D : Nat → Bool) (k : IntKind) (n : Int) : Avoid D (.int k n) := fun _ _ h => h
theorem Avoid.str (D : Nat → Bool) (s : List UInt8) : Avoid D (.str s) := fun _ _ h => h
theorem Avoid.nilptr (D : Nat → Bool) : Avoid D .nilptr := fun _ _ h => h
theorem Avoid.qzz (D : Nat → Bool) : Avoid D .qzz := fun _ _ h => h
theorem Avoid.nilfunc (D : Nat → Bool) : Avoid D .nilfunc := fun _ _ h => h
theorem Avoid.nilmap (D : Nat → Bool) : Avoid D .nilmap := fun _ _ h => h
theorem Avoid.niliface (D : Nat → Bool) : Avoid D .niliface := fun _ _ h => h
theorem drop_some {E : Env} {D : Nat → Bool} {n : Nat} (h : D n = false) : E.drop D n = E n := by simp [Env.drop, h]
theorem Avoid.ptr {D : Nat → Bool} {nm off : Nat} (h : D nm = false) : Avoid D (.ptr nm off) := fun E x e => by simpa only [den, drop_some h] using e
theorem Avoid.slice {D : Nat → Bool} {nm off l c : Nat} (h : D nm = false) : Avoid D (.slice nm off l c) := fun E x e => by simpa only [den, drop_some h] using e
theorem Avoid.vec {D : Nat → Bool} {nm l : Nat} (h : D nm = false) : Avoid D (.vec nm l) := fun E x e => by simpa only [den, drop_some h] using e
theorem Avoid.dsl {D : Nat → Bool} {nm l : Nat} (h : D nm = false) : Avoid D (.dsl nm l) := fun E x e => by simpa only [den, drop_some h] using e
theorem Avoid.mapp {D : Nat → Bool} {nm : Nat} (h : D nm = false) : Avoid D (.mapp nm) := fun E x e => by simpa only [den, drop_some h] using e
theorem Avoid.vsl {D : Nat → Bool} {nm w i j : Nat} (h : D nm = false) : Avoid D (.vsl nm w i j) := fun E x e => by simpa only [den, drop_some h] using e
theorem Avoid.rptr {D : Nat → Bool} {nm w i j : Nat} (h : D nm = false) : Avoid D (.rptr nm w i j) := fun E x e => by simpa only [den, drop_some h] using e
theorem Avoid.dptr {D : Nat → Bool} {nm l : Nat} (h : D nm = false) : Avoid D (.dptr nm l) := fun E x e => by simpa only [den, drop_some h] using e
theorem Avoid.agg {D : Nat → Bool} {cs : List AV} (h : AvoidL D cs) : Avoid D (.agg cs) := fun E x e => by
  obtain ⟨xs, hx, rfl⟩ := denC_agg.1 e
  exact denC_agg.2 ⟨xs, ⟨h E xs hx.1, hx.2⟩, rfl⟩
theorem Avoid.tuple {D : Nat → Bool} {cs : List AV} (h : AvoidL D cs) : Avoid D (.tuple cs) := fun E x e => by
  simp only [den, Option.map_eq_some_iff] at e ⊢
  obtain ⟨xs, hx, rfl⟩ := e; exact ⟨xs, h E xs hx, rfl⟩
theorem AvoidL.all {D : Nat → Bool} : ∀ {vs : List AV}, (∀ v ∈ vs, Avoid D v) → AvoidL D vs
  | [], _ => .nil D
  | v :: vs, h => .cons (h v (by simp)) (AvoidL.all fun u hu => h u (by simp [hu]))
theorem AvoidL.u8s (D : Nat → Bool) (s : List UInt8) : AvoidL D (u8s s) := AvoidL.all fun v hv => by
  simp only [Sx.u8s, List.mem_map] at hv; obtain ⟨b, _, rfl⟩ := hv; exact .int _ _ _
def ints (k : IntKind) (l : List Int) : List AV := l.map (.int k)
theorem AvoidL.ints (D : Nat → Bool) (k : IntKind) (l : List Int) : AvoidL D (ints k l) := AvoidL.all fun v hv => by
  simp only [Sx.ints, List.mem_map] at hv; obtain ⟨b, _, rfl⟩ := hv; exact .int _ _ _
theorem AvoidO.cells {D : Nat → Bool} {cs : List AV} {t : TypeId} (h : AvoidL D cs) : AvoidO D (.cells cs t) := fun E w b c ⟨xs, hx, hw⟩ => ⟨xs, ⟨h E xs hx.1, hx.2⟩, hw⟩
theorem AvoidO.vec {D : Nat → Bool} {cs : List AV} {t : TypeId} {sz : Nat} (h : AvoidL D cs) : AvoidO D (.vec cs t sz) := fun E w b c ⟨xs, ys, hx, hw⟩ => ⟨xs, ys, ⟨h E xs hx.1, hx.2⟩, hw⟩
theorem AvoidO.ro {D : Nat → Bool} {cs : List AV} {off : Nat} (h : AvoidL D cs) : AvoidO D (.ro off cs) := fun E w b c ⟨xs, hx, hw⟩ => ⟨xs, ⟨h E xs hx.1, hx.2⟩, hw⟩
theorem AvoidO.flat {D : Nat → Bool} {m : Bool} {cs : List AV} (h : AvoidL D cs) : AvoidO D (.flat m cs) := fun E w b c ⟨xs, hx, hw⟩ => ⟨xs, ⟨h E xs hx.1, hx.2⟩, hw⟩
theorem AvoidO.shut {D : Nat → Bool} {cs : List AV} {t : TypeId} {sz : Nat} (h : AvoidL D cs) : AvoidO D (.shut cs t sz) := fun E w b c ⟨xs, ys, hx, hw⟩ => ⟨xs, ys, ⟨h E xs hx.1, hx.2⟩, hw⟩
theorem AvoidO.flatR (D : Nat → Bool) (m : Bool) (sh : List CK) (rows : List (List CV)) : AvoidO D (.flatR m sh rows) := fun _ _ _ _ h => h
theorem AvoidO.flatN (D : Nat → Bool) (sh : List CK) (rows : List (List CV)) : AvoidO D (.flatN sh rows) := fun _ _ _ _ h => h
theorem AvoidO.loopR {D : Nat → Bool} {cs : List AV} {up : LSt} {n : Nat} {ix : List Nat} {ps : List Tmp} {asg body : Code} (h : AvoidL D cs) : AvoidO D (.loopR up n ix cs ps asg body) := fun E w b c ⟨xs, r, hx, hw⟩ => ⟨xs, r, h E xs hx, hw⟩
theorem AvoidO.mapS (D : Nat → Bool) (n : Nat) (ks : List (List Int)) : AvoidO D (.mapS n ks) := fun _ _ _ _ h => h
theorem AvoidO.iter (D : Nat → Bool) (s : List UInt8) (p : Nat) : AvoidO D (.iter s p) := fun _ _ _ _ h => h
theorem AvoidO.dead (D : Nat → Bool) : AvoidO D .dead := fun _ _ _ _ h => h
def avoidA (D : Nat → Bool) : AV → List Prop
  | .bool _ | .int _ _ | .str _ | .nilptr | .qzz | .nilfunc | .nilmap | .niliface => []
  | .ptr nm _ | .slice nm _ _ _ | .vec nm _ | .dsl nm _ | .dptr nm _ => if D nm then [False] else []
  | v => [Avoid D v]
theorem avoidA_spec {D : Nat → Bool} {v : AV} (h : AllP (avoidA D v)) : Avoid D v := by
  cases v <;> simp only [avoidA] at h <;> first
    | exact .bool _ _ | exact .int _ _ _ | exact .str _ _ | exact .nilptr _ | exact .qzz _ | exact .nilfunc _ | exact .nilmap _ | exact .niliface _
    | (split at h
       · exact h.1.elim
       · rename_i hd; first | exact .ptr (by simpa using hd) | exact .slice (by simpa using hd) | exact .vec (by simpa using hd) | exact .dsl (by simpa using hd) | exact .dptr (by simpa using hd))
    | exact h.1
def dropSlots (D : Nat → Bool) : List (Option AV) → List (Option AV) → Option (List Prop)
  | [], [] => some []
  | _ :: as, none :: bs => dropSlots D as bs
  | some a :: as, some b :: bs => (dropSlots D as bs).map fun o => (a = b) :: (avoidA D b ++ o)
  | _, _ => none
def avoidO (D : Nat → Bool) : AObj → List Prop
  | .dead => []
  | .iter _ _ => []
  | o => [AvoidO D o]
theorem avoidO_spec {D : Nat → Bool} {o : AObj} (h : AllP (avoidO D o)) : AvoidO D o := by
  cases o <;> first | exact .dead _ | exact .iter _ _ _ | exact h.1
def dropMem (D : Nat → Bool) : Nat → List (Option AObj) → List (Option AObj) → Option (List Prop)
  | _, [], [] => some []
  | i, none :: as, none :: bs => dropMem D (i + 1) as bs
  | i, some _ :: as, none :: bs => if D i then dropMem D (i + 1) as bs else none
  | i, some _ :: as, some .dead :: bs => if D i then none else dropMem D (i + 1) as bs
  | i, some a :: as, some b :: bs => if D i then none else (dropMem D (i + 1) as bs).map fun o => sameF a b :: (avoidO D b ++ o)
  | _, _, _ => none
def dropA (D : Nat → Bool) (s t : AState) : Option (List Prop) :=
  match dropSlots D s.slots t.slots, dropMem D 0 s.mem t.mem with
  | some a, some b => some (a ++ b)
  | _, _ => none
theorem dropSlots_get {D : Nat → Bool} : ∀ (as bs : List (Option AV)) (ob : List Prop), dropSlots D as bs = some ob → AllP ob → as.length = bs.length ∧ ∀ (t : Nat) (v : AV), bs[t]? = some (some v) → as[t]? = some (some v) ∧ Avoid D v
  | [], [], _, _, _ => ⟨rfl, fun t v h => by simp at h⟩
  | [], _ :: _, _, h, _ => by simp [dropSlots] at h
  | _ :: _, [], _, h, _ => by simp [dropSlots] at h
  | a :: as, none :: bs, ob, h, hob => by
    have h' : dropSlots D as bs = some ob := by cases a <;> simpa [dropSlots] using h
    obtain ⟨h1, h2⟩ := dropSlots_get as bs ob h' hob
    refine ⟨by simp [h1], fun t v ht => ?_⟩
    cases t with
    | zero => simp at ht
    | succ t => simpa using h2 t v (by simpa using ht)
  | none :: as, some b :: bs, ob, h, _ => by simp [dropSlots] at h
  | some a :: as, some b :: bs, ob, h, hob => by
    simp only [dropSlots, Option.map_eq_some_iff] at h
    obtain ⟨o, ho, rfl⟩ := h
    obtain ⟨k1, k2⟩ := hob
    have k1 : a = b := k1
    obtain ⟨k2, k3⟩ := qzu.1 k2
    obtain ⟨h1, h2⟩ := dropSlots_get as bs o ho k3
    refine ⟨by simp [h1], fun t v ht => ?_⟩
    cases t with
    | zero => simp at ht ⊢; rw [k1]; exact ⟨ht, ht ▸ avoidA_spec k2⟩
    | succ t => simpa using h2 t v (by simpa using ht)
theorem dropMem_get {D : Nat → Bool} : ∀ (as bs : List (Option AObj)) (i : Nat) (ob : List Prop), dropMem D i as bs = some ob → AllP ob → as.length = bs.length ∧ (∀ n : Nat, bs[n]? = some none → as[n]? = some none ∨ D (i + n) = true) ∧
    ∀ (n : Nat) (o : AObj), bs[n]? = some (some o) → D (i + n) = false ∧ ∃ o', as[n]? = some (some o') ∧ (o = .dead ∨ (sameF o' o ∧ AvoidO D o))
  | [], [], _, _, _, _ => ⟨rfl, fun n h => by simp at h, fun n o h => by simp at h⟩
  | [], _ :: _, _, _, h, _ => by simp [dropMem] at h
  | _ :: _, [], _, _, h, _ => by simp [dropMem] at h
  | none :: as, none :: bs, i, ob, h, hob => by
    obtain ⟨h1, h2, h3⟩ := dropMem_get as bs (i + 1) ob (by simpa [dropMem] using h) hob
    refine ⟨by simp [h1], fun n hn => ?_, fun n o hn => ?_⟩
    · cases n with
      | zero => simp
      | succ n => have := h2 n (by simpa using hn); rw [show i + (n + 1) = i + 1 + n by omega]; simpa using this
    · cases n with
      | zero => simp at hn
      | succ n => have := h3 n o (by simpa using hn); rw [show i + (n + 1) = i + 1 + n by omega]; simpa using this
  | none :: as, some b :: bs, i, ob, h, _ => by simp [dropMem] at h
  | some a :: as, none :: bs, i, ob, h, hob => by
    simp only [dropMem] at h
    split at h
    · rename_i hd
      obtain ⟨h1, h2, h3⟩ := dropMem_get as bs (i + 1) ob h hob
      refine ⟨by simp [h1], fun n hn => ?_, fun n o hn => ?_⟩
      · cases n with
        | zero => exact .inr hd
        | succ n => have := h2 n (by simpa using hn); rw [show i + (n + 1) = i + 1 + n by omega]; simpa using this
      · cases n with
        | zero => simp at hn
        | succ n => have := h3 n o (by simpa using hn); rw [show i + (n + 1) = i + 1 + n by omega]; simpa using this
    · cases h
  | some a :: as, some b :: bs, i, ob, h, hob => by
    have key : D i = false ∧ ∃ o, dropMem D (i + 1) as bs = some o ∧ AllP o ∧ (b = .dead ∨ (sameF a b ∧ AvoidO D b)) := by
      by_cases hd : b = .dead
      · subst hd
        simp only [dropMem] at h
        split at h
        · cases h
        · rename_i hdi; exact ⟨by simpa using hdi, ob, h, hob, .inl rfl⟩
      · have h' : D i = false ∧ ∃ o, dropMem D (i + 1) as bs = some o ∧ ob = sameF a b :: (avoidO D b ++ o) := by
          cases b <;> first
            | exact absurd rfl hd
            | (simp only [dropMem] at h
               split at h
               · cases h
               · rename_i hdi
                 simp only [Option.map_eq_some_iff] at h; obtain ⟨o, ho, e⟩ := h; exact ⟨by simpa using hdi, o, ho, e.symm⟩)
        obtain ⟨hdi, o, ho, rfl⟩ := h'
        obtain ⟨k1, k2⟩ := hob
        obtain ⟨k2, k3⟩ := qzu.1 k2
        exact ⟨hdi, o, ho, k3, .inr ⟨k1, avoidO_spec k2⟩⟩
    obtain ⟨hdi, o, ho, k3, hor⟩ := key
    obtain ⟨h1, h2, h3⟩ := dropMem_get as bs (i + 1) o ho k3
    refine ⟨by simp [h1], fun n hn => ?_, fun n o' hn => ?_⟩
    · cases n with
      | zero => simp at hn
      | succ n => have := h2 n (by simpa using hn); rw [show i + (n + 1) = i + 1 + n by omega]; simpa using this
    · cases n with
      | zero =>
        simp at hn; subst hn
        refine ⟨hdi, a, by simp, ?_⟩
        rcases hor with g | ⟨g1, g2⟩
        · exact .inl g
        · exact .inr ⟨g1, g2⟩
      | succ n => have := h3 n o' (by simpa using hn); rw [show i + (n + 1) = i + 1 + n by omega]; simpa using this
theorem Rel.drop {w0 w : World} {M : Nat → Prop} {E : Env} {D : Nat → Bool} {s t : AState} {a : Act} {ob : List Prop} (h : Rel w0 M E s a w) (hw : dropA D s t = some ob) (hob : AllP ob) : Rel w0 M (E.drop D) t a w := by
  unfold dropA at hw
  split at hw
  · rename_i o1 o2 h1 h2
    cases hw
    obtain ⟨k1, k2⟩ := qzu.1 hob
    obtain ⟨l1, g1⟩ := dropSlots_get _ _ _ h1 k1
    obtain ⟨l2, g2, g3⟩ := dropMem_get _ _ _ _ h2 k2
    simp only [Nat.zero_add] at g2 g3
    have back : ∀ n p, E.drop D n = some p → E n = some p := fun n p hp => by
      simp only [Env.drop] at hp; split at hp
      · cases hp
      · exact hp
    exact { h with
      size := h.size.trans l1
      slots := fun t v ht => by
        obtain ⟨e1, e2⟩ := g1 t v ht
        obtain ⟨x, hx, hd⟩ := h.slots t v e1
        exact ⟨x, hx, e2 E x hd⟩
      fresh := fun n hn => by
        rcases g2 n hn with e | e
        · simp only [Env.drop, h.fresh n e]; split <;> rfl
        · simp [Env.drop, e]
      mem := fun n o hn => by
        obtain ⟨hD, o', ho', hor⟩ := g3 n o hn
        obtain ⟨b, c, hE, hob, hM⟩ := h.mem n o' ho'
        refine ⟨b, c, by rw [drop_some hD]; exact hE, ?_⟩
        rcases hor with rfl | ⟨hs, hav⟩
        · exact ⟨trivial, fun e => by cases e⟩
        · exact ⟨hav E w b c (sameF_obj hs hob), fun e ht => hM (by rw [← sameF_mine hs]; exact e) (sameF_touches' hs ht)⟩
      apart := fun n m o o2 b c b' c' hn hm ho ho2 e1 e2 hne => by
        obtain ⟨_, x, hx, hor⟩ := g3 n o hn
        obtain ⟨_, y, hy, hor2⟩ := g3 m o2 hm
        rcases hor with rfl | ⟨hs, _⟩
        · cases ho
        · rcases hor2 with rfl | ⟨hs2, _⟩
          · cases ho2
          · exact fun ht => h.apart n m x y b c b' c' hx hy (by rw [← sameF_owned hs]; exact ho) (by rw [← sameF_live hs2]; exact ho2) (back _ _ e1) (back _ _ e2) hne (sameF_touches' hs2 ht)
      nest := fun m b c k e1 e2 => h.nest m b c k (back _ _ e1) e2 }
  · cases hw
theorem Tri.next {c : Code} {s s' t : AState} {ex : Ex} {D : Nat → Bool} {ob : List Prop} {K : Nat} (h : Tri P c s ex s' K) (hw : dropA D s' t = some ob) (hob : AllP ob) (hD : ∀ n, D n = true → s.mem[n]? = some none) : Tri P c s ex t K := by
  intro ro w0 M E a w hro hR
  refine wpIn_mono (h ro w0 M E a w hro hR) ?_
  rintro e a' w' ⟨rfl, E', hle, h'⟩
  refine ⟨rfl, E'.drop D, fun n p hK hn => ?_, h'.drop hw hob⟩
  have : D n = false := by
    cases hd : D n with
    | false => rfl
    | true => rw [hR.fresh n (hD n hd)] at hn; cases hn
  rw [drop_some this]; exact hle n p hK hn
def renSlots (r : List Nat) : List (Option AV) → List (Option AV) → Option (List Prop)
  | [], [] => some []
  | _ :: as, none :: bs => renSlots r as bs
  | some a :: as, some b :: bs => (renSlots r as bs).map fun o => (a = b.ren r) :: o
  | _, _ => none
def renMem (r : List Nat) (mem : List (Option AObj)) : List Nat → List (Option AObj) → Option (List Prop)
  | [], bs => if bs.all (·.isNone) then some [] else none
  | _ :: ns, some .dead :: bs => renMem r mem ns bs
  | n :: ns, some b :: bs =>
    match mem[n]? with
    | some (some a) => (renMem r mem ns bs).map fun o => sameF a (b.ren r) :: o
    | _ => none
  | _, _ => none
def renA (r : List Nat) (K : Nat) (s t : AState) : Option (List Prop) :=
  if r.Nodup && (r.all fun n => match s.mem[n]? with | some (some _) => true | _ => false) && ((List.range K).all fun n => r[n]? == some n) then
    match renSlots r s.slots t.slots, renMem r s.mem r t.mem with
    | some a, some b => some (a ++ b)
    | _, _ => none
  else none
theorem renSlots_get {r : List Nat} : ∀ (as bs : List (Option AV)) (ob : List Prop), renSlots r as bs = some ob → AllP ob → as.length = bs.length ∧ ∀ (t : Nat) (v : AV), bs[t]? = some (some v) → as[t]? = some (some (v.ren r))
  | [], [], _, _, _ => ⟨rfl, fun t v h => by simp at h⟩
  | [], _ :: _, _, h, _ => by simp [renSlots] at h
  | _ :: _, [], _, h, _ => by simp [renSlots] at h
  | a :: as, none :: bs, ob, h, hob => by
    obtain ⟨h1, h2⟩ := renSlots_get as bs ob (by simpa [renSlots] using h) hob
    refine ⟨by simp [h1], fun t v ht => ?_⟩
    cases t with
    | zero => simp at ht
    | succ t => simpa using h2 t v (by simpa using ht)
  | none :: as, some b :: bs, ob, h, _ => by simp [renSlots] at h
  | some a :: as, some b :: bs, ob, h, hob => by
    simp only [renSlots, Option.map_eq_some_iff] at h
    obtain ⟨o, ho, rfl⟩ := h
    obtain ⟨k1, k2⟩ := hob
    have k1 : a = b.ren r := k1
    obtain ⟨h1, h2⟩ := renSlots_get as bs o ho k2
    refine ⟨by simp [h1], fun t v ht => ?_⟩
    cases t with
    | zero => simp at ht ⊢; rw [k1, ht]
    | succ t => simpa using h2 t v (by simpa using ht)
theorem renMem_get {r : List Nat} {mem : List (Option AObj)} : ∀ (ns : List Nat) (bs : List (Option AObj)) (ob : List Prop), renMem r mem ns bs = some ob → AllP ob →
    ∀ (i : Nat) (o : Option AObj), bs[i]? = some o → (o = none ∧ ns.length ≤ i) ∨ ∃ b n, o = some b ∧ ns[i]? = some n ∧ (b = .dead ∨ ∃ a, mem[n]? = some (some a) ∧ sameF a (b.ren r))
  | [], bs, ob, h, hob, i, o, hi => by
    simp only [renMem] at h
    split at h
    · rename_i hall
      have := List.all_eq_true.1 hall o (List.mem_of_getElem? hi)
      exact .inl ⟨by simpa using this, Nat.zero_le _⟩
    · cases h
  | n :: ns, [], ob, h, _, i, o, hi => by simp at hi
  | n :: ns, none :: bs, ob, h, _, i, o, hi => by simp [renMem] at h
  | n :: ns, some b :: bs, ob, h, hob, i, o, hi => by
    have key : ∃ o2, renMem r mem ns bs = some o2 ∧ AllP o2 ∧ (b = .dead ∨ ∃ a, mem[n]? = some (some a) ∧ sameF a (b.ren r)) := by
      by_cases hd : b = .dead
      · subst hd; exact ⟨ob, by simpa [renMem] using h, hob, .inl rfl⟩
      · have h' : ∃ a, mem[n]? = some (some a) ∧ ∃ o2, renMem r mem ns bs = some o2 ∧ ob = sameF a (b.ren r) :: o2 := by
          cases b <;> first
            | exact absurd rfl hd
            | (simp only [renMem] at h
               split at h
               · rename_i a ha
                 simp only [Option.map_eq_some_iff] at h; obtain ⟨o2, ho, e⟩ := h; exact ⟨a, ha, o2, ho, e.symm⟩
               · cases h)
        obtain ⟨a, ha, o2, ho, rfl⟩ := h'
        obtain ⟨k1, k2⟩ := hob
        have k1 : sameF a (b.ren r) := k1
        exact ⟨o2, ho, k2, .inr ⟨a, ha, k1⟩⟩
    obtain ⟨o2, ho, k2, hor⟩ := key
    cases i with
    | zero => simp at hi; exact .inr ⟨b, n, hi.symm, by simp, hor⟩
    | succ i =>
      rcases renMem_get ns bs o2 ho k2 i o (by simpa using hi) with ⟨h1, h2⟩ | ⟨b', n', h1, h2, h3⟩
      · exact .inl ⟨h1, by simp; omega⟩
      · exact .inr ⟨b', n', h1, by simpa using h2, h3⟩
theorem Rel.ren {w0 w : World} {M : Nat → Prop} {E : Env} {r : List Nat} {K : Nat} {s t : AState} {a : Act} {ob : List Prop} (h : Rel w0 M E s a w) (hw : renA r K s t = some ob) (hob : AllP ob) :
    Rel w0 M (fun i : Nat => (r[i]?).bind E) t a w ∧ ∀ n, n < K → r[n]? = some n := by
  unfold renA at hw
  split at hw
  · rename_i hc
    simp only [Bool.and_eq_true, decide_eq_true_eq] at hc
    obtain ⟨⟨hnd, hall⟩, hK⟩ := hc
    split at hw
    · rename_i o1 o2 h1 h2
      cases hw
      obtain ⟨k1, k2⟩ := qzu.1 hob
      obtain ⟨l1, g1⟩ := renSlots_get _ _ _ h1 k1
      have g2 := renMem_get _ _ _ h2 k2
      have hEnv : ∀ (i m : Nat) (p : Nat × Cap), r[i]? = some m → E m = some p → (fun i : Nat => (r[i]?).bind E) i = some p := fun i m p hi hm => by
        show (r[i]?).bind E = some p
        rw [hi]; exact hm
      have named : ∀ (i m : Nat), r[i]? = some m → ∃ o, s.mem[m]? = some (some o) := fun i m hi => by
        have := List.all_eq_true.1 hall m (List.mem_of_getElem? hi)
        split at this
        · rename_i o ho; exact ⟨o, ho⟩
        · cases this
      have back : ∀ (i : Nat) (p : Nat × Cap), (r[i]?).bind E = some p → ∃ m, r[i]? = some m ∧ E m = some p := fun i p hi => Option.bind_eq_some_iff.1 hi
      refine ⟨?_, fun n hn => ?_⟩
      · exact {
          size := h.size.trans l1
          slots := fun t v ht => by
            obtain ⟨x, hx, hd⟩ := h.slots t _ (g1 t v ht)
            exact ⟨x, hx, ren_den hEnv v x hd⟩
          defers := h.defers
          fresh := fun n hn => by
            rcases g2 n none hn with ⟨_, hl⟩ | ⟨b, m, hb, _⟩
            · simp [List.getElem?_eq_none hl]
            · cases hb
          mem := fun n o hn => by
            rcases g2 n (some o) hn with ⟨hb, _⟩ | ⟨b, m, hb, hm, hor⟩
            · cases hb
            · cases hb
              rcases hor with rfl | ⟨a', hs, hsf⟩
              · obtain ⟨o', ho'⟩ := named n m hm
                obtain ⟨b, c, hE, _⟩ := h.mem m o' ho'
                exact ⟨b, c, by simp [hm, hE], trivial, fun e => by cases e⟩
              · obtain ⟨b, c, hE, hob', hown⟩ := h.mem m _ hs
                exact ⟨b, c, by simp [hm, hE], ObjR.unren hEnv (sameF_obj hsf hob'), fun e ht => hown (by rw [← sameF_mine hsf, AObj.ren_mine]; exact e) (sameF_touches' hsf (touches_ren' ht))⟩
          apart := fun n m o o' b c b' c' hn hm ho ho' e1 e2 hne => by
            obtain ⟨n', hn', e1'⟩ := back _ _ e1
            obtain ⟨m', hm', e2'⟩ := back _ _ e2
            have hne' : n' ≠ m' := by
              rintro rfl
              obtain ⟨l1, r1⟩ := List.getElem?_eq_some_iff.1 hn'
              obtain ⟨l2, r2⟩ := List.getElem?_eq_some_iff.1 hm'
              exact hne ((List.getElem_inj hnd).1 (r1.trans r2.symm))
            rcases g2 n _ hn with ⟨hb, _⟩ | ⟨p, i, hb, hi, hor⟩
            · cases hb
            · cases hb
              rw [hn'] at hi; cases hi
              rcases hor with rfl | ⟨a1, hs, hsf⟩
              · cases ho
              · rcases g2 m _ hm with ⟨hb, _⟩ | ⟨p', i', hb, hi', hor'⟩
                · cases hb
                · cases hb
                  rw [hm'] at hi'; cases hi'
                  rcases hor' with rfl | ⟨a2, hs', hsf'⟩
                  · cases ho'
                  · exact fun ht => h.apart n' m' _ _ b c b' c' hs hs' (by rw [← sameF_owned hsf, AObj.ren_owned]; exact ho) (by rw [← sameF_live hsf', AObj.ren_live]; exact ho') e1' e2' hne' (sameF_touches' hsf' (touches_ren' ht))
          frame := h.frame, grow := h.grow, os := h.os, tape := h.tape, output := h.output, glob := h.glob
          nest := fun m b c k e1 e2 => let ⟨m', _, e3⟩ := back m _ e1; h.nest m' b c k e3 e2 }
      · have := List.all_eq_true.1 hK n (List.mem_range.2 hn)
        simpa using this
    · cases hw
  · cases hw
theorem Tri.ren {c : Code} {s s' t : AState} {ex : Ex} (r : List Nat) {ob : List Prop} {K : Nat} (h : Tri P c s ex s' K) (hw : renA r K s' t = some ob) (hob : AllP ob) : Tri P c s ex t K := by
  intro ro w0 M E a w hro hR
  refine wpIn_mono (h ro w0 M E a w hro hR) ?_
  rintro e a' w' ⟨rfl, E', hle, h'⟩
  obtain ⟨h1, h2⟩ := h'.ren hw hob
  exact ⟨rfl, _, fun n p hn hE => by simp [h2 n hn, hle n p hn hE], h1⟩
theorem tri_loop {ι : Type} {body : Code} (inv : ι → AState) (μ : ι → Nat) {ex : Ex} {out : AState} {K : Nat} (hex : ex ≠ .normal)
    (step : ∀ i, (∃ j, μ j < μ i ∧ Tri P body (inv i) .normal (inv j) K) ∨ Tri P body (inv i) ex out K) (i : ι) : Tri P (.loop body) (inv i) ex out K := by
  intro ro w0 M E a w hro hR
  refine wpIn_loop_rounds (μ i + 1) ?_
  have key : ∀ (n : Nat) (i : ι) (E1 : Env) (a1 : Act) (w1 : World), μ i < n → Env.leK K E E1 → Rel w0 M E1 (inv i) a1 w1 →
      Code.roundsIn (WR ro) 0 P body (fun e a' w' => e = ex.to ∧ ∃ E', Env.leK K E E' ∧ Rel w0 M E' out a' w') n a1 w1 := by
    intro n
    induction n with
    | zero => intro i E1 a1 w1 hn; omega
    | succ n ih =>
      intro i E1 a1 w1 hn hle h1
      rw [roundsIn_succ]
      rcases step i with ⟨j, hj, ht⟩ | ht
      · refine wpIn_mono (ht ro w0 M E1 a1 w1 hro h1) ?_
        rintro e a' w' ⟨rfl, E', hle', h'⟩
        exact ih j E' a' w' (by omega) (hle.trans hle') h'
      · refine wpIn_mono (ht ro w0 M E1 a1 w1 hro h1) ?_
        rintro e a' w' ⟨rfl, E', hle', h'⟩
        cases ex with
        | normal => exact absurd rfl hex
        | exit id => exact ⟨rfl, E', hle.trans hle', h'⟩
        | ret => exact ⟨rfl, E', hle.trans hle', h'⟩
  exact key _ i E a w (Nat.lt_succ_self _) (.refl _ _) hR
end Go.Proofs.YtphhepnldndbhaaGreatDoor.Sx
namespace Go.Proofs.YtphhepnldndbhaaGreatDoor.Sx
open Go
variable {P : Program}
def start (ntmps : Nat) (args : List AV) (pre : List AObj) (k : Nat) : AState :=
  ⟨args.map some ++ List.replicate (ntmps - args.length) none, pre.map (fun o => some o.lent) ++ List.replicate k none⟩
def resA (P : Program) (s : AState) : List ResultVar → List Hint → Option (List Prop × List AV)
  | [], _ => some ([], [])
  | .tmp t :: rs, hs =>
    match (s.slots[t]?).join, resA P s rs hs.tail with
    | some v, some (ob, vs) => some (ob, v :: vs)
    | _, _ => none
  | .cell a t :: rs, hs =>
    match (s.slots[a]?).join with
    | some (.ptr nm off) =>
      match s.mem[nm]? with
      | some (some o) =>
        match loadA P (hs.headD {}) t off o, resA P s rs hs.tail with
        | some r, some (ob, vs) => some (r.obl ++ ob, r.val :: vs)
        | _, _ => none
      | _ => none
    | _ => none
def one : List AV → AV
  | [v] => v
  | vs => .tuple vs
def sameO (o : AObj) : AObj → Prop
  | .flat m cs => Fits o (.flat m cs)
  | p => o = p
def postA (D : Nat → Bool) (mem : List (Option AObj)) (npre : Nat) : Nat → List AObj → Option (List Prop)
  | _, [] => some []
  | i, .dead :: ps => match mem[i]? with
    | some (some _) => if i < npre then postA D mem npre (i + 1) ps else none
    | _ => none
  | i, p :: ps => match mem[i]? with
    | some (some o) => if i < npre || o.mine then (postA D mem npre (i + 1) ps).map fun ob => sameO o p :: (avoidO D p ++ ob) else none
    | _ => none
def finA (P : Program) (rs : List ResultVar) (hs : List Hint) (s : AState) (npre : Nat) (res : AV) (post : List AObj) : Option (List Prop) :=
  let D := fun n => decide (post.length ≤ n)
  match resA P s rs hs, postA D s.mem npre 0 post with
  | some (ob, vs), some ob2 => if npre ≤ post.length then some (ob ++ (one vs = res) :: (avoidA D res ++ ob2)) else none
  | _, _ => none
theorem load_world {w w2 : World} {a : Addr} {v : Value} (h : (load a).run P w = .ok v w2) : w2 = w := by
  rw [run_load] at h
  split at h
  · cases h; rfl
  · split at h
    · cases h; rfl
    · cases h
theorem loadCells_world {a : Addr} : ∀ (n i : Nat) (acc : Array Value) (w w2 : World) (v : Array Value), (loadCellsFrom a i n acc).run P w = .ok v w2 → w2 = w
  | 0, i, acc, w, w2, v, h => by simp only [loadCellsFrom, Sem.run_pure] at h; cases h; rfl
  | n + 1, i, acc, w, w2, v, h => by
    simp only [loadCellsFrom, Sem.run_bind] at h
    cases hl : (load (a.add i)).run P w with
    | ok x w3 =>
      rw [hl] at h
      have := load_world hl
      subst this
      exact loadCells_world n (i + 1) _ _ _ _ h
    | halt hh w3 => rw [hl] at h; cases h
theorem loadVar_world {w w2 : World} {t : TypeId} {a : Addr} {v : Value} (h : (loadVar t a).run P w = .ok v w2) : w2 = w := by
  simp only [loadVar, Sem.run_bind] at h
  have hi : ∃ r, (isAgg t).run P w = r ∧ ∀ b w3, r = .ok b w3 → w3 = w := by
    refine ⟨_, rfl, fun b w3 hr => ?_⟩
    simp only [isAgg, underlying, Sem.run_bind, run_program, Result.andThen_ok] at hr
    split at hr
    · simp only [Sem.run_pure, Result.andThen_ok] at hr
      split at hr <;> (cases hr; rfl)
    · cases hr
  obtain ⟨r, hr, hw⟩ := hi
  rw [hr] at h
  cases r with
  | halt hh w3 => cases h
  | ok b w3 =>
    have := hw b w3 rfl
    subst this
    simp only [Result.andThen_ok] at h
    cases b with
    | true =>
      simp only [if_true, Sem.run_bind] at h
      cases hs : (sizeOf t).run P w3 with
      | halt hh w4 => rw [hs] at h; cases h
      | ok n w4 =>
        rw [hs] at h
        have hw4 : w4 = w3 := by
          simp only [sizeOf, typeInfo, Sem.run_bind, run_program, Result.andThen_ok] at hs
          split at hs
          · simp only [Sem.run_pure, Result.andThen_ok] at hs; cases hs; rfl
          · cases hs
        subst hw4
        simp only [Result.andThen_ok] at h
        cases hc : (loadCells a n).run P w4 with
        | halt hh w5 => rw [hc] at h; cases h
        | ok cs w5 =>
          rw [hc] at h
          simp only [Result.andThen_ok, Sem.run_pure] at h
          cases h
          exact loadCells_world n 0 _ _ _ _ hc
    | false =>
      simp only [Bool.false_eq_true, if_false] at h
      exact load_world h
theorem loadVar_run {E : Env} {w : World} {t : TypeId} {h : Hint} {nm off b : Nat} {c : Cap} {ob : AObj} {r : Res} (hb : E nm = some (b, c)) (hob : ObjR E w b c ob) (hr : loadA P h t off ob = some r) (k : AllP r.obl) :
    ∃ x, (loadVar t ⟨b, off, none⟩).run P w = .ok x w ∧ den E r.val = some x := by
  have hd : den E (.ptr nm off) = some (.pointer (some ⟨b, off, none⟩)) := by simp [den, hb]
  have hg := good_load' (P := P) (w := w) (o := ⟨none, .load t (.const (.pointer (some ⟨b, off, none⟩))), 0, "", #[], none⟩) (ρ := fun _ => .pointer (some ⟨b, off, none⟩)) rfl hd ⟨b, c, hb, hob⟩ hr k
  obtain ⟨x, w', E', hrun, hx, he⟩ := hg
  simp only [execOp, Instr.loadAt, Instr.sureAddr, Sem.run_bind, Sem.run_pure, Result.andThen_ok] at hrun
  have hE : E' = E := by funext n; exact he.only n (by simp)
  subst hE
  generalize hl : (loadVar t ⟨b, off, none⟩).run P w = lr at hrun
  cases lr with
  | ok v w2 =>
    simp only [Result.andThen_ok, Sem.run_pure] at hrun
    rcases hrun with hrun | ⟨hrun, _⟩
    · cases hrun
      have hw2 := loadVar_world hl
      subst hw2
      exact ⟨_, rfl, hx⟩
    · cases hrun
  | halt hh w2 => rcases hrun with hrun | ⟨hrun, _⟩ <;> cases hrun
end Go.Proofs.YtphhepnldndbhaaGreatDoor.Sx
namespace Go.Proofs.YtphhepnldndbhaaGreatDoor.Sx
open Go
variable {P : Program}
theorem resA_run {w0 w : World} {M : Nat → Prop} {E : Env} {s : AState} {a : Act} (h : Rel w0 M E s a w) : ∀ (rs : List ResultVar) (hs : List Hint) (ob : List Prop) (vs : List AV), resA P s rs hs = some (ob, vs) → AllP ob →
    ∃ xs, denL E vs = some xs ∧ (rs.mapM fun | .tmp t => pure (a.tmps.getD t undef) | .cell p t => do loadVar t (← asAddr (a.tmps.getD p undef)) : Sem (List Value)).run P w = .ok xs w
  | [], hs, ob, vs, e, hob => by simp [resA] at e; obtain ⟨_, rfl⟩ := e; exact ⟨[], rfl, rfl⟩
  | .tmp t :: rs, hs, ob, vs, e, hob => by
    simp only [resA] at e
    split at e
    · rename_i v ob2 vs2 hv h2
      cases e
      obtain ⟨xs, hx, hr⟩ := resA_run h rs hs.tail _ _ h2 hob
      obtain ⟨x, hx1, hd⟩ := h.slots t v (by simpa using Option.join_eq_some_iff.1 hv)
      refine ⟨x :: xs, qxz.2 ⟨x, xs, hd, hx, rfl⟩, ?_⟩
      have hg : a.tmps.getD t undef = x := by simp [hx1]
      simp only [List.mapM_cons, Sem.run_bind, Sem.run_pure, Result.andThen_ok, hr, hg]
    · cases e
  | .cell p t :: rs, hs, ob, vs, e, hob => by
    simp only [resA] at e
    split at e
    · rename_i nm off hv
      split at e
      · rename_i o ho
        split at e
        · rename_i r ob2 vs2 hr1 h2
          cases e
          obtain ⟨k1, k2⟩ := qzu.1 hob
          obtain ⟨xs, hx, hr⟩ := resA_run h rs hs.tail _ _ h2 k2
          obtain ⟨y, hy, hdy⟩ := h.slots p _ (by simpa using Option.join_eq_some_iff.1 hv)
          obtain ⟨b, c, hb, rfl⟩ := ptr_den hdy
          obtain ⟨b', c', hb', hobj, _⟩ := h.mem nm o ho
          rw [hb] at hb'; cases hb'
          obtain ⟨x, hlx, hdx⟩ := loadVar_run (P := P) hb hobj hr1 k1
          refine ⟨x :: xs, qxz.2 ⟨x, xs, hdx, hx, rfl⟩, ?_⟩
          have hg : a.tmps.getD p undef = .pointer (some ⟨b, off, none⟩) := by simp [hy]
          have ha : (asAddr (.pointer (some ⟨b, off, none⟩))).run P w = .ok ⟨b, off, none⟩ w := rfl
          simp only [List.mapM_cons, Sem.run_bind, hg, ha, Sem.run_pure, Result.andThen_ok, hlx, hr]
        · cases e
      · cases e
    · cases e
theorem results_run {w0 w : World} {M : Nat → Prop} {E : Env} {s : AState} {a : Act} {fn : Func} (h : Rel w0 M E s a w) {hs : List Hint} {ob : List Prop} {vs : List AV} (e : resA P s fn.results.toList hs = some (ob, vs)) (hob : AllP ob) :
    ∃ x, (results fn a.tmps).run P w = .ok x w ∧ den E (one vs) = some x := by
  obtain ⟨xs, hx, hr⟩ := resA_run h _ _ _ _ e hob
  have hm : (fn.results.mapM fun | .tmp t => pure (a.tmps.getD t undef) | .cell p t => do loadVar t (← asAddr (a.tmps.getD p undef)) : Sem (Array Value)).run P w = .ok xs.toArray w := by
    generalize fn.results = rs at hr
    obtain ⟨l⟩ := rs
    rw [List.mapM_toArray]
    rw [Sem.run_map, hr]
    rfl
  refine ⟨if h : xs.toArray.size = 1 then xs.toArray[0] else .tuple xs.toArray, ?_, ?_⟩
  · simp only [results, Sem.run_bind]
    erw [hm]
    rfl
  · match vs, xs, hx with
    | [], xs, hx => simp [denL] at hx; subst hx; simp [one, den, denL]
    | [v], xs, hx =>
      obtain ⟨x, ys, h1, h2, rfl⟩ := qxz.1 hx
      simp [denL] at h2; subst h2; simpa [one] using h1
    | v :: u :: vs, xs, hx =>
      obtain ⟨x, ys, h1, h2, rfl⟩ := qxz.1 hx
      obtain ⟨y, zs, h3, h4, rfl⟩ := qxz.1 h2
      simp [one, den, hx]
theorem sameO_obj {o p : AObj} (h : sameO o p) {E : Env} {w : World} {b : Nat} {c : Cap} (k : ObjR E w b c o) : ObjR E w b c p := by
  cases p with
  | flat m cs => exact h E w b c k
  | flatR m sh rows => exact (show o = _ from h) ▸ k
  | flatN sh rows => exact (show o = _ from h) ▸ k
  | cells a b => exact (show o = _ from h) ▸ k
  | vec a b c => exact (show o = _ from h) ▸ k
  | ro a b => exact (show o = _ from h) ▸ k
  | iter a b => exact (show o = _ from h) ▸ k
  | shut a b c => exact (show o = _ from h) ▸ k
  | mapS n ks => exact (show o = _ from h) ▸ k
  | loopR up n ix cs ps asg body => exact (show o = _ from h) ▸ k
  | dead => trivial
theorem sameO_touches {o p : AObj} (h : sameO o p) {b k : Nat} {c : Cap} (ht : touches b c p k) : touches b c o k := by
  cases p with
  | flat m cs => exact touches_of_flat rfl ht
  | flatR m sh rows => exact (show o = _ from h) ▸ ht
  | flatN sh rows => exact (show o = _ from h) ▸ ht
  | cells a b => exact (show o = _ from h) ▸ ht
  | vec a b c => exact (show o = _ from h) ▸ ht
  | ro a b => exact (show o = _ from h) ▸ ht
  | iter a b => exact (show o = _ from h) ▸ ht
  | shut a b c => exact (show o = _ from h) ▸ ht
  | mapS n ks => exact (show o = _ from h) ▸ ht
  | loopR up n ix cs ps asg body => exact (show o = _ from h) ▸ ht
  | dead => exact (show o = _ from h) ▸ ht
theorem sameO_owned {o p : AObj} (h : sameO o p) (hp : p.owned = true) : o = p := by
  cases p <;> first | exact h | cases hp
theorem postA_get {D : Nat → Bool} {mem : List (Option AObj)} {npre : Nat} : ∀ (ps : List AObj) (i : Nat) (ob : List Prop), postA D mem npre i ps = some ob → AllP ob →
    ∀ (n : Nat) (p : AObj), ps[n]? = some p → ∃ o, mem[i + n]? = some (some o) ∧ ((p = .dead ∧ i + n < npre) ∨ (sameO o p ∧ AvoidO D p ∧ (i + n < npre ∨ o.mine = true)))
  | [], i, ob, _, _, n, p, hn => by simp at hn
  | q :: ps, i, ob, h, hob, n, p, hn => by
    have key : ∃ o ob2, mem[i]? = some (some o) ∧ postA D mem npre (i + 1) ps = some ob2 ∧ AllP ob2 ∧ ((q = .dead ∧ i < npre) ∨ (sameO o q ∧ AvoidO D q ∧ (i < npre ∨ o.mine = true))) := by
      by_cases hd : q = .dead
      · subst hd
        simp only [postA] at h
        split at h
        · rename_i o ho
          split at h
          · rename_i hi; exact ⟨o, ob, ho, h, hob, .inl ⟨rfl, hi⟩⟩
          · cases h
        · cases h
      · have h' : ∃ o ob2, mem[i]? = some (some o) ∧ (i < npre ∨ o.mine = true) ∧ postA D mem npre (i + 1) ps = some ob2 ∧ ob = sameO o q :: (avoidO D q ++ ob2) := by
          cases q <;> first
            | exact absurd rfl hd
            | (simp only [postA] at h
               split at h
               · rename_i o ho
                 split at h
                 · rename_i hi
                   simp only [Option.map_eq_some_iff] at h; obtain ⟨ob2, h2, e⟩ := h
                   exact ⟨o, ob2, ho, by simpa using hi, h2, e.symm⟩
                 · cases h
               · cases h)
        obtain ⟨o, ob2, ho, hi, h2, rfl⟩ := h'
        obtain ⟨k1, k2⟩ := hob
        have k1 : sameO o q := k1
        obtain ⟨k2, k3⟩ := qzu.1 k2
        exact ⟨o, ob2, ho, h2, k3, .inr ⟨k1, avoidO_spec k2, hi⟩⟩
    obtain ⟨o, ob2, ho, h2, k3, hor⟩ := key
    cases n with
    | zero => simp at hn; subst hn; exact ⟨o, by simpa using ho, by simpa using hor⟩
    | succ n =>
      have := postA_get ps (i + 1) ob2 h2 k3 n p (by simpa using hn)
      rwa [show i + 1 + n = i + (n + 1) by omega] at this
theorem start_rel {w : World} {E : Env} {args : List AV} {xs : List Value} {pre : List AObj} {ntmps k : Nat} (hx : denL E args = some xs) (hp : PreR E w pre) :
    Rel w (fun b => ∃ (n : Nat) (o : AObj) (c : Cap), pre[n]? = some o ∧ o.owned = true ∧ E n = some (b, c)) E (start ntmps args pre k) { tmps := xs.toArray ++ Array.replicate (ntmps - xs.toArray.size) undef, defers := [] } w := by
  have hl := denL_length hx
  have slot : ∀ (t : Nat) (v : AV), (start ntmps args pre k).slots[t]? = some (some v) → args[t]? = some v := fun t v h => by
    simp only [start] at h
    by_cases ht : t < args.length
    · rw [List.getElem?_append_left (by simpa using ht)] at h; simpa using h
    · rw [List.getElem?_append_right (by simpa using ht)] at h
      rw [List.getElem?_replicate] at h; split at h <;> simp at h
  have memo : ∀ (n : Nat) (o : AObj), (start ntmps args pre k).mem[n]? = some (some o) → ∃ o0, pre[n]? = some o0 ∧ o = o0.lent := fun n o h => by
    simp only [start] at h
    by_cases ht : n < pre.length
    · rw [List.getElem?_append_left (by simpa using ht)] at h
      simp only [List.getElem?_map, Option.map_eq_some_iff] at h
      obtain ⟨o0, h0, e⟩ := h
      exact ⟨o0, h0, (Option.some.inj e).symm⟩
    · rw [List.getElem?_append_right (by simpa using ht)] at h
      rw [List.getElem?_replicate] at h; split at h <;> simp at h
  exact {
    size := by simp [start, hl]
    slots := fun t v h => by
      obtain ⟨x, hx1, hd⟩ := denL_get hx (slot t v h)
      have hlt := (List.getElem?_eq_some_iff.1 hx1).1
      exact ⟨x, by rw [Array.getElem?_append_left (by simpa using hlt)]; simpa using hx1, hd⟩
    defers := DefOK.nil _ _
    fresh := fun n h => hp.fresh n (by
      rcases Nat.lt_or_ge n pre.length with g | g
      · simp only [start] at h; rw [List.getElem?_append_left (by simpa using g)] at h; simp [g] at h
      · exact g)
    mem := fun n o h => by
      obtain ⟨o0, h', rfl⟩ := memo n o h
      obtain ⟨b, c, hE, hob⟩ := hp.objs n o0 h'
      exact ⟨b, c, hE, lent_obj hob, fun ho _ => .inr ⟨n, o0, c, h', lent_mine ho, hE⟩⟩
    apart := fun n m o o' b c b' c' h1 h2 h3 h4 h5 h6 h7 => by
      obtain ⟨x, hx1, rfl⟩ := memo n o h1
      obtain ⟨y, hy1, rfl⟩ := memo m o' h2
      exact fun ht => hp.apart n m x y b c b' c' hx1 hy1 (by rw [← lent_owned]; exact h3) (by rw [← lent_live]; exact h4) h5 h6 h7 (lent_touches.1 ht)
    frame := fun _ _ _ => rfl
    grow := Nat.le_refl _
    os := rfl, tape := rfl, output := rfl
    glob := hp.glob
    nest := fun m b c k e1 e2 => let ⟨g1, g2⟩ := hp.nest m b c k e1 e2; ⟨g1, fun ⟨n, o, c', h1, h2, h3⟩ => g2 n o c' h1 h2 h3⟩ }
theorem ObjR.marked {E : Env} {w : World} {D b : Nat} {c : Cap} {o : AObj} (hD : w.heap[D]? = some (.deferred (some []))) (h : ObjR E w b c o) : ObjR E (w.putObj D (.deferred none)) b c o := by
  have other : ∀ x : Obj, w.heap[b]? = some x → x ≠ .deferred (some []) → (w.putObj D (.deferred none)).heap[b]? = some x := fun x hx hn => by
    have hne : b ≠ D := by rintro rfl; rw [hD] at hx; cases hx; exact hn rfl
    rw [World.putObj_heap_other hne]; exact hx
  have cell' : ∀ (b a : Nat) (x : Value), w.cell? ⟨b, a, none⟩ = some x → (w.putObj D (.deferred none)).cell? ⟨b, a, none⟩ = some x := fun b a x hx => by
    by_cases e : b = D
    · subst e; simp [World.cell?, hD] at hx
    · rw [← hx]; simp only [World.cell?, World.putObj_heap_other e]
  have cell : ∀ (a : Nat) (x : Value), w.cell? ⟨b, a, none⟩ = some x → (w.putObj D (.deferred none)).cell? ⟨b, a, none⟩ = some x := cell' b
  cases o with
  | cells cs t => obtain ⟨xs, hx, hw⟩ := h; exact ⟨xs, hx, other _ hw (by simp)⟩
  | vec cs t sz => obtain ⟨xs, ys, hx, ⟨m, hw, hm⟩, hl⟩ := h; exact ⟨xs, ys, hx, ⟨m, other _ hw (by simp), hm⟩, hl⟩
  | ro off cs => obtain ⟨xs, hx, hw, hl⟩ := h; exact ⟨xs, hx, fun i x hi => cell _ _ (hw i x hi), by rw [World.putObj_size]; exact hl⟩
  | flat m cs => obtain ⟨xs, hx, hz, hw⟩ := h; exact ⟨xs, hx, hz, fun h0 => ⟨by rw [World.putObj_size]; exact (hw h0).1, fun i x hi => cell _ _ ((hw h0).2 i x hi)⟩⟩
  | flatR m sh rows => obtain ⟨hz, hw⟩ := h; exact ⟨hz, fun h0 => ⟨by rw [World.putObj_size]; exact (hw h0).1, fun i j v h1 h2 h3 => cell _ _ ((hw h0).2 i j v h1 h2 h3)⟩⟩
  | flatN sh rows =>
    obtain ⟨hu, hz, hw⟩ := h
    refine ⟨fun k hk => by rw [World.putObj_size]; exact hu k hk, hz, fun h0 => ⟨by rw [World.putObj_size]; exact (hw h0).1, fun i j v h1 h2 h3 => cell _ _ ((hw h0).2.1 i j v h1 h2 h3), fun i j k h1 h2 => ?_⟩⟩
    have hk := (hw h0).2.2 i j k h1 h2
    unfold KidAt at hk ⊢
    cases e : c.sub i j with
    | none => rw [e] at hk; obtain ⟨h1, q, h2⟩ := hk; exact ⟨h1, q, cell _ _ h2⟩
    | some p => rw [e] at hk; exact ⟨hk.1, cell _ _ hk.2.1, fun t x hx => cell' _ _ _ (hk.2.2 t x hx)⟩
  | iter s pos => exact other _ h (by simp)
  | shut cs t sz => obtain ⟨xs, ys, hx, ⟨m, hw⟩, hl⟩ := h; exact ⟨xs, ys, hx, ⟨m, other _ hw (by simp)⟩, hl⟩
  | mapS n ks => obtain ⟨h1, es, cl, hw, hl⟩ := h; exact ⟨h1, es, cl, other _ hw (by simp), hl⟩
  | loopR up n ix cs ps asg body => obtain ⟨xs, r, hx, hw, hl⟩ := h; exact ⟨xs, r, hx, other _ hw (by simp), hl⟩
  | dead => trivial
theorem Rel.take {w0 w : World} {M : Nat → Prop} {E : Env} {s : AState} {tm : Array Value} {d : Deferred} {ds : List Deferred} (h : Rel w0 M E s ⟨tm, d :: ds⟩ w) :
    ∃ D, d.target = .collected D ∧ (Instr.takeDeferred D).run P w = .ok [] (w.putObj D (.deferred none)) ∧ Rel w0 M E s ⟨tm, ds⟩ (w.putObj D (.deferred none)) := by
  obtain ⟨D, rfl, hl, hD⟩ := h.defers.1 d List.mem_cons_self
  refine ⟨D, rfl, run_takeDeferred hD, ?_⟩
  exact {
    size := h.size, slots := h.slots
    defers := ⟨fun d' hd' => by
      obtain ⟨D', rfl, hl', hD'⟩ := h.defers.1 d' (List.mem_cons_of_mem _ hd')
      have hne : D' ≠ D := by
        rintro rfl
        exact (List.pairwise_cons.1 h.defers.2).1 _ hd' rfl
      exact ⟨D', rfl, hl', by rw [World.putObj_heap_other hne]; exact hD'⟩, (List.pairwise_cons.1 h.defers.2).2⟩
    fresh := h.fresh
    mem := fun n o hn => let ⟨b, c, hE, hob, hm⟩ := h.mem n o hn; ⟨b, c, hE, hob.marked hD, hm⟩
    apart := h.apart
    frame := fun k hk hM => by rw [World.putObj_heap_other (by omega)]; exact h.frame k hk hM
    grow := by rw [World.putObj_size]; exact h.grow
    os := h.os, tape := h.tape, output := h.output, glob := h.glob, nest := h.nest }
theorem leaves_rel {fn : Func} {w0 : World} {M : Nat → Prop} {E : Env} {s : AState} {tm : Array Value} {R : Ending → World → Prop} (hs : ∀ w2, Rel w0 M E s ⟨tm, []⟩ w2 → ∃ x, (results fn tm).run P w2 = .ok x w2 ∧ R (.returned x) w2) :
    ∀ (ds : List Deferred) (w : World), Rel w0 M E s ⟨tm, ds⟩ w → LeavesInM (WR none) 0 P fn tm R ds .returning w
  | [], w, h => hs w h
  | d :: ds, w, h => by
    obtain ⟨D, h1, h2, h3⟩ := h.take (P := P)
    exact ⟨by simp, .inl ⟨D, _, h1, h2, leaves_rel hs ds _ h3⟩⟩
def EnvSim (E E' : Env) : Prop := ∀ (n b : Nat) (c : Cap), E n = some (b, c) → ∃ c', E' n = some (b, c') ∧ c'.n = c.n ∧ c'.o = c.o ∧ c'.z = c.z ∧ c'.a = c.a
theorem yfOf_sim {E E' : Env} (h : EnvSim E E') {as cs : List AV} {x : Value} (e : yfOf E as cs = some x) : yfOf E' as cs = some x := by
  obtain ⟨nm, ⟨b, c⟩, rfl, rfl, hp, rfl⟩ := yfOf_some e
  obtain ⟨c', h1, _⟩ := h _ _ _ hp
  simp [yfOf, h1]
mutual
theorem den_sim {E E' : Env} (h : EnvSim E E') : ∀ (v : AV) (x : Value), den E v = some x → den E' v = some x
  | .bool b, x, e => e
  | .int k n, x, e => e
  | .str s, x, e => e
  | .ptr nm off, x, e => by
    simp only [den, Option.map_eq_some_iff] at e ⊢; obtain ⟨⟨b, c⟩, hp, hx⟩ := e; obtain ⟨c', h1, _⟩ := h _ _ _ hp; exact ⟨_, h1, hx⟩
  | .nilptr, x, e => e
  | .slice nm off len cap, x, e => by
    simp only [den, Option.map_eq_some_iff] at e ⊢; obtain ⟨⟨b, c⟩, hp, hx⟩ := e; obtain ⟨c', h1, _⟩ := h _ _ _ hp; exact ⟨_, h1, hx⟩
  | .vec nm len, x, e => by
    simp only [den, Option.bind_eq_some_iff] at e ⊢; obtain ⟨⟨b, c⟩, hp, hx⟩ := e; obtain ⟨c', h1, h2, h3, h4, _⟩ := h _ _ _ hp; exact ⟨_, h1, by simp only [h2, h3, h4]; exact hx⟩
  | .dsl nm len, x, e => by
    simp only [den, Option.bind_eq_some_iff] at e ⊢; obtain ⟨⟨b, c⟩, hp, hx⟩ := e; obtain ⟨c', h1, h2, h3, h4, h5⟩ := h _ _ _ hp; exact ⟨_, h1, by simp only [h2, h3, h4, h5]; exact hx⟩
  | .dptr nm len, x, e => by
    simp only [den, Option.bind_eq_some_iff] at e ⊢; obtain ⟨⟨b, c⟩, hp, hx⟩ := e; obtain ⟨c', h1, h2, h3, h4, _⟩ := h _ _ _ hp; exact ⟨_, h1, by simp only [h3, h4]; exact hx⟩
  | .rptr nm w i j, x, e => by
    simp only [den, Option.bind_eq_some_iff] at e ⊢; obtain ⟨⟨b, c⟩, hp, hx⟩ := e; obtain ⟨c', h1, h2, h3, h4, _⟩ := h _ _ _ hp; exact ⟨_, h1, by simp only [h3, h4]; exact hx⟩
  | .mapp nm, x, e => by
    simp only [den, Option.map_eq_some_iff] at e ⊢; obtain ⟨⟨b, c⟩, hp, hx⟩ := e; obtain ⟨c', h1, _⟩ := h _ _ _ hp; exact ⟨_, h1, hx⟩
  | .vsl nm w off len, x, e => by
    simp only [den, Option.bind_eq_some_iff] at e ⊢; obtain ⟨⟨b, c⟩, hp, hx⟩ := e; obtain ⟨c', h1, h2, h3, h4, _⟩ := h _ _ _ hp; exact ⟨_, h1, by simp only [h2, h3, h4]; exact hx⟩
  | .qzz, x, e => e
  | .gptr g off, x, e => e
  | .agg cs, x, e => by
    simp only [den, Option.bind_eq_some_iff] at e ⊢; obtain ⟨p, hp, hx⟩ := e; exact ⟨p, denL_sim h cs p hp, hx⟩
  | .tuple cs, x, e => by
    simp only [den, Option.map_eq_some_iff] at e ⊢; obtain ⟨p, hp, hx⟩ := e; exact ⟨p, denL_sim h cs p hp, hx⟩
  | .func f as cs, x, e => by
    simp only [den] at e ⊢
    split at e
    · rename_i hf; rw [if_pos hf]; exact yfOf_sim h e
    · rename_i hf
      rw [if_neg hf]
      split at e
      · rename_i ys zs hy hz; rw [denL_sim h as ys hy, denL_sim h cs zs hz]; exact e
      · cases e
  | .bad, x, e => by simp [den] at e
  | .nilfunc, x, e => e
  | .nilmap, x, e => e
  | .iface t v, x, e => by
    simp only [den, Option.map_eq_some_iff] at e ⊢; obtain ⟨p, hp, hx⟩ := e; exact ⟨p, den_sim h v p hp, hx⟩
  | .niliface, x, e => e
theorem denL_sim {E E' : Env} (h : EnvSim E E') : ∀ (vs : List AV) (xs : List Value), denL E vs = some xs → denL E' vs = some xs
  | [], xs, e => e
  | v :: vs, xs, e => by
    simp only [denL] at e ⊢
    split at e
    · rename_i x ys hx hys
      rw [den_sim h v x hx, denL_sim h vs ys hys]; exact e
    · cases e
end
theorem ObjR.sim {E E' : Env} (h : EnvSim E E') {w : World} {b : Nat} {c c' : Cap} {o : AObj} (h2 : c'.n = c.n) (h3 : c'.o = c.o) (h4 : c'.z = c.z) (hn : o.isNest = false ∨ c' = c) (k : ObjR E w b c o) : ObjR E' w b c' o := by
  cases o with
  | cells cs t => obtain ⟨xs, hx, hw⟩ := k; exact ⟨xs, ⟨denL_sim h _ _ hx.1, hx.2⟩, hw⟩
  | vec cs t sz => obtain ⟨xs, ys, hx, hw, hl, ho, hz⟩ := k; exact ⟨xs, ys, ⟨denL_sim h _ _ hx.1, hx.2⟩, hw, by rw [h2]; exact hl, h3.trans ho, h4.trans hz⟩
  | ro off cs => obtain ⟨xs, hx, hw⟩ := k; exact ⟨xs, ⟨denL_sim h _ _ hx.1, hx.2⟩, hw⟩
  | flat m cs => obtain ⟨xs, hx, hz, hw⟩ := k; exact ⟨xs, ⟨denL_sim h _ _ hx.1, hx.2⟩, fun e => hz (h4 ▸ e), fun e => by rw [h3]; exact hw (h4 ▸ e)⟩
  | flatR m sh rows => obtain ⟨hz, hw⟩ := k; exact ⟨fun e => hz (h4 ▸ e), fun e => by rw [h3]; exact hw (h4 ▸ e)⟩
  | flatN sh rows =>
    rcases hn with hn | rfl
    · cases hn
    · exact k
  | iter s pos => exact k
  | shut cs t sz => obtain ⟨xs, ys, hx, hw, hl, ho, hz⟩ := k; exact ⟨xs, ys, ⟨denL_sim h _ _ hx.1, hx.2⟩, hw, by rw [h2]; exact hl, h3.trans ho, h4.trans hz⟩
  | mapS n ks => exact k
  | loopR up n ix cs ps asg body => obtain ⟨xs, r, hx, hw⟩ := k; exact ⟨xs, r, denL_sim h _ _ hx, hw⟩
  | dead => trivial
theorem touches_sim {b k : Nat} {c c' : Cap} {o : AObj} (h4 : c'.z = c.z) (ht : touches b c' o k) : touches b c o k := by
  cases o with
  | flat m cs => exact ⟨h4 ▸ ht.1, ht.2⟩
  | flatR m sh rows => exact ⟨h4 ▸ ht.1, ht.2⟩
  | flatN sh rows => exact ⟨h4 ▸ ht.1, ht.2⟩
  | _ => exact ht
def Env.strip (E : Env) (K : Nat) : Env := fun n => if n < K then E n else (E n).map fun p => (p.1, { p.2 with sub := fun _ _ => none })
theorem strip_old {E : Env} {K n : Nat} (h : n < K) : E.strip K n = E n := by simp [Env.strip, h]
theorem strip_back {E : Env} {K n b : Nat} {c : Cap} (h : E.strip K n = some (b, c)) : ∃ c0, E n = some (b, c0) ∧ c.n = c0.n ∧ c.o = c0.o ∧ c.z = c0.z ∧ (K ≤ n → c.bare) ∧ (n < K → c = c0) := by
  unfold Env.strip at h
  split at h
  · rename_i hk; exact ⟨c, h, rfl, rfl, rfl, fun e => absurd hk (by omega), fun _ => rfl⟩
  · rename_i hk
    simp only [Option.map_eq_some_iff, Prod.mk.injEq] at h
    obtain ⟨⟨b0, c0⟩, h1, rfl, rfl⟩ := h
    exact ⟨c0, h1, rfl, rfl, rfl, fun _ => Cap.bare_of fun _ _ => rfl, fun e => absurd e hk⟩
theorem strip_sim (E : Env) (K : Nat) : EnvSim E (E.strip K) := fun n b c h => by
  unfold Env.strip
  split
  · exact ⟨c, h, rfl, rfl, rfl, rfl⟩
  · exact ⟨{ c with sub := fun _ _ => none }, by rw [h]; rfl, rfl, rfl, rfl, rfl⟩
structure PostR0 (E E' : Env) (w w' : World) (pre post : List AObj) : Prop where
  le : Env.le E E'
  cut : ∀ n, post.length ≤ n → E' n = none
  objs : ∀ (n : Nat) (o : AObj), post[n]? = some o → ∃ b c, E' n = some (b, c) ∧ ObjR E' w' b c o
  made : ∀ (n b : Nat) (c : Cap) (o : AObj), pre.length ≤ n → post[n]? = some o → E' n = some (b, c) → touches b c o b → w.heap.size ≤ b ∨ ∃ (j : Nat) (c' : Cap) (o : AObj), pre[j]? = some o ∧ o.owned = true ∧ post[j]? = some AObj.dead ∧ E j = some (b, c')
  keep : ∀ k : Nat, k < w.heap.size → (∀ (n : Nat) (o : AObj) (c : Cap), pre[n]? = some o → o.owned = true → E n ≠ some (k, c)) → w'.heap[k]? = w.heap[k]?
  newApart : ∀ (n m : Nat) (o o' : AObj) (b : Nat) (c : Cap) (b' : Nat) (c' : Cap), pre.length ≤ n → pre.length ≤ m → post[n]? = some o → post[m]? = some o' → o.owned = true → o'.live = true → E' n = some (b, c) → E' m = some (b', c') → n ≠ m → ¬ touches b' c' o' b
  grow : w.heap.size ≤ w'.heap.size
  os : w'.os = w.os
  tape : w'.tape = w.tape
  output : w'.output = w.output
theorem PostR0.strip {E E' : Env} {w w' : World} {pre post : List AObj} (h : PostR0 E E' w w' pre post) (hpre : ∀ n p, E n = some p → n < pre.length) (hn : ∀ (n : Nat) (o : AObj), pre.length ≤ n → post[n]? = some o → o.isNest = false) : PostR E (E'.strip pre.length) w w' pre post :=
  { le := fun n p e => by rw [strip_old (hpre n p e)]; exact h.le n p e
    cut := fun n e => by unfold Env.strip; rw [h.cut n e]; split <;> rfl
    objs := fun n o e => by
      obtain ⟨b, c, hE, hob⟩ := h.objs n o e
      obtain ⟨c', h1, h2, h3, h4, _⟩ := strip_sim E' pre.length n b c hE
      refine ⟨b, c', h1, hob.sim (strip_sim _ _) h2 h3 h4 ?_⟩
      rcases Nat.lt_or_ge n pre.length with g | g
      · rw [strip_old g, hE] at h1; cases h1; exact .inr rfl
      · exact .inl (hn n o g e)
    made := fun n b c o e1 e2 e3 e4 => by
      obtain ⟨c0, h1, _, _, h4, _⟩ := strip_back e3
      exact h.made n b c0 o e1 e2 h1 (touches_sim h4 e4)
    bare := fun n b c e1 e2 => by
      obtain ⟨c0, _, _, _, _, h5, _⟩ := strip_back e2
      exact h5 e1
    keep := h.keep
    newApart := fun n m o o' b c b' c' e1 e2 e3 e4 e5 e6 e7 e8 e9 ht => by
      obtain ⟨c0, h1, _⟩ := strip_back e7
      obtain ⟨c0', h1', _, _, h4', _⟩ := strip_back e8
      exact h.newApart n m o o' b c0 b' c0' e1 e2 e3 e4 e5 e6 h1 h1' e9 (touches_sim h4' ht)
    grow := h.grow, os := h.os, tape := h.tape, output := h.output }
theorem post_core {w w' : World} {E E' : Env} {rs : List ResultVar} {pre post : List AObj} {res : AV} {s' : AState} {a' : Act} {hs : List Hint} {ob : List Prop} (hfin : finA P rs hs s' pre.length res post = some ob) (hob : AllP ob)
    (hpq : ((pre.zip post).all fun p => !p.1.owned || p.2.owned || !p.2.live) = true) (hp : PreR E w pre) (hle : Env.leK pre.length E E') (h' : Rel w (fun b => ∃ (n : Nat) (o : AObj) (c : Cap), pre[n]? = some o ∧ o.owned = true ∧ E n = some (b, c)) E' s' a' w') :
    ∃ ob1 vs, resA P s' rs hs = some (ob1, vs) ∧ AllP ob1 ∧ one vs = res ∧ ∃ E'', (∀ x, den E' res = some x → den E'' res = some x) ∧ PostR E E'' w w' pre post := by
  unfold finA at hfin
  simp only at hfin
  split at hfin
  · rename_i ob1 vs ob2 hr hpo
    split at hfin
    · rename_i hpl
      cases hfin
      obtain ⟨k1, k2⟩ := qzu.1 hob
      obtain ⟨k2, k3⟩ := k2
      have k2 : one vs = res := k2
      obtain ⟨k3, k4⟩ := qzu.1 k3
      let D : Nat → Bool := fun n => decide (post.length ≤ n)
      have hav := avoidA_spec k3
      have hpost := postA_get (mem := s'.mem) post 0 ob2 hpo k4
      simp only [Nat.zero_add] at hpost
      have hlive : ∀ {o : AObj}, o.owned = true → o.live = true := fun {o} h => by cases o <;> first | rfl | cases h
      have hDlt : ∀ {n}, n < post.length → D n = false := fun {n} hn => by simp only [D, decide_eq_false_iff_not]; omega
      have hcut : ∀ n, post.length ≤ n → E'.drop D n = none := fun n hn => by simp [Env.drop, D, hn]
      have back : ∀ n p, E'.drop D n = some p → n < post.length ∧ E' n = some p := fun n p hn => by
        rcases Nat.lt_or_ge n post.length with g | g
        · rw [drop_some (hDlt g)] at hn; exact ⟨g, hn⟩
        · rw [hcut n g] at hn; cases hn
      have P0 : PostR0 E (E'.drop D) w w' pre post :=
        { le := fun n p hn => by
            have hlt : n < pre.length := by
              rcases Nat.lt_or_ge n pre.length with g | g
              · exact g
              · rw [hp.fresh n g] at hn; cases hn
            rw [drop_some (hDlt (by omega))]; exact hle n p hlt hn
          cut := hcut
          objs := fun n o hn => by
            have hlt := (List.getElem?_eq_some_iff.1 hn).1
            obtain ⟨o', ho', hor⟩ := hpost n o hn
            obtain ⟨b, c, hE, hob, _⟩ := h'.mem n o' ho'
            refine ⟨b, c, by rw [drop_some (hDlt hlt)]; exact hE, ?_⟩
            rcases hor with ⟨rfl, _⟩ | ⟨hso, hao, _⟩
            · trivial
            · exact hao E' w' b c (sameO_obj hso hob)
          made := fun n b c p hn hp hE ht => by
            obtain ⟨hlt, hE⟩ := back n _ hE
            obtain ⟨o', ho', hor⟩ := hpost n p hp
            rcases hor with ⟨_, g⟩ | ⟨hso, _, g | g⟩
            · omega
            · omega
            · obtain ⟨b', c', hE2, _, hM⟩ := h'.mem n o' ho'
              rw [hE] at hE2; cases hE2
              rcases hM g (sameO_touches hso ht) with g2 | ⟨j, oj, cj, hj, hjo, hEj⟩
              · exact .inl g2
              · have hjlt := (List.getElem?_eq_some_iff.1 hj).1
                have hjl : j < post.length := by omega
                obtain ⟨oj', hoj', horj⟩ := hpost j _ (List.getElem?_eq_getElem hjl)
                have hEj' := hle j _ hjlt hEj
                have hq : post[j] = .dead ∨ post[j].owned = true := by
                  have := all_zip (f := fun p q => !p.owned || q.owned || !q.live) hpq hj (List.getElem?_eq_getElem hjl)
                  simp only [hjo, Bool.not_true, Bool.false_or, Bool.or_eq_true, Bool.not_eq_true'] at this
                  rcases this with h | h
                  · exact .inr h
                  · exact .inl (by generalize post[j] = q at h; cases q <;> first | rfl | cases h)
                rcases hq with hq | hq
                · exact .inr ⟨j, cj, oj, hj, hjo, by rw [List.getElem?_eq_getElem hjl, hq], hEj⟩
                · rcases horj with ⟨e, _⟩ | ⟨e, _⟩
                  · rw [e] at hq; cases hq
                  · have e2 := sameO_owned e hq
                    exact absurd (sameO_touches hso ht) (h'.apart j n oj' o' b cj b c hoj' ho' (e2 ▸ hq) (mine_live g) hEj' hE (by omega))
          keep := fun j hj hne => h'.frame j hj (by
            rintro ⟨n, o, c, h1, h2, h3⟩
            exact hne n o c h1 h2 h3)
          newApart := fun n m p p' b c b' c' hn hm hp hp' w1 w2 hE1 hE2 hne => by
            obtain ⟨hl1, hE1⟩ := back n _ hE1
            obtain ⟨hl2, hE2⟩ := back m _ hE2
            obtain ⟨o1, ho1, hor1⟩ := hpost n p hp
            obtain ⟨o2, ho2, hor2⟩ := hpost m p' hp'
            have s1 : sameO o1 p := by rcases hor1 with ⟨_, g⟩ | ⟨g, _⟩ <;> first | exact g | omega
            have s2 : sameO o2 p' ∧ o2.mine = true := by
              rcases hor2 with ⟨_, g⟩ | ⟨g, _, g2 | g2⟩ <;> first | exact ⟨g, g2⟩ | omega
            have e1 := sameO_owned s1 w1
            subst e1
            exact fun ht => h'.apart n m o1 o2 b c b' c' ho1 ho2 w1 (mine_live s2.2) hE1 hE2 hne (sameO_touches s2.1 ht)
          grow := h'.grow, os := h'.os, tape := h'.tape, output := h'.output }
      refine ⟨ob1, vs, hr, k1, k2, (E'.drop D).strip pre.length, fun x hx => den_sim (strip_sim _ _) _ _ (hav E' x hx), P0.strip (fun n p hn => ?_) fun n p hn hp => ?_⟩
      · rcases Nat.lt_or_ge n pre.length with g | g
        · exact g
        · rw [hp.fresh n g] at hn; cases hn
      · obtain ⟨o', ho', hor⟩ := hpost n p hp
        rcases hor with ⟨_, g⟩ | ⟨hso, _, g | g⟩
        · omega
        · omega
        · cases p with
          | flatN sh rows => rw [show o' = _ from hso] at g; cases g
          | _ => rfl
    · cases hfin
  · cases hfin
theorem meets_of_tri {f : FuncId} {fn : Func} {body : Code} {args : List AV} {pre post : List AObj} {res : AV} {k : Nat} {ex : Ex} {s' : AState} {hs : List Hint} {ob : List Prop} (hfy : f ≠ yF) (hf : P.funcs[f]? = some fn) (hb : fn.body = some body)
    (hent : ∀ args w, (callFunc f args).run P w = .ok (.enter f args) w) (ht : Tri P body (start fn.ntmps args pre k) ex s' pre.length) (hex : ex = .ret ∨ ex = .normal) (hfin : finA P fn.results.toList hs s' pre.length res post = some ob) (hob : AllP ob) (hpq : ((pre.zip post).all fun p => !p.1.owned || p.2.owned || !p.2.live) = true) :
    Meets P f args pre res post := by
  intro w E xs hx hp
  refine Does.of hfy (.inl ⟨f, xs.toArray, hent _ w, calls_WR.1 (callsIn_of_wp_marks (F := WR none) (n := 0) hf hb True.intro ?_)⟩)
  have h0 := start_rel (ntmps := fn.ntmps) (k := k) hx hp
  refine wpIn_mono (ht none w _ E _ w (.inl rfl) h0) ?_
  rintro e a' w1 ⟨rfl, E', hle, h1'⟩
  have hs : ∀ w', Rel w _ E' s' ⟨a'.tmps, []⟩ w' → ∃ x, (results fn a'.tmps).run P w' = .ok x w' ∧ ∃ E' x', Ending.returned x = .returned x' ∧ den E' res = some x' ∧ PostR E E' w w' pre post := fun w' h' => by
    obtain ⟨ob1, vs, hr, k1, k2, E'', hd2, hpost⟩ := post_core hfin hob hpq hp hle h'
    obtain ⟨x, hrun, hd⟩ := results_run h' hr k1
    exact ⟨x, hrun, E'', x, rfl, hd2 x (k2 ▸ hd), hpost⟩
  have := leaves_rel (P := P) (fn := fn) (R := fun e w' => ∃ E' x, e = .returned x ∧ den E' res = some x ∧ PostR E E' w w' pre post) hs a'.defers w1 h1'
  rcases hex with rfl | rfl <;> exact this
def bodyOf (fn : Func) : Code := fn.body.getD .skip
end Go.Proofs.YtphhepnldndbhaaGreatDoor.Sx
namespace Go.Proofs.YtphhepnldndbhaaGreatDoor.Sx
open Go
theorem i64_in {n : Int} (h : -9223372036854775808 ≤ n) (h2 : n < 9223372036854775808) : IntKind.i64.wrap n = n := by
  have e : IntKind.i64.wrap n = (if n % 18446744073709551616 ≥ 9223372036854775808 then n % 18446744073709551616 - 18446744073709551616 else n % 18446744073709551616) := by
    simp [IntKind.wrap, IntKind.bits, IntKind.signed]
  rw [e]; split <;> omega
theorem ints_length {k : IntKind} {l : List Int} : (ints k l).length = l.length := by simp [ints]
theorem u8s_length {l : List UInt8} : (u8s l).length = l.length := by simp [u8s]
theorem ints_get {k : IntKind} {l : List Int} {i : Nat} (h : i < l.length) : (ints k l)[i]? = some (AV.int k (l.getD i 0)) := by
  simp [ints, List.getD, h]
theorem u8s_get {s : List UInt8} {i : Nat} (h : i < s.length) : (u8s s)[i]? = some (AV.int .u8 (((s.getD i 0).toNat : Nat) : Int)) := by
  simp [u8s, List.getD, h]
theorem ints_set {k : IntKind} {l : List Int} {i : Nat} {x : Int} : (ints k l).set i (AV.int k x) = ints k (l.set i x) := by
  simp [ints, List.map_set]
theorem strGet {s : List UInt8} {i : Nat} (h : i < s.length) : Option.map (fun c : UInt8 => (c.toNat : Int)) s[i]? = some ((s.getD i 0).toNat : Int) := by
  simp [List.getD, h]
theorem set_eq {l : List AV} {i : Nat} {v : AV} (h : i < l.length) : List.take i l ++ [v] ++ List.drop (i + 1) l = l.set i v := by
  rw [List.set_eq_take_append_cons_drop, if_pos h]; simp
theorem renL_ints (r : List Nat) (k : IntKind) (l : List Int) : renL r (ints k l) = ints k l := by
  induction l with
  | nil => rfl
  | cons a l ih => simp only [ints, List.map_cons, renL, AV.ren] at ih ⊢; rw [ih]
theorem renL_u8s (r : List Nat) (l : List UInt8) : renL r (u8s l) = u8s l := by
  induction l with
  | nil => rfl
  | cons a l ih => simp only [u8s, List.map_cons, renL, AV.ren] at ih ⊢; rw [ih]
theorem Fits.flat {m m' : Bool} {cs us : List AV} (h : cs.take us.length = us) : Fits (.flat m cs) (.flat m' us) := fun E w k c ho => by
  obtain ⟨xs, hx, hz, hw⟩ := (sameF_obj (a := .flat m cs) (b := .flat m us) ⟨rfl, h⟩ ho)
  exact ⟨xs, hx, hz, hw⟩
theorem Fits.ints {m m' : Bool} {k : IntKind} {r : List Nat} {l l' : List Int} (h : l.take l'.length = l') : Fits (.flat m (ints k l)) (AObj.ren r (.flat m' (ints k l'))) := by
  simp only [AObj.ren, renL_ints]
  exact Fits.flat (by rw [ints_length]; simp only [Sx.ints, ← List.map_take, h])
theorem tri_up {P : Program} {body : Code} {ex : Ex} {out : AState} {K : Nat} (inv : Nat → AState) (hex : ex ≠ .normal) (n : Nat) (round : ∀ k, k < n → Tri P body (inv k) .normal (inv (k + 1)) K) (last : Tri P body (inv n) ex out K) (k : Nat) (hk : k ≤ n) : Tri P (.loop body) (inv k) ex out K :=
  tri_loop (ι := {k : Nat // k ≤ n}) (fun i => inv i.1) (fun i => n - i.1) hex (fun ⟨k, hk⟩ => by
    by_cases e : k = n
    · subst e; exact .inr last
    · exact .inl ⟨⟨k + 1, by omega⟩, by show n - (k + 1) < n - k; omega, round k (by omega)⟩) ⟨k, hk⟩
abbrev sB (b : Bool) : Option AV := some (.bool b)
def rowsA (sh : List CK) (rows : List (List CV)) : List AV := rows.flatMap (rowA sh)
def cvOf : CK → AV → Option CV
  | .int k, .int k' n => if k == k' then some (.mk n [] false []) else none
  | .str, .str s => some (.mk 0 s false [])
  | .bool, .bool b => some (.mk 0 [] b [])
  | .nils, .qzz => some (.mk 0 [] false [])
  | _, _ => none
def rowOf : List CK → List AV → Option (List CV)
  | [], [] => some []
  | k :: sh, a :: cs => match cvOf k a, rowOf sh cs with
    | some c, some r => some (c :: r)
    | _, _ => none
  | _, _ => none
def rowsOf (sh : List CK) : Nat → List AV → Option (List (List CV))
  | 0, [] => some []
  | n + 1, cs => match rowOf sh (cs.take sh.length), rowsOf sh n (cs.drop sh.length) with
    | some r, some rs => some (r :: rs)
    | _, _ => none
  | _, _ => none
def ckOf (P : Program) (t : TypeId) : Option CK :=
  match P.underlying t with
  | some (.int k) => some (.int k)
  | some .string => some .str
  | some .bool => some .bool
  | some (.slice _) => some .nils
  | _ => none
def shapeN (P : Program) : Nat → List Field → Option (List CK)
  | _, [] => some []
  | 0, _ => none
  | n + 1, f :: fs => match (match ckOf P f.type with
      | some k => some [k]
      | none => match P.underlying f.type with
        | some (.struct gs) => shapeN P n gs.toList
        | _ => none), shapeN P n fs with
    | some k, some l => some (k ++ l)
    | _, _ => none
def shapeOf (P : Program) (fs : List Field) : Option (List CK) := shapeN P 64 fs
inductive PObj where
  | raw (o : AObj)
  | vecI (k : IntKind) (l : List Int) (t : TypeId)
  | arrI (k : IntKind) (l : List Int) (t : TypeId)
  | vecB (l : List UInt8) (t : TypeId)
  | arrB (l : List UInt8) (t : TypeId)
  | shutB (l : List UInt8) (t : TypeId)
  | vecR (sh : List CK) (rows : List (List CV)) (t : TypeId)
  | arrT (l : List Bool) (t : TypeId)
  | flatI (m : Bool) (l : List Int)
  | flatU (m : Bool) (l : List UInt8)
  deriving Inhabited
def PObj.toA : PObj → AObj
  | .raw o => o
  | .vecI k l t => .vec (ints k l) t 1
  | .arrI k l t => .cells (ints k l) t
  | .vecB l t => .vec (u8s l) t 1
  | .arrB l t => .cells (u8s l) t
  | .shutB l t => .shut (u8s l) t 1
  | .vecR sh rows t => .vec (rowsA sh rows) t sh.length
  | .arrT l t => .cells (l.map .bool) t
  | .flatI m l => .flat m (ints .i64 l)
  | .flatU m l => .flat m (u8s l)
structure qzw where
  slots : List (Option AV)
  mem : List (Option PObj)
def memA (m : List (Option PObj)) : List (Option AObj) := m.map (Option.map PObj.toA)
def qzw.toA (s : qzw) : AState := ⟨s.slots, memA s.mem⟩
def qyw {α : Type} (b : Bool) (x y : α) : α := match b with | true => x | false => y
inductive Alt where
  | ok (chk : Bool) (h : Hint) (upd new : List PObj)
  | br (b : Bool) (x y : Alt)
def frn : List (Option PObj) → Nat
  | [] => 0
  | none :: _ => 0
  | some _ :: m => frn m + 1
def lookP (m : List (Option PObj)) (n : Nat) : Option PObj := (m[n]?).join
def fillB (place : Nat → Option (Nat × Nat)) (n : Nat) : List (Nat × AV) → Bool
  | [] => true
  | (i, v) :: rest => match place i with
    | none => false
    | some (off, size) => Nat.beq v.cells.length size && Nat.ble (off + size) n && fillB place n rest
def buildB (P : Program) (t : TypeId) (parts : List (Nat × AV)) : Bool :=
  match P.underlying t, zeroA P t with
  | some (.struct fs), some z => fillB (fun i => (fs[i]?).map fun f => (f.offset, P.cellsOf f.type)) z.cells.length parts
  | some (.array _ e), some z => fillB (fun i => some (i * P.cellsOf e, P.cellsOf e)) z.cells.length parts
  | _, _ => false
def okP (chk : Bool) : Option Alt := some (.ok chk {} [] [])
def binP (op : BinOp) (x y : AV) : Bool :=
  match op, x, y with
  | .shl, .int _ _, .int _ b => decide (0 ≤ b)
  | .shr, .int _ _, .int _ b => decide (0 ≤ b)
  | .quo, .int _ _, .int _ b => b != 0
  | .rem, .int _ _, .int _ b => b != 0
  | .add, .str a, .str b => decide (a.length + b.length ≤ 9223372036854775807)
  | _, _, _ => true
def strSliceB (n : Nat) : Option Operand → Option Operand → List AV → Bool
  | none, none, [] => true
  | some _, none, [.int _ i] => decide (0 ≤ i ∧ i.toNat ≤ n)
  | none, some _, [.int _ j] => decide (0 ≤ j ∧ j.toNat ≤ n)
  | some _, some _, [.int _ i, .int _ j] => decide (0 ≤ i ∧ 0 ≤ j ∧ i.toNat ≤ j.toNat ∧ j.toNat ≤ n)
  | _, _, _ => false
def bndB : Option Operand → List AV → Bool
  | none, _ => true
  | some _, .int _ i :: _ => decide (0 ≤ i)
  | some _, _ => false
def boundsB (len cap : Nat) (lo hi mx : Option Operand) (vs : List AV) : Bool :=
  match boundA 0 lo vs with
  | some (_, l, vs1) =>
    match boundA len hi vs1 with
    | some (_, h, vs2) =>
      match boundA cap mx vs2 with
      | some (_, m, _) => bndB lo vs && bndB hi vs1 && bndB mx vs2 && decide (l ≤ h ∧ h ≤ m ∧ m ≤ cap)
      | none => false
    | none => false
  | none => false
def PObj.lenP : PObj → Nat
  | .raw (.vec c _ _) => c.length
  | .vecI _ l _ => l.length
  | .vecB l _ => l.length
  | .vecR sh rows _ => rows.length * sh.length
  | _ => 0
def PObj.sizeP : PObj → Nat
  | .raw (.vec _ _ sz) => sz
  | .vecI _ _ _ => 1
  | .vecB _ _ => 1
  | .vecR sh _ _ => sh.length
  | _ => 0
def sliceP (P : Program) (t : TypeId) (lo hi mx : Option Operand) (x : AV) (vs : List AV) (mem : List (Option PObj)) : Option Alt :=
  match P.underlying t, x with
  | some .string, .str s => if mx.isNone then okP (strSliceB s.length lo hi vs) else none
  | some (.array n _), .ptr _ _ => okP (boundsB n n lo hi mx vs)
  | some (.slice _), .slice _ _ len cap => okP (boundsB len cap lo hi mx vs)
  | some (.slice _), .qzz => okP (boundsB 0 0 lo hi mx vs)
  | some (.slice _), .dsl _ len => match lo with
    | none => match mx, boundA len hi vs with
      | none, some (_, u, _) => okP (bndB hi vs && decide (u ≤ len))
      | _, _ => none
    | some p => match mx, boundA 0 (some p) vs with
      | none, some (_, l, vs1) => match boundA len hi vs1 with
        | some (_, u, []) => okP (bndB (some p) vs && (bndB hi vs1 && decide (l ≤ u ∧ u ≤ len)))
        | _ => none
      | _, _ => none
  | some (.slice e), .vec nm len => match lo with
    | none => match lookP mem nm, boundA len hi vs with
      | some o, some (_, u, _) => if Nat.beq o.sizeP (P.cellsOf e) then some (.ok (bndB hi vs && decide (0 < P.cellsOf e ∧ u * P.cellsOf e ≤ o.lenP)) {} [o] []) else none
      | _, _ => none
    | some p => match mx, lookP mem nm, boundA 0 (some p) vs with
      | none, some o, some (_, l, vs1) => match boundA len hi vs1 with
        | some (_, u, []) => some (.ok (bndB (some p) vs && (bndB hi vs1 && decide (l ≤ u ∧ u ≤ len))) {} [o] [])
        | _ => none
      | _, _, _ => none
  | _, _ => none
def tabAt (l : List (IntKind × Int)) (i : Nat) : Int := (l.getD i (.i64, 0)).2
def tabKind (l : List (IntKind × Int)) : IntKind := (l.getD 0 (.i64, 0)).1
def tabOne (k : IntKind) (l : List (IntKind × Int)) : Bool := l.all fun p => p.1 == k
def byteAt (l : List UInt8) (i : Nat) : Int := ((l.getD i 0).toNat : Int)
def toByte (n : Int) : UInt8 := UInt8.ofNat n.toNat
def intsOfA (k : IntKind) : List AV → Option (List Int)
  | [] => some []
  | .int k' n :: cs => if k' == k then (intsOfA k cs).map (n :: ·) else none
  | _ => none
def strsOfA : List AV → Option (List (List UInt8))
  | [] => some []
  | .str s :: cs => (strsOfA cs).map (s :: ·)
  | _ => none
def manyStr (cs : List AV) : Option (List (List UInt8)) := if Nat.ble 8 cs.length then strsOfA cs else none
def manyInt (cs : List AV) : Option (List Int) := if Nat.ble 8 cs.length then intsOfA .i64 cs else none
def loadP (P : Program) (t : TypeId) (nm off : Nat) (mem : List (Option PObj)) : Option Alt :=
  match P.underlying t, lookP mem nm with
  | some d, some (.raw o) =>
    match o.known with
    | some (o0, cs) =>
      match manyStr cs, isAggD d with
      | some l, false => some (.ok (Nat.ble o0 off && decide (off - o0 < l.length)) { val := some (.str (l.getD (off - o0) [])) } [.raw o] [])
      | _, _ =>
        match manyInt cs, isAggD d with
        | some l, false => some (.ok (Nat.ble o0 off && decide (off - o0 < l.length)) { val := some (.int .i64 (l.getD (off - o0) 0)) } [.raw o] [])
        | _, _ => some (.ok (Nat.ble o0 off && (if isAggD d then Nat.ble (off - o0 + P.cellsOf t) cs.length else true)) {} [.raw o] [])
    | none => none
  | some d, some (.vecI k l e) => if isAggD d then none else some (.ok (decide (off < l.length)) { val := some (.int k (l.getD off 0)) } [.vecI k l e] [])
  | some d, some (.arrI k l e) => if isAggD d then none else some (.ok (decide (off < l.length)) { val := some (.int k (l.getD off 0)) } [.arrI k l e] [])
  | some d, some (.vecB l e) => if isAggD d then none else some (.ok (decide (off < l.length)) { val := some (.int .u8 (byteAt l off)) } [.vecB l e] [])
  | some d, some (.arrB l e) => if isAggD d then none else some (.ok (decide (off < l.length)) { val := some (.int .u8 (byteAt l off)) } [.arrB l e] [])
  | some d, some (.arrT l e) => if isAggD d then none else some (.ok (decide (off < l.length)) { val := some (.bool (l.getD off false)) } [.arrT l e] [])
  | _, _ => none
def loadDP (P : Program) (t : TypeId) (nm off : Nat) (mem : List (Option PObj)) : Option Alt :=
  match P.underlying t, lookP mem nm with
  | some d, some (.flatI m l) => if isAggD d then none else some (.ok (decide (off < l.length)) { val := some (.int .i64 (l.getD off 0)) } [.flatI m l] [])
  | some d, some (.flatU m l) => if isAggD d then none else some (.ok (decide (off < l.length)) { val := some (.int .u8 (byteAt l off)) } [.flatU m l] [])
  | _, _ => none
def loadRP (P : Program) (t : TypeId) (w i j : Nat) (nm : Nat) (mem : List (Option PObj)) : Option Alt :=
  match P.underlying t, lookP mem nm with
  | some _, some (.raw (.flatN sh rows)) => match slOf sh, j with
    | some q, 0 => some (.ok (decide (i < rows.length) && Nat.beq w sh.length && Nat.beq (P.cellsOf t) sh.length) { nm := [frn mem], view := 6 } [] [.flatI false (kidsOf (rowCV (rowAt rows i) q))])
    | _, _ => none
  | some d, some (.raw (.flatR m sh rows)) => if isAggD d then some (.ok (decide (i < rows.length) && Nat.beq w sh.length && Nat.ble (j + P.cellsOf t) sh.length) {} [.raw (.flatR m sh rows)] []) else some (.ok (decide (i < rows.length) && Nat.beq w sh.length) {} [.raw (.flatR m sh rows)] [])
  | some d, some (.vecR sh rows e) =>
    if isAggD d then some (.ok (decide (i < rows.length) && Nat.beq w sh.length && Nat.ble (j + P.cellsOf t) sh.length) { val := some (.agg (((rowA sh (rowAt rows i)).drop j).take (P.cellsOf t))) } [.vecR sh rows e] [])
    else some (.ok (decide (i < rows.length) && Nat.beq w sh.length && Nat.blt j sh.length) { val := some (cellA (sh.getD j .any) (rowCV (rowAt rows i) j)) } [.vecR sh rows e] [])
  | _, _ => none
def loadGP (P : Program) (t : TypeId) (g off : Nat) : Option Alt :=
  match P.underlying t, gtab g with
  | some d, none => match gstr g with
    | some l => if isAggD d then some (.ok (decide (off + P.cellsOf t ≤ l.length)) { val := some (.agg ((List.range (P.cellsOf t)).map fun j => .str (l.getD (off + j) []))) } [] [])
      else some (.ok (decide (off < l.length)) { val := some (.str (l.getD off [])) } [] [])
    | none => none
  | some d, some l =>
    if tabOne (tabKind l) l then
      if isAggD d then some (.ok (decide (off + P.cellsOf t ≤ l.length)) { val := some (.agg ((List.range (P.cellsOf t)).map fun j => .int (tabKind l) (tabAt l (off + j)))) } [] [])
      else some (.ok (decide (off < l.length)) { val := some (.int (tabKind l) (tabAt l off)) } [] [])
    else none
  | _, _ => none
def storeP (P : Program) (t : TypeId) (nm off : Nat) (v : AV) (mem : List (Option PObj)) : Option Alt :=
  match lookP mem nm, v with
  | some (.raw o), v =>
    match o.known with
    | some (_, cs) =>
      match o.setCells (cs.take off ++ v.cells ++ cs.drop (off + P.cellsOf t)) with
      | some o1 => some (.ok (Nat.beq v.cells.length (P.cellsOf t) && Nat.ble (off + P.cellsOf t) cs.length) {} [.raw o1] [])
      | none => none
    | none => none
  | some (.vecI k l e), .int k' n => if k' == k && Nat.beq (P.cellsOf t) 1 then some (.ok (decide (off < l.length)) { obj := some [(PObj.vecI k (l.set off n) e).toA] } [.vecI k (l.set off n) e] []) else none
  | some (.arrI k l e), .int k' n => if k' == k && Nat.beq (P.cellsOf t) 1 then some (.ok (decide (off < l.length)) { obj := some [(PObj.arrI k (l.set off n) e).toA] } [.arrI k (l.set off n) e] []) else none
  | some (.vecB l e), .int k' n => if k' == .u8 && Nat.beq (P.cellsOf t) 1 then some (.ok (decide (off < l.length) && decide (0 ≤ n ∧ n < 256)) { obj := some [(PObj.vecB (l.set off (toByte n)) e).toA] } [.vecB (l.set off (toByte n)) e] []) else none
  | some (.arrT l e), .bool b => if Nat.beq (P.cellsOf t) 1 then some (.ok (decide (off < l.length)) { obj := some [(PObj.arrT (l.set off b) e).toA] } [.arrT (l.set off b) e] []) else none
  | some (.arrB l e), .int k' n => if k' == .u8 && Nat.beq (P.cellsOf t) 1 then some (.ok (decide (off < l.length) && decide (0 ≤ n ∧ n < 256)) { obj := some [(PObj.arrB (l.set off (toByte n)) e).toA] } [.arrB (l.set off (toByte n)) e] []) else none
  | _, _ => none
def storeRP (P : Program) (t : TypeId) (w i j nm : Nat) (v : AV) (mem : List (Option PObj)) : Option Alt :=
  match lookP mem nm with
  | some (.vecR sh rows e) =>
    match v with
    | .agg cs => match rowOf sh cs with
      | some r => some (.ok (decide (i < rows.length) && Nat.beq w sh.length && Nat.beq j 0 && Nat.beq (P.cellsOf t) sh.length) { obj := some [(PObj.vecR sh (rows.set i r) e).toA] } [.vecR sh (rows.set i r) e] [])
      | none => match rowOf sh ((rowA sh (rowAt rows i)).take j ++ cs ++ (rowA sh (rowAt rows i)).drop (j + cs.length)) with
        | some r => some (.ok (decide (i < rows.length) && Nat.beq w sh.length && Nat.ble (j + cs.length) sh.length && Nat.beq (P.cellsOf t) cs.length) { obj := some [(PObj.vecR sh (rows.set i r) e).toA] } [.vecR sh (rows.set i r) e] [])
        | none => none
    | _ => none
  | _ => none
def bytesOfA : List AV → Option (Bool × List UInt8)
  | [] => some (true, [])
  | .int .u8 n :: cs => (bytesOfA cs).map fun p => (decide (0 ≤ n ∧ n < 256) && p.1, toByte n :: p.2)
  | _ => none
def roomB (m bytes : Nat) : Bool := decide (2 * m * bytes ≤ 281474976710656 ∧ 2 * m < 9223372036854775808)
inductive News where
  | cells (ob : Bool) (n : Nat) (c : List AV)
  | bytes (ob : Bool) (n : Nat) (l : List UInt8)
  | nums (ob : Bool) (n : Nat) (k : IntKind) (l : List Int)
  | rows (ob : Bool) (n : Nat) (sh : List CK) (l : List (List CV))
def newsP (sz : Nat) (x : AV) (mem : List (Option PObj)) : Option News :=
  match x with
  | .qzz => some (.cells true 0 [])
  | .str s => some (.bytes (Nat.beq sz 1) s.length s)
  | .slice nm off len _ =>
    match lookP mem nm with
    | some (.raw o) => match o.known with
      | some (o0, c) => some (.cells (Nat.ble o0 off && Nat.ble (off - o0 + len * sz) c.length) len ((c.drop (off - o0)).take (len * sz)))
      | none => none
    | some (.arrB l _) => if Nat.beq sz 1 then some (.bytes (decide (off + len ≤ l.length)) len ((l.drop off).take len)) else none
    | some (.arrI k l _) => if Nat.beq sz 1 then some (.nums (decide (off + len ≤ l.length)) len k ((l.drop off).take len)) else none
    | _ => none
  | .vec nm len =>
    match lookP mem nm with
    | some (.raw o) => match o.known with
      | some (o0, c) => some (.cells (Nat.beq o0 0 && Nat.ble (len * sz) c.length) len (c.take (len * sz)))
      | none => none
    | some (.vecB l _) => if Nat.beq sz 1 then some (.bytes (decide (len ≤ l.length)) len (l.take len)) else none
    | some (.vecI k l _) => if Nat.beq sz 1 then some (.nums (decide (len ≤ l.length)) len k (l.take len)) else none
    | some (.vecR sh l _) => if Nat.beq sz sh.length then some (.rows (decide (len ≤ l.length)) len sh (l.take len)) else none
    | _ => none
  | .dsl nm len =>
    match lookP mem nm with
    | some (.flatI _ l) => if Nat.beq sz 1 then some (.nums (decide (len ≤ l.length)) len .i64 (l.take len)) else none
    | _ => none
  | .vsl nm w off len =>
    match lookP mem nm with
    | some (.vecR sh l _) => if Nat.beq sz sh.length && Nat.beq w sz then some (.rows (decide (off + len ≤ l.length)) len sh ((l.drop off).take len)) else none
    | _ => none
  | _ => none
def nameP (x : AV) (mem : List (Option PObj)) : List PObj := x.name.filterMap fun n => lookP mem n
def ckEq : CK → CK → Bool
  | .int a, .int b => a == b
  | .str, .str => true
  | .bool, .bool => true
  | .nils, .nils => true
  | _, _ => false
def shEq : List CK → List CK → Bool
  | [], [] => true
  | a :: x, b :: y => ckEq a b && shEq x y
  | _, _ => false
def growP (P : Program) (e : TypeId) (sz : Nat) (old : Option PObj) (w : News) : Option (Bool × PObj) :=
  match P.underlying e, old, w with
  | some (.int .u8), none, .bytes ob _ l => if Nat.beq sz 1 then some (ob, .vecB l e) else none
  | some (.int .u8), none, .cells ob _ c => if Nat.beq sz 1 then (bytesOfA c).map fun p => (ob && p.1, .vecB p.2 e) else none
  | some (.int .u8), some (.vecB o t), .bytes ob _ l => if Nat.beq sz 1 && t == e then some (ob, .vecB (o ++ l) e) else none
  | some (.int .u8), some (.vecB o t), .cells ob _ c => if Nat.beq sz 1 && t == e then (bytesOfA c).map fun p => (ob && p.1, .vecB (o ++ p.2) e) else none
  | some (.int k), none, .nums ob _ k' l => if Nat.beq sz 1 && k == k' then some (ob, .vecI k l e) else none
  | some (.int k), none, .cells ob _ c => if Nat.beq sz 1 then (intsOfA k c).map fun p => (ob, .vecI k p e) else none
  | some (.int k), some (.vecI k2 o t), .nums ob _ k' l => if Nat.beq sz 1 && t == e && k2 == k' then some (ob, .vecI k2 (o ++ l) e) else none
  | some (.int k), some (.vecI k2 o t), .cells ob _ c => if Nat.beq sz 1 && t == e then (intsOfA k2 c).map fun p => (ob, .vecI k2 (o ++ p) e) else none
  | some (.struct fs), none, .cells ob n c => match shapeOf P fs.toList with
    | some sh => match rowsOf sh n c with
      | some rows => if Nat.beq sz sh.length then some (ob, .vecR sh rows e) else none
      | none => some (ob, .raw (.vec c e sz))
    | none => some (ob, .raw (.vec c e sz))
  | some (.struct _), none, .rows ob _ sh l => if Nat.beq sz sh.length then some (ob, .vecR sh l e) else none
  | _, some (.vecR sh o t), .cells ob n c => if Nat.beq sz sh.length && t == e then (rowsOf sh n c).map fun l => (ob, .vecR sh (o ++ l) e) else none
  | _, some (.vecR sh o t), .rows ob _ sh' l => if Nat.beq sz sh.length && t == e && shEq sh sh' then some (ob, .vecR sh (o ++ l) e) else none
  | _, none, .cells ob _ c => some (ob, .raw (.vec c e sz))
  | _, some (.raw (.vec o t s)), .cells ob _ c => if t == e && s == sz then some (ob, .raw (.vec (o ++ c) t s)) else none
  | _, _, _ => none
def News.n : News → Nat
  | .cells _ n _ => n
  | .bytes _ n _ => n
  | .nums _ n _ _ => n
  | .rows _ n _ _ => n
def News.ob : News → Bool
  | .cells b _ _ => b
  | .bytes b _ _ => b
  | .nums b _ _ _ => b
  | .rows b _ _ _ => b
def PObj.len : PObj → Nat
  | .raw o => match o.known with | some (_, c) => c.length | none => 0
  | .vecI _ l _ => l.length
  | .arrI _ l _ => l.length
  | .vecB l _ => l.length
  | .arrB l _ => l.length
  | .shutB l _ => l.length
  | .vecR sh rows _ => rows.length * sh.length
  | .arrT l _ => l.length
  | .flatI _ l => l.length
  | .flatU _ l => l.length
def appendP (P : Program) (c : Call) (s x : AV) (mem : List (Option PObj)) : Option Alt :=
  match (c.argTypes[0]?).bind P.underlying with
  | some (.slice e) =>
    match P.info? e with
    | some ie =>
      match newsP ie.size x mem with
      | some w =>
        match s with
        | .qzz =>
          match growP P e ie.size none w with
          | some (b, o) =>
            let yes := Alt.ok (b && roomB w.n ie.bytes) { nm := [frn mem], obj := some [o.toA] } (nameP x mem) [o]
            let no := Alt.ok w.ob {} (nameP x mem) []
            some (match w with
              | .cells _ n _ => match n with
                | 0 => no
                | _ => yes
              | _ => .br (decide (0 < w.n)) yes no)
          | none => none
        | .vec nm len =>
          match lookP mem nm with
          | some old =>
            match growP P e ie.size (some old) w with
            | some (b, o) => some (.ok (b && decide (old.len = len * ie.size) && roomB (len + w.n) ie.bytes) { nm := [frn mem], obj := some [o.toA] } (.raw .dead :: nameP x mem) [o])
            | none => none
          | none => none
        | .slice nm off len cap =>
          match lookP mem nm with
          | some (.raw o) => match o.known, w with
            | some (o0, oc), .cells ob n cx => match n with
              | 0 => some (.ok (ob && Nat.ble len cap) {} (.raw o :: nameP x mem) [])
              | n + 1 => some (.ok (ob && Nat.ble o0 off && Nat.ble (off - o0 + len * ie.size) oc.length && Nat.beq len cap && Nat.blt 0 (n + 1) && roomB (len + (n + 1)) ie.bytes) { nm := [frn mem] } (.raw o :: nameP x mem) [.raw (.vec ((oc.drop (off - o0)).take (len * ie.size) ++ cx) e ie.size)])
            | some (o0, oc), .rows ob n sh l' => if Nat.beq ie.size sh.length && Nat.beq len 0 then some (.ok (ob && Nat.ble o0 off && Nat.ble (off - o0) oc.length && Nat.beq len cap && decide (0 < n) && roomB (len + n) ie.bytes) { nm := [frn mem], obj := some [(PObj.vecR sh l' e).toA] } (.raw o :: nameP x mem) [.vecR sh l' e]) else none
            | some (o0, oc), .bytes ob n l' => if Nat.beq ie.size 1 && Nat.beq len 0 then some (.ok (ob && Nat.ble o0 off && Nat.ble (off - o0) oc.length && Nat.beq len cap && decide (0 < n) && roomB (len + n) ie.bytes) { nm := [frn mem], obj := some [(PObj.vecB l' e).toA] } (.raw o :: nameP x mem) [.vecB l' e]) else none
            | _, _ => none
          | some (.arrI k l te) => match w with
            | .nums ob n k' l' => if Nat.beq ie.size 1 && k == k' then some (.ok (ob && decide (off + len ≤ l.length) && Nat.beq len cap && decide (0 < n) && roomB (len + n) ie.bytes) { nm := [frn mem], obj := some [(PObj.vecI k ((l.drop off).take len ++ l') e).toA] } (.arrI k l te :: nameP x mem) [.vecI k ((l.drop off).take len ++ l') e]) else none
            | _ => none
          | _ => none
        | _ => none
      | none => none
    | none => none
  | _ => none
def stringP (x : AV) (mem : List (Option PObj)) : Option Alt :=
  match x with
  | .vec nm len => match lookP mem nm with
    | some (.vecB l e) => some (.ok (decide (len ≤ l.length)) { val := some (.str (l.take len)) } [.vecB l e] [])
    | _ => none
  | .slice nm off len _ => match lookP mem nm with
    | some (.arrB l e) => some (.ok (decide (off + len ≤ l.length)) { val := some (.str ((l.drop off).take len)) } [.arrB l e] [])
    | some (.raw o) => match o.known with
      | some (o0, c) => match bytesOfA ((c.drop (off - o0)).take (len * 1)) with
        | some (b, l) => some (.ok (b && Nat.ble o0 off && Nat.ble (off - o0 + len * 1) c.length) { val := some (.str l) } [.raw o] [])
        | none => none
      | none => none
    | _ => none
  | .vsl nm w off len => match lookP mem nm with
    | some (.vecB l e) => some (.ok (Nat.beq w 1 && decide (off + len ≤ l.length)) { val := some (.str ((l.drop off).take len)) } [.vecB l e] [])
    | _ => none
  | _ => none
def convP (P : Program) (src dst : TypeId) (x : AV) (mem : List (Option PObj)) : Option Alt :=
  match P.underlying src, P.underlying dst, x with
  | some _, some (.slice e), .str s => match P.underlying e with
    | some (.int .u8) => some (.ok true { nm := [frn mem] } [] [.vecB s e])
    | _ => none
  | some (.slice e), some .string, .qzz => match P.underlying e with
    | some (.int .u8) => okP true
    | _ => none
  | some (.slice e), some .string, x => match P.underlying e with
    | some (.int .u8) => stringP x mem
    | _ => none
  | some (.pointer t), some .unsafePointer, .ptr nm off => match lookP mem nm with
    | some (.raw (.cells c ty)) => some (.ok (Nat.blt off c.length) {} [.raw (.cells c ty)] [])
    | _ => none
  | some .unsafePointer, some (.pointer u), .ptr nm off => match lookP mem nm with
    | some (.raw (.cells c ty)) => some (.ok (liesAt P P.depth ty (c.length / P.cellsOf ty) off u 1) {} [.raw (.cells c ty)] [])
    | _ => none
  | some _, some (.int _), .int _ _ => okP true
  | some _, some .string, .str _ => okP true
  | some _, some .string, .int _ _ => okP true
  | _, _, _ => none
def nextP (nm : Nat) (mem : List (Option PObj)) : Option Alt :=
  match lookP mem nm with
  | some (.raw (.iter s pos)) =>
    some (.br (decide (pos < s.length))
      (.ok true { val := some (.tuple [.bool true, .int .i64 pos, .int .i32 (Utf8.decode ⟨s.toArray⟩ pos).1]), obj := some [.iter s (pos + (Utf8.decode ⟨s.toArray⟩ pos).2)] } [.raw (.iter s (pos + (Utf8.decode ⟨s.toArray⟩ pos).2))] [])
      (.ok true { val := some (.tuple [.bool false]) } [.raw (.iter s pos)] []))
  | _ => none
def oneI : Nat → List AV → Option Int
  | 1, [.int .i64 x] => some x
  | _, _ => none
def pact (P : Program) (o : Op) (vals : List AV) (mem : List (Option PObj)) : Option Alt :=
  match o, vals with
  | .move _, [_] => okP true
  | .assign _, [_] => okP true
  | .pick _ _ _, [_, _, _] => okP true
  | .alloc t, [] => (zeroA P t).map fun z => .ok true { nm := [frn mem] } [] [.raw (.cells z.cells t)]
  | .box t _, [v] => some (.ok true { nm := [frn mem] } [] [.raw (.cells v.cells t)])
  | .build t ps, vs => okP (buildB P t (partsA ps.toList vs))
  | .buildSlice t len ps, vs => match P.underlying t with
    | some (.slice e) => match P.info? e, zeroA P e with
      | some ie, some z => match fillA (fun i => some (i * ie.size, ie.size)) (List.replicate len z.cells).flatten (partsA ps.toList vs) with
        | some (_, c) => match oneI len c with
          | some x => some (.ok (fillB (fun i => some (i * ie.size, ie.size)) (List.replicate len z.cells).flatten.length (partsA ps.toList vs) && Nat.beq ie.size 1) { nm := [frn mem], view := 3, obj := some [(PObj.vecI .i64 [x] e).toA] } [] [.vecI .i64 [x] e])
          | none => some (.ok (fillB (fun i => some (i * ie.size, ie.size)) (List.replicate len z.cells).flatten.length (partsA ps.toList vs)) { nm := [frn mem] } [] [.raw (.cells c e)])
        | none => none
      | _, _ => none
    | _ => none
  | .makeSlice t _ _, [.int _ len, .int _ cap] => match P.underlying t with
    | some (.slice e) => match P.info? e, zeroA P e with
      | some ie, some z =>
        let chk := decide (0 ≤ len ∧ len ≤ cap ∧ cap * ie.bytes ≤ 281474976710656 ∧ cap < 9223372036854775808)
        match z with
        | .int .u8 0 => some (.ok chk { nm := [frn mem], obj := some [(PObj.arrB (List.replicate cap.toNat 0) e).toA] } [] [.arrB (List.replicate cap.toNat 0) e])
        | .bool false => some (.ok chk { nm := [frn mem], obj := some [(PObj.arrT (List.replicate cap.toNat false) e).toA] } [] [.arrT (List.replicate cap.toNat false) e])
        | .int k n => some (.ok chk { nm := [frn mem], obj := some [(PObj.arrI k (List.replicate cap.toNat n) e).toA] } [] [.arrI k (List.replicate cap.toNat n) e])
        | z => match (match P.underlying e with | some (.struct fs) => (shapeOf P fs.toList).bind fun sh => (rowOf sh z.cells).map fun r => (sh, r) | _ => none) with
          | some (sh, r) => some (.ok (decide (0 ≤ len ∧ len = cap ∧ cap * ie.bytes ≤ 281474976710656 ∧ cap < 9223372036854775808) && Nat.beq ie.size sh.length) { nm := [frn mem], view := 3, obj := some [(PObj.vecR sh (List.replicate cap.toNat r) e).toA] } [] [.vecR sh (List.replicate cap.toNat r) e])
          | none => some (.ok chk { nm := [frn mem] } [] [.raw (.cells (List.replicate cap.toNat z.cells).flatten e)])
      | _, _ => none
    | _ => none
  | .load t _, [.ptr nm off] => loadP P t nm off mem
  | .load t _, [.gptr g off] => loadGP P t g off
  | .load t _, [.dptr nm off] => loadDP P t nm off mem
  | .load t _, [.rptr nm w i j] => loadRP P t w i j nm mem
  | .store t _ _, [.ptr nm off, v] => storeP P t nm off v mem
  | .store t _ _, [.rptr nm w i j, v] => storeRP P t w i j nm v mem
  | .nilCheck _, [_] => okP true
  | .binOp op _ _ _ _, [x, y] => okP (binP op x y)
  | .unOp _ _ _, [_] => okP true
  | .convert src dst _, [x] => convP P src dst x mem
  | .makeInterface _ _, [_] => okP true
  | .makeFunc _ _ _, _ => okP true
  | .slice t _ lo hi mx, x :: vs => sliceP P t lo hi mx x vs mem
  | .fieldAddr _ _ _, [_] => okP true
  | .field t _ f, [.agg c] => match P.underlying t with
    | some (.struct fs) => match fs[f]? with
      | some fd => match P.underlying fd.type with
        | some d => okP (if isAggD d then Nat.ble (fd.offset + P.cellsOf fd.type) c.length else true)
        | none => none
      | none => none
    | _ => none
  | .indexAddr t _ _, [x, .int _ i] => match P.underlying t, x with
    | some (.array n _), _ => okP (decide (0 ≤ i ∧ i < n))
    | some (.slice _), .slice _ _ len _ => okP (decide (0 ≤ i ∧ i < len))
    | some (.slice _), .vec nm len => match lookP mem nm with
      | some (.vecR _ _ _) => some (.ok (decide (0 ≤ i ∧ i < len)) { view := 5 } [] [])
      | _ => okP (decide (0 ≤ i ∧ i < len))
    | some (.slice _), .dsl nm len => match lookP mem nm with
      | some (.raw (.flatR _ _ _)) => some (.ok (decide (0 ≤ i ∧ i < len)) { view := 5 } [] [])
      | some (.raw (.flatN _ _)) => some (.ok (decide (0 ≤ i ∧ i < len)) { view := 5 } [] [])
      | _ => okP (decide (0 ≤ i ∧ i < len))
    | some (.slice e), .vsl _ w _ len => okP (decide (0 ≤ i ∧ i < len) && Nat.beq w (P.cellsOf e))
    | _, _ => none
  | .index t _ _, [x, .int _ i] => match P.underlying t, x with
    | some .string, .str s => some (.ok (decide (0 ≤ i ∧ i.toNat < s.length)) { val := some (.int .u8 (byteAt s i.toNat)) } [] [])
    | some (.array n e), .agg c => match P.underlying e with
      | some d => okP (decide (0 ≤ i ∧ i < n) && (if isAggD d then Nat.ble (i.toNat * P.cellsOf e + P.cellsOf e) c.length else true))
      | none => none
    | _, _ => none
  | .extract _ _, [_] => okP true
  | .range _ _, [.str s] => some (.ok true { nm := [frn mem] } [] [.raw (.iter s 0)])
  | .next _ true, [.ptr nm 0] => nextP nm mem
  | .makeMap t none, [] => (setN P t).map fun n => .ok true { nm := [frn mem] } [] [.raw (.mapS n [])]
  | .lookup _ _ _ false, [.mapp _, .agg _] => okP true
  | .mapUpdate _ _ _ _, [.mapp nm, .agg cs, .bool true] => match unInts .i64 cs, lookP mem nm with
    | some k, some (.raw (.mapS n ks)) => some (.ok true {} [.raw (.mapS n (addK ks k))] [])
    | _, _ => none
  | .call c, vs =>
    match c.callee, vs with
    | .builtin .len, [_] => okP true
    | .builtin .min, [_, _] => okP true
    | .builtin .max, [_, _] => okP true
    | .builtin .append, [s, x] => appendP P c s x mem
    | .builtin .cap, [_] => okP true
    | .builtin .copy, [s, .qzz] => some (.ok true {} (nameP s mem) [])
    | .builtin .copy, [.slice nm off len _, x] => match (c.argTypes[0]?).bind P.underlying with
      | some (.slice te) => match P.info? te with
        | some ie => match lookP mem nm, newsP ie.size x mem with
          | some (.arrB l e), some (.bytes ob n d) => some (.ok (ob && decide (n ≤ len ∧ off + d.length ≤ l.length)) { obj := some [(PObj.arrB (l.take off ++ d ++ l.drop (off + d.length)) e).toA] } (.arrB (l.take off ++ d ++ l.drop (off + d.length)) e :: nameP x mem) [])
          | _, _ => none
        | none => none
      | _ => none
    | .builtin .unsafeSliceData, [.qzz] => okP true
    | .builtin .unsafeSliceData, [.vec nm _] => match lookP mem nm with
      | some (.raw (.vec cs t sz)) => some (.ok (Nat.blt 0 cs.length) {} [.raw (.vec cs t sz)] [])
      | some (.vecB l t) => some (.ok (decide (0 < l.length)) {} [.vecB l t] [])
      | some (.shutB l t) => some (.ok (decide (0 < l.length)) {} [.shutB l t] [])
      | _ => none
    | .builtin .unsafeString, [.nilptr, .int .i64 n] => okP (n == 0)
    | .builtin .unsafeString, [.ptr nm 0, .int .i64 n] => match lookP mem nm with
      | some (.vecB l t) => some (.ok (n == (l.length : Int) && !l.isEmpty && decide (l.length < 9223372036854775808)) { val := some (.str l) } [.shutB l t] [])
      | some (.shutB l t) => some (.ok (n == (l.length : Int) && !l.isEmpty && decide (l.length < 9223372036854775808)) { val := some (.str l) } [.shutB l t] [])
      | _ => none
    | _, _ => none
  | _, _ => none
end Go.Proofs.YtphhepnldndbhaaGreatDoor.Sx
