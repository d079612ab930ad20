/- The symbolic executor, part P: a region, in whatever order its edges allow. -/
import Derived.Test.YtpdhfopfjoinnaaDoorSxO
set_option linter.unusedSimpArgs false
set_option linter.unusedVariables false
namespace Go.Proofs.YtpdhfopfjoinnaaDoor.Sx
open Go

variable {P : Program}

/-- The slots that an operation looks at. -/
def tmpsOf : List Operand → List Nat
  | [] => []
  | .tmp t :: xs => t :: tmpsOf xs
  | _ :: xs => tmpsOf xs

def looks (ops : Array Oper) (o : Oper) : List Nat :=
  (match o.guard with
    | none => []
    | some (j, _) => match (ops[j]?).bind (·.dst) with | some d => [d] | none => []) ++ tmpsOf o.op.operands.toList

/-- What a step does to a state. -/
structure Delta where
  dst : Option Tmp
  v : AV
  wn : List Nat
  wo : List AObj
  an : List Nat
  ao : List AObj

def Delta.app (d : Delta) (s : AState) : AState := { s.put d.dst d.v with mem := setMem (setMem s.mem d.wn d.wo) d.an d.ao }

structure Agree (ops : Array Oper) (o : Oper) (F : Foot) (s s' : AState) : Prop where
  slots : ∀ t ∈ looks ops o, s'.slots[t]? = s.slots[t]?
  rd : ∀ n ∈ F.rd, s'.mem[n]? = s.mem[n]?
  al : ∀ n ∈ F.al, s'.mem[n]? = s.mem[n]?

theorem ev_congr {s s' : AState} {x : Operand} (h : ∀ t, x = .tmp t → s'.slots[t]? = s.slots[t]?) : s'.ev x = s.ev x := by
  cases x with
  | tmp t => simp only [AState.ev, h t rfl]
  | _ => rfl

theorem evs_congr {s s' : AState} : ∀ (xs : List Operand), (∀ t ∈ tmpsOf xs, s'.slots[t]? = s.slots[t]?) → evs s' xs = evs s xs
  | [], _ => rfl
  | x :: xs, h => by
    have h1 : s'.ev x = s.ev x := ev_congr fun t e => h t (by subst e; simp [tmpsOf])
    have h2 : evs s' xs = evs s xs := evs_congr xs fun t ht => h t (by cases x <;> simp [tmpsOf, ht])
    simp only [evs, h1, h2]

theorem objs_congr {m m' : List (Option AObj)} : ∀ (ns : List Nat), (∀ n ∈ ns, m'[n]? = m[n]?) → objs m' ns = objs m ns
  | [], _ => rfl
  | n :: ns, h => by
    simp only [objs, h n (by simp), objs_congr ns fun k hk => h k (by simp [hk])]

theorem guardA_congr {ops : Array Oper} {o : Oper} {s s' : AState} (h : ∀ t ∈ looks ops o, s'.slots[t]? = s.slots[t]?) : guardA ops o s' = guardA ops o s := by
  unfold guardA
  cases hg : o.guard with
  | none => rfl
  | some p =>
    obtain ⟨j, want⟩ := p
    simp only
    cases hd : (ops[j]?).bind (·.dst) with
    | none => rfl
    | some d =>
      simp only
      rw [h d (by simp [looks, hg, hd])]

theorem all_congr {f g : Nat → Bool} {l : List Nat} (h : ∀ n ∈ l, f n = g n) : l.all f = l.all g := by
  induction l with
  | nil => rfl
  | cons a l ih => simp only [List.all_cons, h a (by simp), ih fun n hn => h n (by simp [hn])]

/-- A step hangs on what it looks at, and on the blocks that it names, alone. -/
theorem astep_local {ops : Array Oper} {h : Hint} {o : Oper} {s : AState} {st : Step} (hs : astep P ops h o s = some st) :
    ∃ d : Delta, st.st = d.app s ∧ d.dst = o.dst ∧ (∀ n ∈ d.wn, n ∈ st.foot.rd ∧ st.foot.ws ≠ []) ∧ d.an = st.foot.al ∧
      ∀ s', Agree ops o st.foot s s' → astep P ops h o s' = some ⟨st.obl, st.foot, d.app s'⟩ := by
  unfold astep at hs
  split at hs
  · cases hs
  · rename_i hg
    cases hs
    refine ⟨⟨o.dst, .tuple [], [], [], [], []⟩, ?_, rfl, (fun n hn => by cases hn), rfl, fun s' ha => ?_⟩
    · cases o.dst <;> rfl
    · unfold astep
      rw [guardA_congr ha.slots, hg]
      simp only [Delta.app, setMem]
      cases o.dst <;> rfl
  · rename_i hg
    split at hs
    · cases hs
    · rename_i vals hv
      split at hs
      · cases hs
      · rename_i F hf
        split at hs
        · cases hs
        · rename_i cs hc
          split at hs
          · rename_i hck
            split at hs
            · cases hs
            · rename_i r hr
              split at hs
              · rename_i hfin
                cases hs
                refine ⟨⟨o.dst, r.val, if F.ws.isEmpty then [] else F.rd, r.upd, F.al, r.new⟩, ?_, rfl, ?_, rfl, fun s' ha => ?_⟩
                · simp only [Delta.app]
                  cases F.ws.isEmpty <;> simp [setMem]
                · intro n hn
                  simp only at hn
                  split at hn
                  · cases hn
                  · rename_i hw; exact ⟨hn, by simpa using hw⟩
                · unfold astep
                  have hrd : ∀ n ∈ F.rd, s'.mem[n]? = s.mem[n]? := ha.rd
                  have hal : ∀ n ∈ F.al, s'.mem[n]? = s.mem[n]? := ha.al
                  simp only [Bool.and_eq_true] at hck
                  have hsub : ∀ n ∈ F.ws, n ∈ F.rd := fun n hn => by
                    have := List.all_eq_true.1 hck.1.2 n hn; simpa using this
                  have e1 : F.al.all (freshB s'.mem) = F.al.all (freshB s.mem) := all_congr fun n hn => by unfold freshB; rw [hal n hn]
                  have e2 : F.ws.all (ownedB s'.mem) = F.ws.all (ownedB s.mem) := all_congr fun n hn => by unfold ownedB; rw [hrd n (hsub n hn)]
                  have ht : (∀ t ∈ tmpsOf o.op.operands.toList, s'.slots[t]? = s.slots[t]?) := fun t ht => ha.slots t (by simp [looks, ht])
                  rw [guardA_congr ha.slots, hg]
                  simp only [evs_congr _ ht, hv, hf, objs_congr _ hrd, hc, e1, e2, hr]
                  rw [if_pos (by simpa only [Bool.and_eq_true] using hck), if_pos hfin]
                  simp only [Delta.app]
                  cases F.ws.isEmpty <;> simp [setMem]
              · cases hs
          · cases hs

/-- Two steps that have nothing to do with one another. -/
def dstFree (ops : Array Oper) (x y : Oper) : Bool :=
  match x.dst with
  | none => true
  | some d => !(looks ops y).contains d && !(y.dst == some d)

def memFree (F G : Foot) : Bool :=
  (F.ws.isEmpty || F.rd.all fun n => !G.rd.contains n && !G.al.contains n) && F.al.all fun n => !G.rd.contains n && !G.al.contains n

def indepB (ops : Array Oper) (x y : Oper) (F G : Foot) : Bool := dstFree ops x y && dstFree ops y x && memFree F G && memFree G F

theorem memFree_spec {F G : Foot} (h : memFree F G = true) {d : Delta} (h1 : ∀ n ∈ d.wn, n ∈ F.rd ∧ F.ws ≠ []) (h2 : d.an = F.al) : ∀ n, (n ∈ d.wn ∨ n ∈ d.an) → n ∉ G.rd ∧ n ∉ G.al := by
  simp only [memFree, Bool.and_eq_true, Bool.or_eq_true] at h
  rintro n (hn | hn)
  · obtain ⟨a, b⟩ := h1 n hn
    rcases h.1 with g | g
    · exact absurd (by simpa using g) b
    · have := List.all_eq_true.1 g n a
      simpa using this
  · have := List.all_eq_true.1 h.2 n (h2 ▸ hn)
    simpa using this

theorem app_mem_other {d : Delta} {s : AState} {n : Nat} (h1 : n ∉ d.wn) (h2 : n ∉ d.an) : (d.app s).mem[n]? = s.mem[n]? := by
  simp only [Delta.app]
  rw [setMem_not _ _ _ _ h2, setMem_not _ _ _ _ h1]

theorem app_slots_other {d : Delta} {s : AState} {t : Nat} (h : d.dst ≠ some t) : (d.app s).slots[t]? = s.slots[t]? := by
  simp only [Delta.app, AState.put]
  cases hd : d.dst with
  | none => rfl
  | some u =>
    simp only
    rw [List.getElem?_set_ne (by rintro rfl; exact h hd)]

theorem setMem_comm {ns ms : List Nat} (h : ∀ n ∈ ns, n ∉ ms) : ∀ (os us : List AObj) (mem : List (Option AObj)), setMem (setMem mem ns os) ms us = setMem (setMem mem ms us) ns os := by
  have one : ∀ (ms : List Nat) (us : List AObj) (mem : List (Option AObj)) (n : Nat) (o : AObj), n ∉ ms → setMem (mem.set n (some o)) ms us = (setMem mem ms us).set n (some o) := by
    intro ms
    induction ms with
    | nil => intro us mem n o _; simp [setMem]
    | cons m ms ih =>
      intro us mem n o hn
      simp only [List.mem_cons, not_or] at hn
      cases us with
      | nil => simp [setMem]
      | cons u us =>
        simp only [setMem]
        rw [List.set_comm _ _ (fun e => hn.1 e), ih us _ n o hn.2]
  induction ns with
  | nil => intro os us mem; simp [setMem]
  | cons n ns ih =>
    intro os us mem
    cases os with
    | nil => simp [setMem]
    | cons o os =>
      simp only [setMem]
      rw [ih (fun k hk => h k (by simp [hk])), one ms us mem n o (h n (by simp))]

theorem astep_comm {ops : Array Oper} {hi hj : Hint} {x y : Oper} {s : AState} {st1 st2 : Step} (h1 : astep P ops hi x s = some st1) (h2 : astep P ops hj y st1.st = some st2) (hind : indepB ops x y st1.foot st2.foot = true) :
    ∃ st1' st2', astep P ops hj y s = some st1' ∧ st1'.obl = st2.obl ∧ st1'.foot = st2.foot ∧ astep P ops hi x st1'.st = some st2' ∧ st2'.obl = st1.obl ∧ st2'.foot = st1.foot ∧ st2'.st = st2.st := by
  simp only [indepB, Bool.and_eq_true] at hind
  obtain ⟨⟨⟨i1, i2⟩, i3⟩, i4⟩ := hind
  obtain ⟨d, e1, dd, dw, da, dl⟩ := astep_local h1
  obtain ⟨g, e2, gd, gw, ga, gl⟩ := astep_local h2
  have mf := memFree_spec i3 dw da
  have mg := memFree_spec i4 gw ga
  have sx : ∀ t, x.dst = some t → t ∉ looks ops y ∧ y.dst ≠ some t := fun t ht => by
    simp only [dstFree, ht, Bool.and_eq_true] at i1; simpa using i1
  have sy : ∀ t, y.dst = some t → t ∉ looks ops x ∧ x.dst ≠ some t := fun t ht => by
    simp only [dstFree, ht, Bool.and_eq_true] at i2; simpa using i2
  have a1 : Agree ops y st2.foot st1.st s :=
    { slots := fun t ht => by rw [e1, app_slots_other (by rw [dd]; intro e; exact (sx t e).1 ht)]
      rd := fun n hn => by rw [e1, app_mem_other (fun h => (mf n (.inl h)).1 hn) (fun h => (mf n (.inr h)).1 hn)]
      al := fun n hn => by rw [e1, app_mem_other (fun h => (mf n (.inl h)).2 hn) (fun h => (mf n (.inr h)).2 hn)] }
  have a2 : Agree ops x st1.foot s (g.app s) :=
    { slots := fun t ht => app_slots_other (by rw [gd]; intro e; exact (sy t e).1 ht)
      rd := fun n hn => app_mem_other (fun h => (mg n (.inl h)).1 hn) (fun h => (mg n (.inr h)).1 hn)
      al := fun n hn => app_mem_other (fun h => (mg n (.inl h)).2 hn) (fun h => (mg n (.inr h)).2 hn) }
  refine ⟨_, _, gl s a1, rfl, rfl, dl _ a2, rfl, rfl, ?_⟩
  rw [e2, e1]
  simp only [Delta.app]
  congr 1
  · simp only [AState.put, dd, gd]
    cases hx : x.dst with
    | none => cases y.dst <;> rfl
    | some a =>
      cases hy : y.dst with
      | none => rfl
      | some b =>
        simp only
        exact List.set_comm _ _ (by rintro rfl; exact (sx _ hx).2 hy)
  · have m1 : ∀ n, n ∈ d.wn ∨ n ∈ d.an → n ∉ g.wn ∧ n ∉ g.an := fun n hn => ⟨fun h => (mf n hn).1 (gw n h).1, fun h => (mf n hn).2 (ga ▸ h)⟩
    have eg : ∀ m, setMem (setMem m g.wn g.wo) g.an g.ao = setMem (setMem m g.wn g.wo) g.an g.ao := fun _ => rfl
    have c1 : ∀ m, setMem (setMem (setMem m d.an d.ao) g.wn g.wo) g.an g.ao = setMem (setMem (setMem m g.wn g.wo) g.an g.ao) d.an d.ao := fun m => by
      rw [setMem_comm (fun n hn => (m1 n (.inr hn)).1), setMem_comm (fun n hn => (m1 n (.inr hn)).2)]
    have c2 : ∀ m, setMem (setMem (setMem m d.wn d.wo) g.wn g.wo) g.an g.ao = setMem (setMem (setMem m g.wn g.wo) g.an g.ao) d.wn d.wo := fun m => by
      rw [setMem_comm (fun n hn => (m1 n (.inl hn)).1), setMem_comm (fun n hn => (m1 n (.inl hn)).2)]
    have p1 : ∀ (q : AState) (z : Option Tmp) (v : AV), (q.put z v).mem = q.mem := fun q z v => by cases z <;> rfl
    rw [c1, c2]

end Go.Proofs.YtpdhfopfjoinnaaDoor.Sx
