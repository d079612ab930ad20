/- The symbolic executor, part O: one step of a region on a state is sound. -/
import Derived.Test.YtpdhfopfjoinnaaDoorSxN
set_option linter.unusedSimpArgs false
set_option linter.unusedVariables false
namespace Go.Proofs.YtpdhfopfjoinnaaDoor.Sx
open Go

variable {P : Program}

def AState.put (s : AState) (dst : Option Tmp) (v : AV) : AState :=
  match dst with
  | some d => { s with slots := s.slots.set d (some v) }
  | none => s

def setMem (mem : List (Option AObj)) : List Nat → List AObj → List (Option AObj)
  | n :: ns, o :: os => setMem (mem.set n (some o)) ns os
  | _, _ => mem

def evs (s : AState) : List Operand → Option (List AV)
  | [] => some []
  | x :: xs => match s.ev x, evs s xs with
    | some v, some vs => some (v :: vs)
    | _, _ => none

def objs (mem : List (Option AObj)) : List Nat → Option (List AObj)
  | [] => some []
  | n :: ns => match mem[n]?, objs mem ns with
    | some (some o), some os => some (o :: os)
    | _, _ => none

def nodupB : List Nat → Bool
  | [] => true
  | n :: ns => !ns.contains n && nodupB ns

def freshB (mem : List (Option AObj)) (n : Nat) : Bool :=
  match mem[n]? with
  | some none => true
  | _ => false

def ownedB (mem : List (Option AObj)) (n : Nat) : Bool :=
  match mem[n]? with
  | some (some o) => o.owned
  | _ => false

/-- Does the operation's guard let it run? -/
def guardA (ops : Array Oper) (o : Oper) (s : AState) : Option Bool :=
  match o.guard with
  | none => some true
  | some (j, want) =>
    match (ops[j]?).bind (·.dst) with
    | some d => match (s.slots[d]?).join with
      | some (.bool b) => some (b == want)
      | some (.tuple []) => some false
      | _ => none
    | none => some false

def updOK : List AObj → List AObj → Bool
  | [], [] => true
  | u :: us, c :: cs => (!u.owned || c.owned) && (!u.live || c.live) && (u.live || c.owned) && (!c.isFlat || u.isFlat) && (!u.mine || c.mine) && updOK us cs
  | _, _ => false

structure Step where
  obl : List Prop
  foot : Foot
  st : AState

def astep (P : Program) (ops : Array Oper) (h : Hint) (o : Oper) (s : AState) : Option Step :=
  match guardA ops o s with
  | none => none
  | some false => some ⟨[], .no, s.put o.dst (.tuple [])⟩
  | some true =>
    match evs s o.op.operands.toList with
    | none => none
    | some vals =>
      match foot h o.op vals with
      | none => none
      | some F =>
        match objs s.mem F.rd with
        | none => none
        | some cs =>
          if nodupB F.al && (F.ws.isEmpty || nodupB F.rd) && F.al.all (freshB s.mem) && F.ws.all (F.rd.contains ·) && F.ws.all (ownedB s.mem) then
            match (match callA h P o.op vals cs with | some r => some r | none => act P h o.op vals cs) with
            | none => none
            | some r =>
              if r.new.length == F.al.length && (F.ws.isEmpty || updOK r.upd cs) then
                some ⟨r.obl, F, { s.put o.dst r.val with mem := setMem (if F.ws.isEmpty then s.mem else setMem s.mem F.rd r.upd) F.al r.new }⟩
              else none
          else none

theorem nodupB_spec : ∀ {l : List Nat}, nodupB l = true → l.Nodup
  | [], _ => List.nodup_nil
  | n :: ns, h => by
    simp only [nodupB, Bool.and_eq_true, Bool.not_eq_true', List.contains_eq_mem, decide_eq_false_iff_not] at h
    exact List.nodup_cons.2 ⟨h.1, nodupB_spec h.2⟩

theorem evs_den {w0 w : World} {M : Nat → Prop} {E : Env} {s : AState} {a : Act} (h : Rel w0 M E s a w) : ∀ (xs : List Operand) (vs : List AV), evs s xs = some vs → denL E vs = some (xs.map a.eval)
  | [], vs, e => by simp [evs] at e; subst e; rfl
  | x :: xs, vs, e => by
    simp only [evs] at e
    split at e
    · rename_i v us hv hu; cases e
      exact denL_cons.2 ⟨_, _, h.ev hv, evs_den h xs us hu, rfl⟩
    · cases e

theorem objs_get {mem : List (Option AObj)} : ∀ (ns : List Nat) (cs : List AObj), objs mem ns = some cs → cs.length = ns.length ∧ ∀ (i n : Nat) (o : AObj), ns[i]? = some n → cs[i]? = some o → mem[n]? = some (some o)
  | [], cs, h => by simp [objs] at h; subst h; exact ⟨rfl, fun i n o h => by simp at h⟩
  | n :: ns, cs, h => by
    simp only [objs] at h
    split at h
    · rename_i o os ho hos; cases h
      obtain ⟨hl, hg⟩ := objs_get ns os hos
      refine ⟨by simp [hl], fun i m o' h1 h2 => ?_⟩
      cases i with
      | zero => simp at h1 h2; subst h1; subst h2; exact ho
      | succ i => exact hg i m o' (by simpa using h1) (by simpa using h2)
    · cases h

theorem setMem_length : ∀ (ns : List Nat) (os : List AObj) (mem : List (Option AObj)), (setMem mem ns os).length = mem.length
  | [], _, mem => by simp [setMem]
  | _ :: _, [], mem => by simp [setMem]
  | n :: ns, o :: os, mem => by simp [setMem, setMem_length ns os]

theorem setMem_not : ∀ (ns : List Nat) (os : List AObj) (mem : List (Option AObj)) (n : Nat), n ∉ ns → (setMem mem ns os)[n]? = mem[n]?
  | [], _, mem, n, _ => by simp [setMem]
  | _ :: _, [], mem, n, _ => by simp [setMem]
  | m :: ns, o :: os, mem, n, h => by
    simp only [List.mem_cons, not_or] at h
    rw [setMem, setMem_not ns os _ n h.2, List.getElem?_set_ne (fun e => h.1 e.symm)]

theorem setMem_at : ∀ (ns : List Nat) (os : List AObj) (mem : List (Option AObj)) (i n : Nat) (o : AObj), ns.Nodup → n < mem.length → ns[i]? = some n → os[i]? = some o → (setMem mem ns os)[n]? = some (some o)
  | [], _, mem, i, n, o, _, _, h, _ => by simp at h
  | _ :: _, [], mem, i, n, o, _, _, _, h => by simp at h
  | m :: ns, u :: os, mem, 0, n, o, hn, hl, h1, h2 => by
    simp at h1 h2; subst h1; subst h2
    rw [setMem, setMem_not ns os _ _ (List.nodup_cons.1 hn).1]
    simp [hl]
  | m :: ns, u :: os, mem, i + 1, n, o, hn, hl, h1, h2 => by
    rw [setMem]
    exact setMem_at ns os _ i n o (List.nodup_cons.1 hn).2 (by simpa using hl) (by simpa using h1) (by simpa using h2)

theorem updOK_get : ∀ (us cs : List AObj) (i : Nat) (u c : AObj), updOK us cs = true → us[i]? = some u → cs[i]? = some c → (u.owned = true → c.owned = true) ∧ (u.live = true → c.live = true) ∧ (u.live = true ∨ c.owned = true) ∧ (c.isFlat = true → u.isFlat = true) ∧ (u.mine = true → c.mine = true)
  | [], [], i, u, c, _, h, _ => by simp at h
  | [], _ :: _, i, u, c, h, _, _ => by simp [updOK] at h
  | _ :: _, [], i, u, c, h, _, _ => by simp [updOK] at h
  | u :: us, c :: cs, 0, _, _, h, h1, h2 => by
    simp at h1 h2; subst h1; subst h2
    simp only [updOK, Bool.and_eq_true, Bool.or_eq_true, Bool.not_eq_true'] at h
    obtain ⟨⟨⟨⟨⟨a, b⟩, d⟩, f⟩, g⟩, _⟩ := h
    exact ⟨fun e => by simpa [e] using a, fun e => by simpa [e] using b, d, fun e => by simpa [e] using f, fun e => by simpa [e] using g⟩
  | u :: us, c :: cs, i + 1, x, y, h, h1, h2 => by
    simp only [updOK, Bool.and_eq_true] at h
    exact updOK_get us cs i x y h.2 (by simpa using h1) (by simpa using h2)

theorem updOK_length : ∀ (us cs : List AObj), updOK us cs = true → us.length = cs.length
  | [], [], _ => rfl
  | [], _ :: _, h => by simp [updOK] at h
  | _ :: _, [], h => by simp [updOK] at h
  | u :: us, c :: cs, h => by simp only [updOK, Bool.and_eq_true] at h; simp [updOK_length us cs h.2]

theorem put_slots {s : AState} {dst : Option Tmp} {v : AV} : (s.put dst v).mem = s.mem := by cases dst <;> rfl

theorem Rel.put {w0 w : World} {M : Nat → Prop} {E : Env} {s : AState} {a : Act} (h : Rel w0 M E s a w) (dst : Option Tmp) {v : AV} {x : Value} (hd : den E v = some x) : Rel w0 M E (s.put dst v) (a.put dst x) w := by
  cases dst with
  | none => exact h
  | some d =>
    exact { h with
      size := by simp [Act.put, AState.put, h.size]
      slots := fun t u ht => by
        simp only [AState.put, Act.put] at ht ⊢
        by_cases e : d = t
        · subst e
          have hlt : d < s.slots.length := by
            have := (List.getElem?_eq_some_iff.1 ht).1; simpa using this
          rw [List.getElem?_set_self hlt] at ht
          cases ht
          exact ⟨x, by rw [Array.getElem?_setIfInBounds_self_of_lt (by rw [h.size]; exact hlt)], hd⟩
        · rw [List.getElem?_set_ne e] at ht
          obtain ⟨y, hy, hdy⟩ := h.slots t u ht
          exact ⟨y, by rw [Array.getElem?_setIfInBounds_ne e]; exact hy, hdy⟩ }

/-- Memory behind a step. -/
theorem Rel.step {w0 w w' : World} {M : Nat → Prop} {E E' : Env} {s : AState} {a : Act} {F : Foot} {cs upd new : List AObj} (h : Rel w0 M E s a w) (he : Eff E E' w w' F upd new) (hc : objs s.mem F.rd = some cs)
    (hal : F.al.Nodup) (hrd : F.ws = [] ∨ F.rd.Nodup) (hfr : ∀ n ∈ F.al, s.mem[n]? = some none) (hsub : ∀ n ∈ F.ws, n ∈ F.rd) (hnl : new.length = F.al.length) (hu : F.ws = [] ∨ updOK upd cs = true) (hws : ∀ n ∈ F.ws, ∀ o, s.mem[n]? = some (some o) → o.owned = true) :
    Rel w0 M E' { s with mem := setMem (if F.ws.isEmpty then s.mem else setMem s.mem F.rd upd) F.al new } a w' := by
  obtain ⟨hcl, hcg⟩ := objs_get F.rd cs hc
  -- what is in the memory now, and where it comes from
  let mem1 := if F.ws.isEmpty then s.mem else setMem s.mem F.rd upd
  have hl1 : mem1.length = s.mem.length := by
    simp only [mem1]; split
    · rfl
    · exact setMem_length _ _ _
  have hrdlt : ∀ n ∈ F.rd, ∃ o, s.mem[n]? = some (some o) := fun n hn => by
    obtain ⟨i, hi⟩ := List.getElem?_of_mem hn
    have hlt := (List.getElem?_eq_some_iff.1 hi).1
    exact ⟨_, hcg i n (cs[i]'(by omega)) hi (List.getElem?_eq_getElem _)⟩
  have hal_rd : ∀ n ∈ F.al, n ∉ F.rd := fun n hn hr => by
    obtain ⟨o, ho⟩ := hrdlt n hr
    rw [hfr n hn] at ho; cases ho
  have old : ∀ n o, mem1[n]? = some (some o) → (s.mem[n]? = some (some o) ∧ (n ∉ F.rd ∨ F.ws = [])) ∨ (F.ws ≠ [] ∧ ∃ i c, F.rd[i]? = some n ∧ upd[i]? = some o ∧ cs[i]? = some c ∧ s.mem[n]? = some (some c)) := fun n o hn => by
    simp only [mem1] at hn
    split at hn
    · rename_i hw; exact .inl ⟨hn, .inr (by simpa using hw)⟩
    · rename_i hw
      have hw : F.ws ≠ [] := by simpa using hw
      have hnd := hrd.resolve_left hw
      have hok := hu.resolve_left hw
      by_cases hm : n ∈ F.rd
      · obtain ⟨i, hi⟩ := List.getElem?_of_mem hm
        have hlt := (List.getElem?_eq_some_iff.1 hi).1
        have hul := updOK_length _ _ hok
        have hci : cs[i]? = some (cs[i]'(by omega)) := List.getElem?_eq_getElem _
        have hui : upd[i]? = some (upd[i]'(by omega)) := List.getElem?_eq_getElem _
        have hmem := hcg i n _ hi hci
        have hlt' := (List.getElem?_eq_some_iff.1 hmem).1
        rw [setMem_at F.rd upd s.mem i n _ hnd hlt' hi hui] at hn
        cases hn
        exact .inr ⟨hw, i, _, hi, hui, hci, hmem⟩
      · rw [setMem_not _ _ _ _ hm] at hn; exact .inl ⟨hn, .inl hm⟩
  have now : ∀ n o, (setMem mem1 F.al new)[n]? = some (some o) → (n ∉ F.al ∧ mem1[n]? = some (some o)) ∨ (∃ i, F.al[i]? = some n ∧ new[i]? = some o) := fun n o hn => by
    by_cases hm : n ∈ F.al
    · obtain ⟨i, hi⟩ := List.getElem?_of_mem hm
      have hlt := (List.getElem?_eq_some_iff.1 hi).1
      have hni : new[i]? = some (new[i]'(by omega)) := List.getElem?_eq_getElem _
      have hlt' := (List.getElem?_eq_some_iff.1 (hfr n hm)).1
      rw [setMem_at F.al new mem1 i n _ hal (by omega) hi hni] at hn
      cases hn
      exact .inr ⟨i, hi, hni⟩
    · rw [setMem_not _ _ _ _ hm] at hn; exact .inl ⟨hm, hn⟩
  -- an old name's block: where it stood, with what there was of it
  have oldBlock : ∀ n o, mem1[n]? = some (some o) → ∃ b c o0, E n = some (b, c) ∧ E' n = some (b, c) ∧ s.mem[n]? = some (some o0) ∧ ObjR E' w' b c o ∧ (o.owned = true → o0.owned = true) ∧ (o.live = true → o0.live = true) ∧ (o0.isFlat = true → o.isFlat = true) ∧ (o.mine = true → o0.mine = true) := fun n o hn => by
    rcases old n o hn with ⟨hs, hor⟩ | ⟨hw, i, c0, hi, hui, hci, hs⟩
    · obtain ⟨b, c, hE, hob, _⟩ := h.mem n o hs
      refine ⟨b, c, o, hE, he.le _ _ hE, hs, ?_, id, id, id, id⟩
      cases hl : o.live with
      | false => cases o <;> simp [AObj.live] at hl; trivial
      | true =>
        refine (hob.block fun hl0 ht0 => he.keep b (hob.lt hl0 ht0) fun m hm c2 hE2 => ?_).mono he.le
        obtain ⟨om, hom⟩ := hrdlt m (hsub m hm)
        have hnm : m ≠ n := by
          rintro rfl
          rcases hor with h1 | h1
          · exact h1 (hsub m hm)
          · rw [h1] at hm; cases hm
        exact h.apart m n om o b c2 b c hom hs (hws m hm om hom) hl hE2 hE hnm ht0
    · obtain ⟨b, c, hE, hob, _⟩ := h.mem n c0 hs
      have hwr : F.wr = true := by unfold Foot.wr; cases hh : F.ws with | nil => exact absurd hh hw | cons => rfl
      obtain ⟨b', c', hE', hob'⟩ := he.wrote hwr i n o hi hui
      rw [hE] at hE'; cases hE'
      obtain ⟨g1, g2, _, g4, g6⟩ := updOK_get _ _ i o c0 (hu.resolve_left hw) hui hci
      exact ⟨b, c, c0, hE, he.le _ _ hE, hs, hob', g1, g2, g4, g6⟩
  -- a new name's block against an old one's
  have newOld : ∀ (i n : Nat) (o : AObj) (m : Nat) (u : AObj) (b : Nat) (c : Cap) (b' : Nat) (c' : Cap), F.al[i]? = some n → new[i]? = some o → m ∉ F.al → mem1[m]? = some (some u) → (o.live = true) → (u.live = true) → (o.owned = true ∨ u.owned = true) → E' n = some (b, c) → E' m = some (b', c') → touches b c o b → touches b' c' u b' → b ≠ b' := fun i n o m u b c b' c' h1 h2 h3 h4 h5 h6 h7 h8 h9 ht1 ht2 => by
    obtain ⟨b2, c2, o0, hE, hE', hs, hob, g1, g2, g5, _⟩ := oldBlock m u h4
    rw [h9] at hE'; cases hE'
    obtain ⟨b3, c3, hE3, hob3, hor⟩ := he.made i n o h1 h2
    rw [h8] at hE3; cases hE3
    obtain ⟨b4, c4, hE4, hob4, _⟩ := h.mem m o0 hs
    rw [hE] at hE4; cases hE4
    have ht0 := touches_fit g5 ht2
    have hlt := hob4.lt (g2 h6) ht0
    rcases hor ht1 with h | ⟨hw, j, k, c5, hj, hd, hEk⟩
    · omega
    · rintro rfl
      have hwsne : F.ws ≠ [] := by intro e; rw [Foot.wr, e] at hw; cases hw
      have hlt2 := (List.getElem?_eq_some_iff.1 hj).1
      have hck : cs[j]? = some (cs[j]'(by omega)) := List.getElem?_eq_getElem _
      obtain ⟨_, _, g3, _⟩ := updOK_get _ _ j _ _ (hu.resolve_left hwsne) hd hck
      have hown : (cs[j]'(by omega)).owned = true := g3.resolve_left (by decide)
      have hsk := hcg j k _ hj hck
      by_cases hkm : k = m
      · subst hkm
        rcases old k u h4 with ⟨hs', hor'⟩ | ⟨_, i2, c6, hi2, hui2, _, _⟩
        · rcases hor' with g | g
          · exact g (List.mem_of_getElem? hj)
          · exact hwsne g
        · have : i2 = j := (List.getElem?_inj (List.getElem?_eq_some_iff.1 hi2).1 (hrd.resolve_left hwsne)).1 (by rw [hi2, hj])
          subst this
          rw [hd] at hui2; cases hui2; cases h6
      · exact h.apart k m _ o0 b c5 b c' hsk hs hown (g2 h6) hEk hE hkm ht0
  exact {
    size := h.size
    slots := fun t v ht => let ⟨x, hx, hd⟩ := h.slots t v ht; ⟨x, hx, den_mono he.le v x hd⟩
    defers := h.defers
    fresh := fun n hn => by
      have hna : n ∉ F.al := fun hm => by
        obtain ⟨i, hi⟩ := List.getElem?_of_mem hm
        have hlt := (List.getElem?_eq_some_iff.1 hi).1
        have hni : new[i]? = some (new[i]'(by omega)) := List.getElem?_eq_getElem _
        have hlt' := (List.getElem?_eq_some_iff.1 (hfr n hm)).1
        have hn' : (setMem mem1 F.al new)[n]? = some none := hn
        rw [setMem_at F.al new mem1 i n _ hal (by omega) hi hni] at hn'
        cases hn'
      have hn' : (setMem mem1 F.al new)[n]? = some none := hn
      rw [setMem_not _ _ _ _ hna] at hn'
      have hs : s.mem[n]? = some none := by
        simp only [mem1] at hn'
        split at hn'
        · exact hn'
        · rename_i hw
          have hw : F.ws ≠ [] := by simpa using hw
          by_cases hm : n ∈ F.rd
          · obtain ⟨i, hi⟩ := List.getElem?_of_mem hm
            have hlt := (List.getElem?_eq_some_iff.1 hi).1
            have hul := updOK_length _ _ (hu.resolve_left hw)
            obtain ⟨o, ho⟩ := hrdlt n hm
            have hlt' := (List.getElem?_eq_some_iff.1 ho).1
            rw [setMem_at F.rd upd s.mem i n (upd[i]'(by omega)) (hrd.resolve_left hw) hlt' hi (List.getElem?_eq_getElem _)] at hn'
            cases hn'
          · rwa [setMem_not _ _ _ _ hm] at hn'
      rw [he.only n hna]; exact h.fresh n hs
    mem := fun n o hn => by
      rcases now n o hn with ⟨hna, hm1⟩ | ⟨i, hi, hni⟩
      · obtain ⟨b, c, o0, hE, hE', hs, hob, g1, g2, g5, g6⟩ := oldBlock n o hm1
        refine ⟨b, c, hE', hob, fun ho ht => ?_⟩
        obtain ⟨b', c', hE2, _, hM⟩ := h.mem n o0 hs
        rw [hE] at hE2; cases hE2
        exact hM (g6 ho) (touches_fit g5 ht)
      · obtain ⟨b, c, hE', hob, hor⟩ := he.made i n o hi hni
        refine ⟨b, c, hE', hob, fun ho ht => ?_⟩
        rcases hor ht with g | ⟨hw, j, k, c', hj, hd, hEk⟩
        · exact .inl (Nat.le_trans h.grow g)
        · have hwsne : F.ws ≠ [] := by intro e; rw [Foot.wr, e] at hw; cases hw
          have hlt2 := (List.getElem?_eq_some_iff.1 hj).1
          have hck : cs[j]? = some (cs[j]'(by omega)) := List.getElem?_eq_getElem _
          obtain ⟨_, _, g3, _⟩ := updOK_get _ _ j _ _ (hu.resolve_left hwsne) hd hck
          have hown : (cs[j]'(by omega)).owned = true := g3.resolve_left (by decide)
          obtain ⟨b2, c2, hE2, _, hM⟩ := h.mem k _ (hcg j k _ hj hck)
          rw [hEk] at hE2; cases hE2
          exact hM (mine_owned hown) (touches_owned hown)
    apart := fun n m o o' b c b' c' hn hm ho ho' hE1 hE2 hnm => by
      rcases now n o hn with ⟨hna, hn1⟩ | ⟨i, hi, hni⟩
      · rcases now m o' hm with ⟨hma, hm1⟩ | ⟨j, hj, hmj⟩
        · obtain ⟨x1, y1, o1, e1, e1', s1, _, g1, _⟩ := oldBlock n o hn1
          obtain ⟨x2, y2, o2, e2, e2', s2, _, _, g2, g5, _⟩ := oldBlock m o' hm1
          rw [hE1] at e1'; cases e1'
          rw [hE2] at e2'; cases e2'
          exact fun ht => h.apart n m o1 o2 b c b' c' s1 s2 (g1 ho) (g2 ho') e1 e2 hnm (touches_fit g5 ht)
        · have hlive : o.live = true := by cases o <;> first | rfl | cases ho
          exact fun e => newOld j m o' n o b' c' b c hj hmj hna hn1 ho' hlive (.inr ho) hE2 hE1 (touches_eq e ▸ e) (touches_owned ho) (touches_eq e).symm
      · rcases now m o' hm with ⟨hma, hm1⟩ | ⟨j, hj, hmj⟩
        · have hlive : o.live = true := by cases o <;> first | rfl | cases ho
          exact fun e => newOld i n o m o' b c b' c' hi hni hma hm1 hlive ho' (.inl ho) hE1 hE2 (touches_owned ho) (touches_eq e ▸ e) (touches_eq e)
        · exact he.newApart i j n m o o' b c b' c' hi hj hni hmj ho ho' hE1 hE2 (by rintro rfl; rw [hi] at hj; cases hj; exact hnm rfl)
    frame := fun k hk hM => by
      rw [he.keep k (Nat.lt_of_lt_of_le hk h.grow) fun m hm c hE => ?_]
      · exact h.frame k hk hM
      · obtain ⟨om, hom⟩ := hrdlt m (hsub m hm)
        obtain ⟨b, c2, hE2, _, hor⟩ := h.mem m om hom
        rw [hE] at hE2; cases hE2
        rcases hor (mine_owned (hws m hm om hom)) (touches_owned (hws m hm om hom)) with g | g
        · omega
        · exact hM g
    grow := Nat.le_trans h.grow he.grow
    os := he.os.trans h.os, tape := he.tape.trans h.tape, output := he.output.trans h.output, glob := h.glob }

theorem guardA_spec {w0 w : World} {M : Nat → Prop} {E : Env} {s : AState} {a : Act} {ops : Array Oper} {o : Oper} {b : Bool} (h : Rel w0 M E s a w) (hg : guardA ops o s = some b) : Region.wanted o (yielded ops a.tmps) = b := by
  unfold guardA at hg
  unfold Region.wanted
  split at hg
  · rename_i h0; rw [h0]; cases hg; rfl
  · rename_i j want h0
    rw [h0]
    simp only
    split at hg
    · rename_i d hd
      split at hg
      · rename_i b' hb
        cases hg
        obtain ⟨x, hx, hdx⟩ := h.slots d _ (by simpa using Option.join_eq_some_iff.1 hb)
        cases hdx
        simp only [yielded, hd, Option.bind_some, hx]
        cases b' <;> cases want <;> rfl
      · rename_i hb
        cases hg
        obtain ⟨x, hx, hdx⟩ := h.slots d _ (by simpa using Option.join_eq_some_iff.1 hb)
        cases hdx
        simp only [yielded, hd, Option.bind_some, hx]
        rfl
      · cases hg
    · rename_i hd
      cases hg
      simp only [yielded, hd, Option.bind_none]
      rfl

theorem astep_sound {w0 w : World} {M : Nat → Prop} {E : Env} {s : AState} {a : Act} {ops : Array Oper} {h : Hint} {o : Oper} {st : Step} {next : Act → World → Prop} {Q : Exit → Act → World → Prop} (hs : astep P ops h o s = some st) (hob : AllP st.obl) (hR : Rel w0 M E s a w)
    (hn : ∀ E' a' w', Env.le E E' → Rel w0 M E' st.st a' w' → next a' w') :
    if Region.wanted o (yielded ops a.tmps) then o.wp P a w next Q else next (a.put o.dst undef) w := by
  unfold astep at hs
  split at hs
  · cases hs
  · rename_i hg
    cases hs
    rw [guardA_spec hR hg]
    exact hn E _ w (.refl _) (hR.put o.dst rfl)
  · rename_i hg
    rw [guardA_spec hR hg]
    simp only [if_true]
    split at hs
    · cases hs
    · rename_i vals hv
      split at hs
      · cases hs
      · rename_i F hf
        split at hs
        · cases hs
        · rename_i cs hc
          split at hs
          · rename_i hck
            simp only [Bool.and_eq_true, Bool.or_eq_true] at hck
            obtain ⟨⟨⟨⟨k1, k2⟩, k3⟩, k4⟩, k5⟩ := hck
            split at hs
            · cases hs
            · rename_i r hr
              split at hs
              · rename_i hfin
                simp only [Bool.and_eq_true, Bool.or_eq_true, beq_iff_eq] at hfin
                cases hs
                obtain ⟨hcl, hcg⟩ := objs_get F.rd cs hc
                have hal := nodupB_spec k1
                have hrd : F.ws = [] ∨ F.rd.Nodup := k2.imp (by simp) nodupB_spec
                have hfr : ∀ n ∈ F.al, s.mem[n]? = some none := fun n hn' => by
                  have := List.all_eq_true.1 k3 n hn'
                  unfold freshB at this
                  split at this
                  · assumption
                  · cases this
                have hsub : ∀ n ∈ F.ws, n ∈ F.rd := fun n hn' => by
                  have := List.all_eq_true.1 k4 n hn'
                  simpa using this
                have hws : ∀ n ∈ F.ws, ∀ o, s.mem[n]? = some (some o) → o.owned = true := fun n hn' o' ho' => by
                  have := List.all_eq_true.1 k5 n hn'
                  unfold ownedB at this
                  rw [ho'] at this
                  exact this
                have hpre : Pre E w F cs :=
                  { len := hcl
                    objs := fun i n o' h1 h2 => let ⟨b, c, e, ob, _⟩ := hR.mem n o' (hcg i n o' h1 h2); ⟨b, c, e, ob⟩
                    fresh := fun n hn' => hR.fresh n (hfr n hn')
                    nodup := hal
                    rdNodup := fun hw => hrd.resolve_left (by intro e; rw [Foot.wr, e] at hw; cases hw)
                    apart := fun i j n m o1 o2 b c b' c' h1 h2 h3 h4 h5 h6 h7 h8 h9 => hR.apart n m o1 o2 b c b' c' (hcg i n o1 h1 h3) (hcg j m o2 h2 h4) h5 h6 h7 h8 h9
                    glob := fun g l hg => by
                      obtain ⟨g1, g2, g3⟩ := hR.globNow g l hg
                      exact ⟨g1, fun ⟨i, n, o', c, h1, h2, h3, h4⟩ => g2 ⟨n, o', c, hcg i n o' h1 h2, h3, h4⟩, g3⟩ }
                have hden := evs_den hR _ _ hv
                have fin : ∀ E' x w', den E' r.val = some x → Eff E E' w w' F r.upd r.new → Rel w0 M E' { s.put o.dst r.val with mem := setMem (if F.ws.isEmpty then s.mem else setMem s.mem F.rd r.upd) F.al r.new } (a.put o.dst x) w' := fun E' x w' hx he => by
                  have := (hR.step he hc hal hrd hfr hsub hfin.1 (hfin.2.imp (by simp) id) hws).put o.dst hx
                  have e : ({ s with mem := setMem (if F.ws.isEmpty then s.mem else setMem s.mem F.rd r.upd) F.al r.new } : AState).put o.dst r.val = { s.put o.dst r.val with mem := setMem (if F.ws.isEmpty then s.mem else setMem s.mem F.rd r.upd) F.al r.new } := by
                    cases o.dst <;> rfl
                  rwa [e] at this
                unfold Oper.wp
                split at hr
                · rename_i r' hca
                  cases hr
                  obtain ⟨f, args, hrun, hcalls⟩ := call_sound hden hf hpre hca hob
                  rw [hrun]
                  rcases hcalls with ⟨g, as, h1, h2⟩ | ⟨v, w', h1, E', x, hv', hx, he⟩
                  · rw [h1, Oper.upon_enter]
                    refine h2.mono ?_
                    rintro e w' ⟨E', x, rfl, hx, he⟩
                    exact hn E' _ w' he.le (fin E' x w' hx he)
                  · cases hv'
                    rw [h1, Oper.upon_value]
                    exact hn E' _ w' he.le (fin E' _ w' hx he)
                · obtain ⟨x, w', E', hrun, hx, he⟩ := act_sound hden hf hpre hr hob
                  rcases hrun with hrun | ⟨hrun, rfl⟩
                  · rw [hrun, Oper.upon_value]
                    exact hn E' _ w' he.le (fin E' x w' hx he)
                  · rw [hrun, Oper.upon_skip]
                    exact hn E' _ w' he.le (fin E' undef w' hx he)
              · cases hs
          · cases hs

end Go.Proofs.YtpdhfopfjoinnaaDoor.Sx
