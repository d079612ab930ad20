/- The symbolic executor, part S: loops by their rounds, and contracts out of runs. -/
import Derived.Test.YtpdhfopfjoinnaaDoorSxR
set_option linter.unusedSimpArgs false
set_option linter.unusedVariables false
namespace Go.Proofs.YtpdhfopfjoinnaaDoor.Sx
open Go

variable {P : Program}

/-- Names that are forgotten. -/
def Env.drop (E : Env) (D : Nat → Bool) : Env := fun n => if D n then none else E n

def Avoid (D : Nat → Bool) (v : AV) : Prop := ∀ (E : Env) (x : Value), den E v = some x → den (E.drop D) v = some x
def AvoidL (D : Nat → Bool) (vs : List AV) : Prop := ∀ (E : Env) (xs : List Value), denL E vs = some xs → denL (E.drop D) vs = some xs
def AvoidO (D : Nat → Bool) (o : AObj) : Prop := ∀ (E : Env) (w : World) (b : Nat) (c : Cap), ObjR E w b c o → ObjR (E.drop D) w b c o

theorem AvoidL.nil (D : Nat → Bool) : AvoidL D [] := fun _ _ h => h
theorem AvoidL.cons {D : Nat → Bool} {v : AV} {vs : List AV} (h : Avoid D v) (k : AvoidL D vs) : AvoidL D (v :: vs) := fun E xs e => by
  obtain ⟨x, ys, hx, hy, rfl⟩ := denL_cons.1 e
  exact denL_cons.2 ⟨x, ys, h E x hx, k E ys hy, rfl⟩
theorem denL_append_inv {E : Env} : ∀ {vs us : List AV} {zs : List Value}, denL E (vs ++ us) = some zs → ∃ xs ys, denL E vs = some xs ∧ denL E us = some ys ∧ zs = xs ++ ys
  | [], us, zs, h => ⟨[], zs, rfl, h, rfl⟩
  | v :: vs, us, zs, h => by
    simp only [List.cons_append] at h
    obtain ⟨x, ys, hx, hy, rfl⟩ := denL_cons.1 h
    obtain ⟨as, bs, ha, hb, rfl⟩ := denL_append_inv hy
    exact ⟨x :: as, bs, denL_cons.2 ⟨x, as, hx, ha, rfl⟩, hb, rfl⟩
theorem AvoidL.append {D : Nat → Bool} {vs us : List AV} (h : AvoidL D vs) (k : AvoidL D us) : AvoidL D (vs ++ us) := fun E zs e => by
  obtain ⟨xs, ys, hx, hy, rfl⟩ := denL_append_inv e
  exact denL_append (h E xs hx) (k E ys hy)
theorem Avoid.bool (D : Nat → Bool) (b : Bool) : Avoid D (.bool b) := fun _ _ h => h
theorem Avoid.int (D : Nat → Bool) (k : IntKind) (n : Int) : Avoid D (.int k n) := fun _ _ h => h
theorem Avoid.str (D : Nat → Bool) (s : List UInt8) : Avoid D (.str s) := fun _ _ h => h
theorem Avoid.nilptr (D : Nat → Bool) : Avoid D .nilptr := fun _ _ h => h
theorem Avoid.nilslice (D : Nat → Bool) : Avoid D .nilslice := fun _ _ h => h
theorem Avoid.nilfunc (D : Nat → Bool) : Avoid D .nilfunc := fun _ _ h => h
theorem Avoid.niliface (D : Nat → Bool) : Avoid D .niliface := fun _ _ h => h
theorem drop_some {E : Env} {D : Nat → Bool} {n : Nat} (h : D n = false) : E.drop D n = E n := by simp [Env.drop, h]
theorem Avoid.ptr {D : Nat → Bool} {nm off : Nat} (h : D nm = false) : Avoid D (.ptr nm off) := fun E x e => by simpa only [den, drop_some h] using e
theorem Avoid.slice {D : Nat → Bool} {nm off l c : Nat} (h : D nm = false) : Avoid D (.slice nm off l c) := fun E x e => by simpa only [den, drop_some h] using e
theorem Avoid.vec {D : Nat → Bool} {nm l : Nat} (h : D nm = false) : Avoid D (.vec nm l) := fun E x e => by simpa only [den, drop_some h] using e
theorem Avoid.dsl {D : Nat → Bool} {nm l : Nat} (h : D nm = false) : Avoid D (.dsl nm l) := fun E x e => by simpa only [den, drop_some h] using e
theorem Avoid.dptr {D : Nat → Bool} {nm l : Nat} (h : D nm = false) : Avoid D (.dptr nm l) := fun E x e => by simpa only [den, drop_some h] using e
theorem Avoid.agg {D : Nat → Bool} {cs : List AV} (h : AvoidL D cs) : Avoid D (.agg cs) := fun E x e => by
  obtain ⟨xs, hx, rfl⟩ := denC_agg.1 e
  exact denC_agg.2 ⟨xs, ⟨h E xs hx.1, hx.2⟩, rfl⟩
theorem Avoid.tuple {D : Nat → Bool} {cs : List AV} (h : AvoidL D cs) : Avoid D (.tuple cs) := fun E x e => by
  simp only [den, Option.map_eq_some_iff] at e ⊢
  obtain ⟨xs, hx, rfl⟩ := e; exact ⟨xs, h E xs hx, rfl⟩
theorem AvoidL.all {D : Nat → Bool} : ∀ {vs : List AV}, (∀ v ∈ vs, Avoid D v) → AvoidL D vs
  | [], _ => .nil D
  | v :: vs, h => .cons (h v (by simp)) (AvoidL.all fun u hu => h u (by simp [hu]))
theorem AvoidL.u8s (D : Nat → Bool) (s : List UInt8) : AvoidL D (u8s s) := AvoidL.all fun v hv => by
  simp only [Sx.u8s, List.mem_map] at hv; obtain ⟨b, _, rfl⟩ := hv; exact .int _ _ _
/-- Whole numbers, as cells. -/
def ints (k : IntKind) (l : List Int) : List AV := l.map (.int k)
theorem AvoidL.ints (D : Nat → Bool) (k : IntKind) (l : List Int) : AvoidL D (ints k l) := AvoidL.all fun v hv => by
  simp only [Sx.ints, List.mem_map] at hv; obtain ⟨b, _, rfl⟩ := hv; exact .int _ _ _
theorem AvoidO.cells {D : Nat → Bool} {cs : List AV} {t : TypeId} (h : AvoidL D cs) : AvoidO D (.cells cs t) := fun E w b c ⟨xs, hx, hw⟩ => ⟨xs, ⟨h E xs hx.1, hx.2⟩, hw⟩
theorem AvoidO.vec {D : Nat → Bool} {cs : List AV} {t : TypeId} {sz : Nat} (h : AvoidL D cs) : AvoidO D (.vec cs t sz) := fun E w b c ⟨xs, ys, hx, hw⟩ => ⟨xs, ys, ⟨h E xs hx.1, hx.2⟩, hw⟩
theorem AvoidO.ro {D : Nat → Bool} {cs : List AV} {off : Nat} (h : AvoidL D cs) : AvoidO D (.ro off cs) := fun E w b c ⟨xs, hx, hw⟩ => ⟨xs, ⟨h E xs hx.1, hx.2⟩, hw⟩
theorem AvoidO.flat {D : Nat → Bool} {m : Bool} {cs : List AV} (h : AvoidL D cs) : AvoidO D (.flat m cs) := fun E w b c ⟨xs, hx, hw⟩ => ⟨xs, ⟨h E xs hx.1, hx.2⟩, hw⟩
theorem AvoidO.iter (D : Nat → Bool) (s : List UInt8) (p : Nat) : AvoidO D (.iter s p) := fun _ _ _ _ h => h
theorem AvoidO.dead (D : Nat → Bool) : AvoidO D .dead := fun _ _ _ _ h => h

/-- What is to be shown so that a value does not name what is forgotten. -/
def avoidA (D : Nat → Bool) : AV → List Prop
  | .bool _ | .int _ _ | .str _ | .nilptr | .nilslice | .nilfunc | .niliface => []
  | .ptr nm _ | .slice nm _ _ _ | .vec nm _ | .dsl nm _ | .dptr nm _ => if D nm then [False] else []
  | v => [Avoid D v]

theorem avoidA_spec {D : Nat → Bool} {v : AV} (h : AllP (avoidA D v)) : Avoid D v := by
  cases v <;> simp only [avoidA] at h <;> first
    | exact .bool _ _ | exact .int _ _ _ | exact .str _ _ | exact .nilptr _ | exact .nilslice _ | exact .nilfunc _ | exact .niliface _
    | (split at h
       · exact h.1.elim
       · rename_i hd; first | exact .ptr (by simpa using hd) | exact .slice (by simpa using hd) | exact .vec (by simpa using hd) | exact .dsl (by simpa using hd) | exact .dptr (by simpa using hd))
    | exact h.1

def dropSlots (D : Nat → Bool) : List (Option AV) → List (Option AV) → Option (List Prop)
  | [], [] => some []
  | _ :: as, none :: bs => dropSlots D as bs
  | some a :: as, some b :: bs => (dropSlots D as bs).map fun o => (a = b) :: (avoidA D b ++ o)
  | _, _ => none

def avoidO (D : Nat → Bool) : AObj → List Prop
  | .dead => []
  | .iter _ _ => []
  | o => [AvoidO D o]

theorem avoidO_spec {D : Nat → Bool} {o : AObj} (h : AllP (avoidO D o)) : AvoidO D o := by
  cases o <;> first | exact .dead _ | exact .iter _ _ _ | exact h.1

def dropMem (D : Nat → Bool) : Nat → List (Option AObj) → List (Option AObj) → Option (List Prop)
  | _, [], [] => some []
  | i, none :: as, none :: bs => dropMem D (i + 1) as bs
  | i, some _ :: as, none :: bs => if D i then dropMem D (i + 1) as bs else none
  | i, some _ :: as, some .dead :: bs => if D i then none else dropMem D (i + 1) as bs
  | i, some a :: as, some b :: bs => if D i then none else (dropMem D (i + 1) as bs).map fun o => sameF a b :: (avoidO D b ++ o)
  | _, _, _ => none

def dropA (D : Nat → Bool) (s t : AState) : Option (List Prop) :=
  match dropSlots D s.slots t.slots, dropMem D 0 s.mem t.mem with
  | some a, some b => some (a ++ b)
  | _, _ => none

theorem dropSlots_get {D : Nat → Bool} : ∀ (as bs : List (Option AV)) (ob : List Prop), dropSlots D as bs = some ob → AllP ob → as.length = bs.length ∧ ∀ (t : Nat) (v : AV), bs[t]? = some (some v) → as[t]? = some (some v) ∧ Avoid D v
  | [], [], _, _, _ => ⟨rfl, fun t v h => by simp at h⟩
  | [], _ :: _, _, h, _ => by simp [dropSlots] at h
  | _ :: _, [], _, h, _ => by simp [dropSlots] at h
  | a :: as, none :: bs, ob, h, hob => by
    have h' : dropSlots D as bs = some ob := by cases a <;> simpa [dropSlots] using h
    obtain ⟨h1, h2⟩ := dropSlots_get as bs ob h' hob
    refine ⟨by simp [h1], fun t v ht => ?_⟩
    cases t with
    | zero => simp at ht
    | succ t => simpa using h2 t v (by simpa using ht)
  | none :: as, some b :: bs, ob, h, _ => by simp [dropSlots] at h
  | some a :: as, some b :: bs, ob, h, hob => by
    simp only [dropSlots, Option.map_eq_some_iff] at h
    obtain ⟨o, ho, rfl⟩ := h
    obtain ⟨k1, k2⟩ := hob
    have k1 : a = b := k1
    obtain ⟨k2, k3⟩ := allP_append.1 k2
    obtain ⟨h1, h2⟩ := dropSlots_get as bs o ho k3
    refine ⟨by simp [h1], fun t v ht => ?_⟩
    cases t with
    | zero => simp at ht ⊢; rw [k1]; exact ⟨ht, ht ▸ avoidA_spec k2⟩
    | succ t => simpa using h2 t v (by simpa using ht)

theorem dropMem_get {D : Nat → Bool} : ∀ (as bs : List (Option AObj)) (i : Nat) (ob : List Prop), dropMem D i as bs = some ob → AllP ob → as.length = bs.length ∧ (∀ n : Nat, bs[n]? = some none → as[n]? = some none ∨ D (i + n) = true) ∧
    ∀ (n : Nat) (o : AObj), bs[n]? = some (some o) → D (i + n) = false ∧ ∃ o', as[n]? = some (some o') ∧ (o = .dead ∨ (sameF o' o ∧ AvoidO D o))
  | [], [], _, _, _, _ => ⟨rfl, fun n h => by simp at h, fun n o h => by simp at h⟩
  | [], _ :: _, _, _, h, _ => by simp [dropMem] at h
  | _ :: _, [], _, _, h, _ => by simp [dropMem] at h
  | none :: as, none :: bs, i, ob, h, hob => by
    obtain ⟨h1, h2, h3⟩ := dropMem_get as bs (i + 1) ob (by simpa [dropMem] using h) hob
    refine ⟨by simp [h1], fun n hn => ?_, fun n o hn => ?_⟩
    · cases n with
      | zero => simp
      | succ n => have := h2 n (by simpa using hn); rw [show i + (n + 1) = i + 1 + n by omega]; simpa using this
    · cases n with
      | zero => simp at hn
      | succ n => have := h3 n o (by simpa using hn); rw [show i + (n + 1) = i + 1 + n by omega]; simpa using this
  | none :: as, some b :: bs, i, ob, h, _ => by simp [dropMem] at h
  | some a :: as, none :: bs, i, ob, h, hob => by
    simp only [dropMem] at h
    split at h
    · rename_i hd
      obtain ⟨h1, h2, h3⟩ := dropMem_get as bs (i + 1) ob h hob
      refine ⟨by simp [h1], fun n hn => ?_, fun n o hn => ?_⟩
      · cases n with
        | zero => exact .inr hd
        | succ n => have := h2 n (by simpa using hn); rw [show i + (n + 1) = i + 1 + n by omega]; simpa using this
      · cases n with
        | zero => simp at hn
        | succ n => have := h3 n o (by simpa using hn); rw [show i + (n + 1) = i + 1 + n by omega]; simpa using this
    · cases h
  | some a :: as, some b :: bs, i, ob, h, hob => by
    have key : D i = false ∧ ∃ o, dropMem D (i + 1) as bs = some o ∧ AllP o ∧ (b = .dead ∨ (sameF a b ∧ AvoidO D b)) := by
      by_cases hd : b = .dead
      · subst hd
        simp only [dropMem] at h
        split at h
        · cases h
        · rename_i hdi; exact ⟨by simpa using hdi, ob, h, hob, .inl rfl⟩
      · have h' : D i = false ∧ ∃ o, dropMem D (i + 1) as bs = some o ∧ ob = sameF a b :: (avoidO D b ++ o) := by
          cases b <;> first
            | exact absurd rfl hd
            | (simp only [dropMem] at h
               split at h
               · cases h
               · rename_i hdi
                 simp only [Option.map_eq_some_iff] at h; obtain ⟨o, ho, e⟩ := h; exact ⟨by simpa using hdi, o, ho, e.symm⟩)
        obtain ⟨hdi, o, ho, rfl⟩ := h'
        obtain ⟨k1, k2⟩ := hob
        obtain ⟨k2, k3⟩ := allP_append.1 k2
        exact ⟨hdi, o, ho, k3, .inr ⟨k1, avoidO_spec k2⟩⟩
    obtain ⟨hdi, o, ho, k3, hor⟩ := key
    obtain ⟨h1, h2, h3⟩ := dropMem_get as bs (i + 1) o ho k3
    refine ⟨by simp [h1], fun n hn => ?_, fun n o' hn => ?_⟩
    · cases n with
      | zero => simp at hn
      | succ n => have := h2 n (by simpa using hn); rw [show i + (n + 1) = i + 1 + n by omega]; simpa using this
    · cases n with
      | zero =>
        simp at hn; subst hn
        refine ⟨hdi, a, by simp, ?_⟩
        rcases hor with g | ⟨g1, g2⟩
        · exact .inl g
        · exact .inr ⟨g1, g2⟩
      | succ n => have := h3 n o' (by simpa using hn); rw [show i + (n + 1) = i + 1 + n by omega]; simpa using this

theorem Rel.drop {w0 w : World} {M : Nat → Prop} {E : Env} {D : Nat → Bool} {s t : AState} {a : Act} {ob : List Prop} (h : Rel w0 M E s a w) (hw : dropA D s t = some ob) (hob : AllP ob) : Rel w0 M (E.drop D) t a w := by
  unfold dropA at hw
  split at hw
  · rename_i o1 o2 h1 h2
    cases hw
    obtain ⟨k1, k2⟩ := allP_append.1 hob
    obtain ⟨l1, g1⟩ := dropSlots_get _ _ _ h1 k1
    obtain ⟨l2, g2, g3⟩ := dropMem_get _ _ _ _ h2 k2
    simp only [Nat.zero_add] at g2 g3
    have back : ∀ n p, E.drop D n = some p → E n = some p := fun n p hp => by
      simp only [Env.drop] at hp; split at hp
      · cases hp
      · exact hp
    exact { h with
      size := h.size.trans l1
      slots := fun t v ht => by
        obtain ⟨e1, e2⟩ := g1 t v ht
        obtain ⟨x, hx, hd⟩ := h.slots t v e1
        exact ⟨x, hx, e2 E x hd⟩
      fresh := fun n hn => by
        rcases g2 n hn with e | e
        · simp only [Env.drop, h.fresh n e]; split <;> rfl
        · simp [Env.drop, e]
      mem := fun n o hn => by
        obtain ⟨hD, o', ho', hor⟩ := g3 n o hn
        obtain ⟨b, c, hE, hob, hM⟩ := h.mem n o' ho'
        refine ⟨b, c, by rw [drop_some hD]; exact hE, ?_⟩
        rcases hor with rfl | ⟨hs, hav⟩
        · exact ⟨trivial, fun e => by cases e⟩
        · exact ⟨hav E w b c (sameF_obj hs hob), fun e ht => hM (by rw [← sameF_mine hs]; exact e) (sameF_touches' hs ht)⟩
      apart := fun n m o o2 b c b' c' hn hm ho ho2 e1 e2 hne => by
        obtain ⟨_, x, hx, hor⟩ := g3 n o hn
        obtain ⟨_, y, hy, hor2⟩ := g3 m o2 hm
        rcases hor with rfl | ⟨hs, _⟩
        · cases ho
        · rcases hor2 with rfl | ⟨hs2, _⟩
          · cases ho2
          · exact fun ht => h.apart n m x y b c b' c' hx hy (by rw [← sameF_owned hs]; exact ho) (by rw [← sameF_live hs2]; exact ho2) (back _ _ e1) (back _ _ e2) hne (sameF_touches' hs2 ht) }
  · cases hw

/-- What is known at a round's end, told as the next round's head, without the names that the round made. -/
theorem Tri.next {c : Code} {s s' t : AState} {ex : Ex} {D : Nat → Bool} {ob : List Prop} {K : Nat} (h : Tri P c s ex s' K) (hw : dropA D s' t = some ob) (hob : AllP ob) (hD : ∀ n, D n = true → s.mem[n]? = some none) : Tri P c s ex t K := by
  intro w0 M E a w hR
  refine wp_mono (h w0 M E a w hR) ?_
  rintro e a' w' ⟨rfl, E', hle, h'⟩
  refine ⟨rfl, E'.drop D, fun n p hK hn => ?_, h'.drop hw hob⟩
  have : D n = false := by
    cases hd : D n with
    | false => rfl
    | true => rw [hR.fresh n (hD n hd)] at hn; cases hn
  rw [drop_some this]; exact hle n p hK hn

/-! ### other names -/
def renSlots (r : List Nat) : List (Option AV) → List (Option AV) → Option (List Prop)
  | [], [] => some []
  | _ :: as, none :: bs => renSlots r as bs
  | some a :: as, some b :: bs => (renSlots r as bs).map fun o => (a = b.ren r) :: o
  | _, _ => none

/-- Name i of the new telling is name r[i] of the old one. -/
def renMem (r : List Nat) (mem : List (Option AObj)) : List Nat → List (Option AObj) → Option (List Prop)
  | [], bs => if bs.all (·.isNone) then some [] else none
  | _ :: ns, some .dead :: bs => renMem r mem ns bs
  | n :: ns, some b :: bs =>
    match mem[n]? with
    | some (some a) => (renMem r mem ns bs).map fun o => sameF a (b.ren r) :: o
    | _ => none
  | _, _ => none

def renA (r : List Nat) (K : Nat) (s t : AState) : Option (List Prop) :=
  if r.Nodup && (r.all fun n => match s.mem[n]? with | some (some _) => true | _ => false) && ((List.range K).all fun n => r[n]? == some n) then
    match renSlots r s.slots t.slots, renMem r s.mem r t.mem with
    | some a, some b => some (a ++ b)
    | _, _ => none
  else none

theorem renSlots_get {r : List Nat} : ∀ (as bs : List (Option AV)) (ob : List Prop), renSlots r as bs = some ob → AllP ob → as.length = bs.length ∧ ∀ (t : Nat) (v : AV), bs[t]? = some (some v) → as[t]? = some (some (v.ren r))
  | [], [], _, _, _ => ⟨rfl, fun t v h => by simp at h⟩
  | [], _ :: _, _, h, _ => by simp [renSlots] at h
  | _ :: _, [], _, h, _ => by simp [renSlots] at h
  | a :: as, none :: bs, ob, h, hob => by
    obtain ⟨h1, h2⟩ := renSlots_get as bs ob (by simpa [renSlots] using h) hob
    refine ⟨by simp [h1], fun t v ht => ?_⟩
    cases t with
    | zero => simp at ht
    | succ t => simpa using h2 t v (by simpa using ht)
  | none :: as, some b :: bs, ob, h, _ => by simp [renSlots] at h
  | some a :: as, some b :: bs, ob, h, hob => by
    simp only [renSlots, Option.map_eq_some_iff] at h
    obtain ⟨o, ho, rfl⟩ := h
    obtain ⟨k1, k2⟩ := hob
    have k1 : a = b.ren r := k1
    obtain ⟨h1, h2⟩ := renSlots_get as bs o ho k2
    refine ⟨by simp [h1], fun t v ht => ?_⟩
    cases t with
    | zero => simp at ht ⊢; rw [k1, ht]
    | succ t => simpa using h2 t v (by simpa using ht)

theorem renMem_get {r : List Nat} {mem : List (Option AObj)} : ∀ (ns : List Nat) (bs : List (Option AObj)) (ob : List Prop), renMem r mem ns bs = some ob → AllP ob →
    ∀ (i : Nat) (o : Option AObj), bs[i]? = some o → (o = none ∧ ns.length ≤ i) ∨ ∃ b n, o = some b ∧ ns[i]? = some n ∧ (b = .dead ∨ ∃ a, mem[n]? = some (some a) ∧ sameF a (b.ren r))
  | [], bs, ob, h, hob, i, o, hi => by
    simp only [renMem] at h
    split at h
    · rename_i hall
      have := List.all_eq_true.1 hall o (List.mem_of_getElem? hi)
      exact .inl ⟨by simpa using this, Nat.zero_le _⟩
    · cases h
  | n :: ns, [], ob, h, _, i, o, hi => by simp at hi
  | n :: ns, none :: bs, ob, h, _, i, o, hi => by simp [renMem] at h
  | n :: ns, some b :: bs, ob, h, hob, i, o, hi => by
    have key : ∃ o2, renMem r mem ns bs = some o2 ∧ AllP o2 ∧ (b = .dead ∨ ∃ a, mem[n]? = some (some a) ∧ sameF a (b.ren r)) := by
      by_cases hd : b = .dead
      · subst hd; exact ⟨ob, by simpa [renMem] using h, hob, .inl rfl⟩
      · have h' : ∃ a, mem[n]? = some (some a) ∧ ∃ o2, renMem r mem ns bs = some o2 ∧ ob = sameF a (b.ren r) :: o2 := by
          cases b <;> first
            | exact absurd rfl hd
            | (simp only [renMem] at h
               split at h
               · rename_i a ha
                 simp only [Option.map_eq_some_iff] at h; obtain ⟨o2, ho, e⟩ := h; exact ⟨a, ha, o2, ho, e.symm⟩
               · cases h)
        obtain ⟨a, ha, o2, ho, rfl⟩ := h'
        obtain ⟨k1, k2⟩ := hob
        have k1 : sameF a (b.ren r) := k1
        exact ⟨o2, ho, k2, .inr ⟨a, ha, k1⟩⟩
    obtain ⟨o2, ho, k2, hor⟩ := key
    cases i with
    | zero => simp at hi; exact .inr ⟨b, n, hi.symm, by simp, hor⟩
    | succ i =>
      rcases renMem_get ns bs o2 ho k2 i o (by simpa using hi) with ⟨h1, h2⟩ | ⟨b', n', h1, h2, h3⟩
      · exact .inl ⟨h1, by simp; omega⟩
      · exact .inr ⟨b', n', h1, by simpa using h2, h3⟩

theorem Rel.ren {w0 w : World} {M : Nat → Prop} {E : Env} {r : List Nat} {K : Nat} {s t : AState} {a : Act} {ob : List Prop} (h : Rel w0 M E s a w) (hw : renA r K s t = some ob) (hob : AllP ob) :
    Rel w0 M (fun i : Nat => (r[i]?).bind E) t a w ∧ ∀ n, n < K → r[n]? = some n := by
  unfold renA at hw
  split at hw
  · rename_i hc
    simp only [Bool.and_eq_true, decide_eq_true_eq] at hc
    obtain ⟨⟨hnd, hall⟩, hK⟩ := hc
    split at hw
    · rename_i o1 o2 h1 h2
      cases hw
      obtain ⟨k1, k2⟩ := allP_append.1 hob
      obtain ⟨l1, g1⟩ := renSlots_get _ _ _ h1 k1
      have g2 := renMem_get _ _ _ h2 k2
      have hEnv : ∀ (i m : Nat) (p : Nat × Cap), r[i]? = some m → E m = some p → (fun i : Nat => (r[i]?).bind E) i = some p := fun i m p hi hm => by
        show (r[i]?).bind E = some p
        rw [hi]; exact hm
      have named : ∀ (i m : Nat), r[i]? = some m → ∃ o, s.mem[m]? = some (some o) := fun i m hi => by
        have := List.all_eq_true.1 hall m (List.mem_of_getElem? hi)
        split at this
        · rename_i o ho; exact ⟨o, ho⟩
        · cases this
      have back : ∀ (i : Nat) (p : Nat × Cap), (r[i]?).bind E = some p → ∃ m, r[i]? = some m ∧ E m = some p := fun i p hi => Option.bind_eq_some_iff.1 hi
      refine ⟨?_, fun n hn => ?_⟩
      · exact {
          size := h.size.trans l1
          slots := fun t v ht => by
            obtain ⟨x, hx, hd⟩ := h.slots t _ (g1 t v ht)
            exact ⟨x, hx, ren_den hEnv v x hd⟩
          defers := h.defers
          fresh := fun n hn => by
            rcases g2 n none hn with ⟨_, hl⟩ | ⟨b, m, hb, _⟩
            · simp [List.getElem?_eq_none hl]
            · cases hb
          mem := fun n o hn => by
            rcases g2 n (some o) hn with ⟨hb, _⟩ | ⟨b, m, hb, hm, hor⟩
            · cases hb
            · cases hb
              rcases hor with rfl | ⟨a', hs, hsf⟩
              · obtain ⟨o', ho'⟩ := named n m hm
                obtain ⟨b, c, hE, _⟩ := h.mem m o' ho'
                exact ⟨b, c, by simp [hm, hE], trivial, fun e => by cases e⟩
              · obtain ⟨b, c, hE, hob', hown⟩ := h.mem m _ hs
                exact ⟨b, c, by simp [hm, hE], ObjR.unren hEnv (sameF_obj hsf hob'), fun e ht => hown (by rw [← sameF_mine hsf, AObj.ren_mine]; exact e) (sameF_touches' hsf (touches_ren' ht))⟩
          apart := fun n m o o' b c b' c' hn hm ho ho' e1 e2 hne => by
            obtain ⟨n', hn', e1'⟩ := back _ _ e1
            obtain ⟨m', hm', e2'⟩ := back _ _ e2
            have hne' : n' ≠ m' := by
              rintro rfl
              obtain ⟨l1, r1⟩ := List.getElem?_eq_some_iff.1 hn'
              obtain ⟨l2, r2⟩ := List.getElem?_eq_some_iff.1 hm'
              exact hne ((List.getElem_inj hnd).1 (r1.trans r2.symm))
            rcases g2 n _ hn with ⟨hb, _⟩ | ⟨p, i, hb, hi, hor⟩
            · cases hb
            · cases hb
              rw [hn'] at hi; cases hi
              rcases hor with rfl | ⟨a1, hs, hsf⟩
              · cases ho
              · rcases g2 m _ hm with ⟨hb, _⟩ | ⟨p', i', hb, hi', hor'⟩
                · cases hb
                · cases hb
                  rw [hm'] at hi'; cases hi'
                  rcases hor' with rfl | ⟨a2, hs', hsf'⟩
                  · cases ho'
                  · exact fun ht => h.apart n' m' _ _ b c b' c' hs hs' (by rw [← sameF_owned hsf, AObj.ren_owned]; exact ho) (by rw [← sameF_live hsf', AObj.ren_live]; exact ho') e1' e2' hne' (sameF_touches' hsf' (touches_ren' ht))
          frame := h.frame, grow := h.grow, os := h.os, tape := h.tape, output := h.output, glob := h.glob }
      · have := List.all_eq_true.1 hK n (List.mem_range.2 hn)
        simpa using this
    · cases hw
  · cases hw

/-- What is known at the end, told with other names: name i is what name r[i] was. -/
theorem Tri.ren {c : Code} {s s' t : AState} {ex : Ex} (r : List Nat) {ob : List Prop} {K : Nat} (h : Tri P c s ex s' K) (hw : renA r K s' t = some ob) (hob : AllP ob) : Tri P c s ex t K := by
  intro w0 M E a w hR
  refine wp_mono (h w0 M E a w hR) ?_
  rintro e a' w' ⟨rfl, E', hle, h'⟩
  obtain ⟨h1, h2⟩ := h'.ren hw hob
  exact ⟨rfl, _, fun n p hn hE => by simp [h2 n hn, hle n p hn hE], h1⟩

theorem Tri.weak {c : Code} {s s' t : AState} {ex : Ex} {ob : List Prop} {K : Nat} (h : Tri P c s ex s' K) (hw : weakA s' t = some ob) (hob : AllP ob) : Tri P c s ex t K := by
  intro w0 M E a w hR
  refine wp_mono (h w0 M E a w hR) ?_
  rintro e a' w' ⟨rfl, E', hle, h'⟩
  exact ⟨rfl, E', hle, h'.weak hw hob⟩

/-- A LOOP: each round comes to the next round's head, or leaves as the loop is left. -/
theorem tri_loop {ι : Type} {body : Code} (inv : ι → AState) (μ : ι → Nat) {ex : Ex} {out : AState} {K : Nat} (hex : ex ≠ .normal)
    (step : ∀ i, (∃ j, μ j < μ i ∧ Tri P body (inv i) .normal (inv j) K) ∨ Tri P body (inv i) ex out K) (i : ι) : Tri P (.loop body) (inv i) ex out K := by
  intro w0 M E a w hR
  refine wp_loop_rounds (μ i + 1) ?_
  have key : ∀ (n : Nat) (i : ι) (E1 : Env) (a1 : Act) (w1 : World), μ i < n → Env.leK K E E1 → Rel w0 M E1 (inv i) a1 w1 →
      Code.rounds P body (fun e a' w' => e = ex.to ∧ ∃ E', Env.leK K E E' ∧ Rel w0 M E' out a' w') n a1 w1 := by
    intro n
    induction n with
    | zero => intro i E1 a1 w1 hn; omega
    | succ n ih =>
      intro i E1 a1 w1 hn hle h1
      rw [rounds_succ]
      rcases step i with ⟨j, hj, ht⟩ | ht
      · refine wp_mono (ht w0 M E1 a1 w1 h1) ?_
        rintro e a' w' ⟨rfl, E', hle', h'⟩
        exact ih j E' a' w' (by omega) (hle.trans hle') h'
      · refine wp_mono (ht w0 M E1 a1 w1 h1) ?_
        rintro e a' w' ⟨rfl, E', hle', h'⟩
        cases ex with
        | normal => exact absurd rfl hex
        | exit id => exact ⟨rfl, E', hle.trans hle', h'⟩
        | ret => exact ⟨rfl, E', hle.trans hle', h'⟩
  exact key _ i E a w (Nat.lt_succ_self _) (.refl _ _) hR

end Go.Proofs.YtpdhfopfjoinnaaDoor.Sx
