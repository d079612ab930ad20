/- The evaluator, part D: names that are left behind, or told otherwise. -/
import Derived.Test.YtpdhfopfjoinnaaDoorPxC
set_option linter.unusedVariables false
set_option linter.unusedSimpArgs false
namespace Go.Proofs.YtpdhfopfjoinnaaDoor.Sx
open Go
variable {P : Program}

mutual
def AV.names : AV → List Nat
  | .ptr nm _ => [nm]
  | .slice nm _ _ _ => [nm]
  | .vec nm _ => [nm]
  | .dsl nm _ => [nm]
  | .dptr nm _ => [nm]
  | .agg cs => namesL cs
  | .tuple cs => namesL cs
  | .func _ as cs => namesL as ++ namesL cs
  | .iface _ v => v.names
  | _ => []
def namesL : List AV → List Nat
  | [] => []
  | v :: vs => v.names ++ namesL vs
end

def posN : List Nat → Nat → Nat
  | [], _ => 0
  | m :: r, n => if Nat.beq m n then 0 else posN r n + 1
def hasN : List Nat → Nat → Bool
  | [], _ => false
  | m :: r, n => Nat.beq m n || hasN r n
def subN (r : List Nat) : List Nat → Bool
  | [] => true
  | n :: ns => hasN r n && subN r ns
theorem posN_get : ∀ {r : List Nat} {n : Nat}, hasN r n = true → r[posN r n]? = some n
  | [], n, h => by simp [hasN] at h
  | m :: r, n, h => by
    simp only [hasN, Bool.or_eq_true] at h
    simp only [posN]
    split
    · rename_i e; rw [beqT.1 e]; rfl
    · rename_i e
      rcases h with h | h
      · exact absurd h e
      · simpa using posN_get h
theorem posN_lt {r : List Nat} {n : Nat} (h : hasN r n = true) : posN r n < r.length := (List.getElem?_eq_some_iff.1 (posN_get h)).1

mutual
def AV.unren (r : List Nat) : AV → AV
  | .ptr nm off => .ptr (posN r nm) off
  | .slice nm off l c => .slice (posN r nm) off l c
  | .vec nm l => .vec (posN r nm) l
  | .dsl nm l => .dsl (posN r nm) l
  | .dptr nm l => .dptr (posN r nm) l
  | .agg cs => .agg (unrenL r cs)
  | .tuple cs => .tuple (unrenL r cs)
  | .func f as cs => .func f (unrenL r as) (unrenL r cs)
  | .iface t v => .iface t (v.unren r)
  | .bool b => .bool b
  | .int k n => .int k n
  | .str s => .str s
  | .nilptr => .nilptr
  | .nilslice => .nilslice
  | .gptr g off => .gptr g off
  | .nilfunc => .nilfunc
  | .niliface => .niliface
  | .bad => .bad
def unrenL (r : List Nat) : List AV → List AV
  | [] => []
  | v :: vs => v.unren r :: unrenL r vs
end

theorem subN_append {r a b : List Nat} : subN r (a ++ b) = true ↔ subN r a = true ∧ subN r b = true := by
  induction a with
  | nil => simp [subN]
  | cons n a ih => simp [subN, ih, and_assoc]
theorem subN_one {r : List Nat} {n : Nat} : subN r [n] = true ↔ hasN r n = true := by simp [subN]

theorem get_app {r x : List Nat} {i n : Nat} (h : r[i]? = some n) : (r ++ x)[i]? = some n := by
  rw [List.getElem?_append_left (List.getElem?_eq_some_iff.1 h).1]; exact h

mutual
theorem ren_unren {r x : List Nat} : ∀ (v : AV), subN r v.names = true → (v.unren r).ren (r ++ x) = v
  | .ptr nm off, h => by simp only [AV.unren, AV.ren, get_app (x := x) (posN_get (subN_one.1 h))]
  | .slice nm off l c, h => by simp only [AV.unren, AV.ren, get_app (x := x) (posN_get (subN_one.1 h))]
  | .vec nm l, h => by simp only [AV.unren, AV.ren, get_app (x := x) (posN_get (subN_one.1 h))]
  | .dsl nm l, h => by simp only [AV.unren, AV.ren, get_app (x := x) (posN_get (subN_one.1 h))]
  | .dptr nm l, h => by simp only [AV.unren, AV.ren, get_app (x := x) (posN_get (subN_one.1 h))]
  | .agg cs, h => by simp only [AV.unren, AV.ren, renL_unren cs h]
  | .tuple cs, h => by simp only [AV.unren, AV.ren, renL_unren cs h]
  | .func f as cs, h => by
    obtain ⟨h1, h2⟩ := subN_append.1 h
    simp only [AV.unren, AV.ren, renL_unren as h1, renL_unren cs h2]
  | .iface t v, h => by simp only [AV.unren, AV.ren, ren_unren v h]
  | .bool b, _ => rfl
  | .int k n, _ => rfl
  | .str s, _ => rfl
  | .nilptr, _ => rfl
  | .nilslice, _ => rfl
  | .gptr _ _, _ => rfl
  | .nilfunc, _ => rfl
  | .niliface, _ => rfl
  | .bad, _ => rfl
theorem renL_unren {r x : List Nat} : ∀ (vs : List AV), subN r (namesL vs) = true → renL (r ++ x) (unrenL r vs) = vs
  | [], _ => rfl
  | v :: vs, h => by
    obtain ⟨h1, h2⟩ := subN_append.1 h
    simp only [unrenL, renL, ren_unren v h1, renL_unren vs h2]
end

def AObj.names : AObj → List Nat
  | .cells cs _ => namesL cs
  | .vec cs _ _ => namesL cs
  | .ro _ cs => namesL cs
  | .flat _ cs => namesL cs
  | .iter _ _ => []
  | .dead => []
def AObj.unren (r : List Nat) : AObj → AObj
  | .cells cs t => .cells (unrenL r cs) t
  | .vec cs t sz => .vec (unrenL r cs) t sz
  | .ro off cs => .ro off (unrenL r cs)
  | .flat m cs => .flat m (unrenL r cs)
  | .iter s p => .iter s p
  | .dead => .dead
theorem AObj.ren_unren {r x : List Nat} {o : AObj} (h : subN r o.names = true) : (o.unren r).ren (r ++ x) = o := by
  cases o <;> simp only [AObj.unren, AObj.ren] <;> first | rfl | rw [renL_unren _ h]
theorem AObj.unren_kind {r : List Nat} {o : AObj} : (o.unren r).owned = o.owned ∧ (o.unren r).mine = o.mine ∧ (o.unren r).live = o.live ∧ (o.unren r).isFlat = o.isFlat := by cases o <;> exact ⟨rfl, rfl, rfl, rfl⟩

def PObj.names : PObj → List Nat
  | .raw o => o.names
  | _ => []
def PObj.unren (r : List Nat) : PObj → PObj
  | .raw o => .raw (o.unren r)
  | o => o
def PObj.ren (r : List Nat) : PObj → PObj
  | .raw o => .raw (o.ren r)
  | o => o
theorem PObj.ren_toA (r : List Nat) (o : PObj) : (o.ren r).toA = o.toA.ren r := by
  cases o <;> simp [PObj.ren, PObj.toA, AObj.ren, renL_ints, renL_u8s]
theorem PObj.ren_unren {r x : List Nat} {o : PObj} (h : subN r o.names = true) : (o.unren r).toA.ren (r ++ x) = o.toA := by
  cases o with
  | raw o => exact AObj.ren_unren h
  | _ => simp [PObj.unren, PObj.toA, AObj.ren, renL_ints, renL_u8s]

/-- The names that are reached, in order. -/
def reach (mem : List (Option PObj)) : Nat → List Nat → List Nat → List Nat
  | 0, _, acc => acc
  | _ + 1, [], acc => acc
  | f + 1, n :: todo, acc =>
    if hasN acc n then reach mem f todo acc else
    match lookP mem n with
    | some o => reach mem f (todo ++ o.names) (acc ++ [n])
    | none => reach mem f todo acc

def nodupN : List Nat → Bool
  | [] => true
  | n :: ns => !hasN ns n && nodupN ns
theorem hasN_mem {r : List Nat} {n : Nat} : hasN r n = true ↔ n ∈ r := by
  induction r with
  | nil => simp [hasN]
  | cons m r ih =>
    simp only [hasN, Bool.or_eq_true, ih, beqT, List.mem_cons]
    constructor
    · rintro (h | h)
      · exact .inl h.symm
      · exact .inr h
    · rintro (h | h)
      · exact .inl h.symm
      · exact .inr h
theorem nodupN_spec : ∀ {r : List Nat}, nodupN r = true → r.Nodup
  | [], _ => List.nodup_nil
  | n :: ns, h => by
    simp only [nodupN, Bool.and_eq_true, Bool.not_eq_true'] at h
    have h1 := h.1
    exact List.nodup_cons.2 ⟨fun e => by (rw [hasN_mem.2 e] at h1; cases h1), nodupN_spec h.2⟩

/-- The objects of some names, named by their places among them; none, if one is not there, or leads elsewhere. -/
def takeObjs (mem : List (Option PObj)) (r : List Nat) : List Nat → Option (List PObj)
  | [] => some []
  | n :: ns => match lookP mem n with
    | some o => if subN r o.names then (takeObjs mem r ns).map (o.unren r :: ·) else none
    | none => none

def keepSlots (r : List Nat) (keep : Nat → Bool) : Nat → List (Option AV) → List (Option AV)
  | _, [] => []
  | i, some v :: vs => (if keep i && subN r v.names then some (v.unren r) else none) :: keepSlots r keep (i + 1) vs
  | i, none :: vs => none :: keepSlots r keep (i + 1) vs

def firstN (K : Nat) (r : List Nat) : Bool := (List.range K).all fun n => r[n]? == some n

/-- A state with the names of 'r' alone, by their places; NF names are free behind them. -/
def compact (K NF : Nat) (r : List Nat) (keep : Nat → Bool) (s : PState) : Option PState :=
  if nodupN r && firstN K r then
    match takeObjs s.mem r r with
    | some os => some ⟨keepSlots r keep 0 s.slots, os.map some ++ List.replicate NF none⟩
    | none => none
  else none

theorem keepSlots_ren {r : List Nat} {keep : Nat → Bool} : ∀ (i : Nat) (vs : List (Option AV)), ∃ ob, renSlots r vs (keepSlots r keep i vs) = some ob ∧ AllP ob
  | i, [] => ⟨[], rfl, trivial⟩
  | i, none :: vs => by
    obtain ⟨ob, h1, h2⟩ := keepSlots_ren (r := r) (keep := keep) (i + 1) vs
    exact ⟨ob, by simpa [keepSlots, renSlots] using h1, h2⟩
  | i, some v :: vs => by
    obtain ⟨ob, h1, h2⟩ := keepSlots_ren (r := r) (keep := keep) (i + 1) vs
    simp only [keepSlots]
    split
    · rename_i h
      simp only [Bool.and_eq_true] at h
      have := ren_unren (x := []) v h.2
      rw [List.append_nil] at this
      exact ⟨(v = AV.ren r (AV.unren r v)) :: ob, by simp only [renSlots, h1, Option.map_some], this.symm, h2⟩
    · exact ⟨ob, by simpa [renSlots] using h1, h2⟩

theorem sameF_refl (o : AObj) : sameF o o := by cases o <;> first | rfl | exact ⟨rfl, by simp⟩

theorem takeObjs_spec {mem : List (Option PObj)} {r : List Nat} : ∀ (ns : List Nat) (os : List PObj), takeObjs mem r ns = some os → os.length = ns.length ∧ ∀ (i n : Nat), ns[i]? = some n → ∃ o, lookP mem n = some o ∧ os[i]? = some (o.unren r) ∧ subN r o.names = true
  | [], os, h => by simp [takeObjs] at h; subst h; exact ⟨rfl, fun i n hi => by simp at hi⟩
  | m :: ns, os, h => by
    simp only [takeObjs] at h
    split at h
    · rename_i o ho
      split at h
      · rename_i hs
        simp only [Option.map_eq_some_iff] at h
        obtain ⟨os', h', rfl⟩ := h
        obtain ⟨h1, h2⟩ := takeObjs_spec ns os' h'
        refine ⟨by simp [h1], fun i n hi => ?_⟩
        cases i with
        | zero => simp at hi; subst hi; exact ⟨o, ho, rfl, hs⟩
        | succ i => simpa using h2 i n (by simpa using hi)
      · cases h
    · cases h

theorem renMem_take {mem : List (Option PObj)} {r : List Nat} {NF : Nat} : ∀ (ns : List Nat) (os : List PObj), takeObjs mem r ns = some os → ∃ ob, renMem r (memA mem) ns (memA (os.map some ++ List.replicate NF none)) = some ob ∧ AllP ob
  | [], os, h => by
    simp [takeObjs] at h; subst h
    refine ⟨[], ?_, trivial⟩
    simp [memA, renMem]
  | m :: ns, os, h => by
    simp only [takeObjs] at h
    split at h
    · rename_i o ho
      split at h
      · rename_i hs
        simp only [Option.map_eq_some_iff] at h
        obtain ⟨os', h', rfl⟩ := h
        obtain ⟨ob, h1, h2⟩ := renMem_take ns os' h'
        have hm : (memA mem)[m]? = some (some o.toA) := by
          simp only [lookP, Option.join_eq_some_iff] at ho
          rw [memA_get, ho]; rfl
        have hsame : sameF o.toA ((o.unren r).toA.ren r) := by
          have := PObj.ren_unren (x := []) hs
          rw [List.append_nil] at this
          rw [this]; exact sameF_refl _
        have e : memA (List.map some (o.unren r :: os') ++ List.replicate NF none) = some (o.unren r).toA :: memA (os'.map some ++ List.replicate NF none) := rfl
        rw [e]
        by_cases hd : (o.unren r).toA = .dead
        · rw [hd]; exact ⟨ob, by simpa [renMem] using h1, h2⟩
        · refine ⟨sameF o.toA ((o.unren r).toA.ren r) :: ob, ?_, hsame, h2⟩
          generalize (o.unren r).toA = b at hd
          cases b <;> first | exact absurd rfl hd | simp only [renMem, hm, h1, Option.map_some]
      · cases h
    · cases h

theorem compact_ren {K NF : Nat} {r : List Nat} {keep : Nat → Bool} {s t : PState} (h : compact K NF r keep s = some t) : ∃ ob, renA r K s.toA t.toA = some ob ∧ AllP ob := by
  unfold compact at h
  split at h
  · rename_i hc
    simp only [Bool.and_eq_true] at hc
    split at h
    · rename_i os ho
      cases h
      obtain ⟨o1, h1, k1⟩ := keepSlots_ren (r := r) (keep := keep) 0 s.slots
      obtain ⟨o2, h2, k2⟩ := renMem_take (NF := NF) r os ho
      refine ⟨o1 ++ o2, ?_, allP_append.2 ⟨k1, k2⟩⟩
      unfold renA
      rw [if_pos]
      · simp only [PState.toA, h1, h2]
      · simp only [Bool.and_eq_true, decide_eq_true_eq]
        refine ⟨⟨nodupN_spec hc.1, ?_⟩, hc.2⟩
        refine List.all_eq_true.2 fun n hn => ?_
        obtain ⟨i, hi⟩ := List.getElem?_of_mem hn
        obtain ⟨o, ho', _⟩ := (takeObjs_spec r os ho).2 i n hi
        simp only [lookP, Option.join_eq_some_iff] at ho'
        simp only [PState.toA, memA_get, ho', Option.map_some]
    · cases h
  · cases h

end Go.Proofs.YtpdhfopfjoinnaaDoor.Sx
