/- The symbolic executor, part T: contracts out of runs of bodies. -/
import Derived.Test.YtpdhfopfjoinnaaDoorSxS
set_option linter.unusedSimpArgs false
set_option linter.unusedVariables false
namespace Go.Proofs.YtpdhfopfjoinnaaDoor.Sx
open Go

variable {P : Program}

/-- The state in which a call begins: 'k' names for new blocks. -/
def start (ntmps : Nat) (args : List AV) (pre : List AObj) (k : Nat) : AState :=
  ⟨args.map some ++ List.replicate (ntmps - args.length) none, pre.map (fun o => some o.lent) ++ List.replicate k none⟩

def resA (P : Program) (s : AState) : List ResultVar → List Hint → Option (List Prop × List AV)
  | [], _ => some ([], [])
  | .tmp t :: rs, hs =>
    match (s.slots[t]?).join, resA P s rs hs.tail with
    | some v, some (ob, vs) => some (ob, v :: vs)
    | _, _ => none
  | .cell a t :: rs, hs =>
    match (s.slots[a]?).join with
    | some (.ptr nm off) =>
      match s.mem[nm]? with
      | some (some o) =>
        match loadA P (hs.headD {}) t off o, resA P s rs hs.tail with
        | some r, some (ob, vs) => some (r.obl ++ ob, r.val :: vs)
        | _, _ => none
      | _ => none
    | _ => none

def one : List AV → AV
  | [v] => v
  | vs => .tuple vs

/-- A block is told as it is; one of a slice that is never written any more, as less. -/
def sameO (o : AObj) : AObj → Prop
  | .flat m cs => Fits o (.flat m cs)
  | p => o = p

def postA (D : Nat → Bool) (mem : List (Option AObj)) (npre : Nat) : Nat → List AObj → Option (List Prop)
  | _, [] => some []
  | i, .dead :: ps => match mem[i]? with
    | some (some _) => if i < npre then postA D mem npre (i + 1) ps else none
    | _ => none
  | i, p :: ps => match mem[i]? with
    | some (some o) => if i < npre || o.mine then (postA D mem npre (i + 1) ps).map fun ob => sameO o p :: (avoidO D p ++ ob) else none
    | _ => none

/-- The end of a body: the results, and the blocks that are told of. -/
def finA (P : Program) (rs : List ResultVar) (hs : List Hint) (s : AState) (npre : Nat) (res : AV) (post : List AObj) : Option (List Prop) :=
  let D := fun n => decide (post.length ≤ n)
  match resA P s rs hs, postA D s.mem npre 0 post with
  | some (ob, vs), some ob2 => if npre ≤ post.length then some (ob ++ (one vs = res) :: (avoidA D res ++ ob2)) else none
  | _, _ => none

theorem load_world {w w2 : World} {a : Addr} {v : Value} (h : (load a).run P w = .ok v w2) : w2 = w := by
  rw [run_load] at h
  split at h
  · cases h; rfl
  · split at h
    · cases h; rfl
    · cases h

theorem loadCells_world {a : Addr} : ∀ (n i : Nat) (acc : Array Value) (w w2 : World) (v : Array Value), (loadCellsFrom a i n acc).run P w = .ok v w2 → w2 = w
  | 0, i, acc, w, w2, v, h => by simp only [loadCellsFrom, Sem.run_pure] at h; cases h; rfl
  | n + 1, i, acc, w, w2, v, h => by
    simp only [loadCellsFrom, Sem.run_bind] at h
    cases hl : (load (a.add i)).run P w with
    | ok x w3 =>
      rw [hl] at h
      have := load_world hl
      subst this
      exact loadCells_world n (i + 1) _ _ _ _ h
    | halt hh w3 => rw [hl] at h; cases h

theorem loadVar_world {w w2 : World} {t : TypeId} {a : Addr} {v : Value} (h : (loadVar t a).run P w = .ok v w2) : w2 = w := by
  simp only [loadVar, Sem.run_bind] at h
  have hi : ∃ r, (isAgg t).run P w = r ∧ ∀ b w3, r = .ok b w3 → w3 = w := by
    refine ⟨_, rfl, fun b w3 hr => ?_⟩
    simp only [isAgg, underlying, Sem.run_bind, run_program, Result.andThen_ok] at hr
    split at hr
    · simp only [Sem.run_pure, Result.andThen_ok] at hr
      split at hr <;> (cases hr; rfl)
    · cases hr
  obtain ⟨r, hr, hw⟩ := hi
  rw [hr] at h
  cases r with
  | halt hh w3 => cases h
  | ok b w3 =>
    have := hw b w3 rfl
    subst this
    simp only [Result.andThen_ok] at h
    cases b with
    | true =>
      simp only [if_true, Sem.run_bind] at h
      cases hs : (sizeOf t).run P w3 with
      | halt hh w4 => rw [hs] at h; cases h
      | ok n w4 =>
        rw [hs] at h
        have hw4 : w4 = w3 := by
          simp only [sizeOf, typeInfo, Sem.run_bind, run_program, Result.andThen_ok] at hs
          split at hs
          · simp only [Sem.run_pure, Result.andThen_ok] at hs; cases hs; rfl
          · cases hs
        subst hw4
        simp only [Result.andThen_ok] at h
        cases hc : (loadCells a n).run P w4 with
        | halt hh w5 => rw [hc] at h; cases h
        | ok cs w5 =>
          rw [hc] at h
          simp only [Result.andThen_ok, Sem.run_pure] at h
          cases h
          exact loadCells_world n 0 _ _ _ _ hc
    | false =>
      simp only [Bool.false_eq_true, if_false] at h
      exact load_world h

theorem loadVar_run {E : Env} {w : World} {t : TypeId} {h : Hint} {nm off b : Nat} {c : Cap} {ob : AObj} {r : Res} (hb : E nm = some (b, c)) (hob : ObjR E w b c ob) (hr : loadA P h t off ob = some r) (k : AllP r.obl) :
    ∃ x, (loadVar t ⟨b, off, none⟩).run P w = .ok x w ∧ den E r.val = some x := by
  have hd : den E (.ptr nm off) = some (.pointer (some ⟨b, off, none⟩)) := by simp [den, hb]
  have hg := good_load' (P := P) (w := w) (o := ⟨none, .load t (.const (.pointer (some ⟨b, off, none⟩))), 0, "", #[], none⟩) (ρ := fun _ => .pointer (some ⟨b, off, none⟩)) rfl hd ⟨b, c, hb, hob⟩ hr k
  obtain ⟨x, w', E', hrun, hx, he⟩ := hg
  simp only [execOp, Instr.loadAt, Instr.sureAddr, Sem.run_bind, Sem.run_pure, Result.andThen_ok] at hrun
  have hE : E' = E := by funext n; exact he.only n (by simp)
  subst hE
  generalize hl : (loadVar t ⟨b, off, none⟩).run P w = lr at hrun
  cases lr with
  | ok v w2 =>
    simp only [Result.andThen_ok, Sem.run_pure] at hrun
    rcases hrun with hrun | ⟨hrun, _⟩
    · cases hrun
      have hw2 := loadVar_world hl
      subst hw2
      exact ⟨_, rfl, hx⟩
    · cases hrun
  | halt hh w2 => rcases hrun with hrun | ⟨hrun, _⟩ <;> cases hrun

end Go.Proofs.YtpdhfopfjoinnaaDoor.Sx
