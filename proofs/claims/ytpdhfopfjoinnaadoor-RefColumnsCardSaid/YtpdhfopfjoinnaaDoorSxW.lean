/- Shorter words for runs: a run's claims told by their proofs, no state of its end spelled out. -/
import Derived.Test.YtpdhfopfjoinnaaDoorSxV
set_option linter.unusedVariables false
set_option linter.unusedSimpArgs false
namespace Go.Proofs.YtpdhfopfjoinnaaDoor.Sx
open Go

abbrev jI (n : Int) : AV := .int .i64 n
abbrev jU (n : Int) : AV := .int .u8 n
abbrev jB (b : Bool) : AV := .bool b
abbrev jA (cs : List AV) : AV := .agg cs
abbrev jT (cs : List AV) : AV := .tuple cs
abbrev jS (s : List UInt8) : AV := .str s
abbrev jP (n o : Nat) : AV := .ptr n o
abbrev jC (cs : List AV) (t : Nat) : AObj := .cells cs t
abbrev sI (n : Int) : Option AV := some (.int .i64 n)
abbrev sP (n o : Nat) : Option AV := some (.ptr n o)
abbrev sB (b : Bool) : Option AV := some (.bool b)

abbrev hhV (i : Nat) (v : AV) : Nat × Hint := (i, {val := some v})
abbrev hhB (i : Nat) (b : Bool) : Nat × Hint := (i, {val := some (.bool b)})
abbrev hhI (i : Nat) (n : Int) : Nat × Hint := (i, {val := some (.int .i64 n)})
abbrev hhN (i n : Nat) : Nat × Hint := (i, {nm := [n]})
abbrev hhK (i : Nat) (args : List AV) (res : AV) : Nat × Hint := (i, {call := some ⟨[], args, [], res, []⟩})
abbrev hhM (i : Nat) {P : Program} {f : FuncId} {args : List AV} {res : AV} (h : Meets P f args [] res []) : Nat × Hint := (i, {call := some ⟨[], args, [], res, []⟩})
abbrev hhMB (i : Nat) {P : Program} {f : FuncId} {args : List AV} {res : AV} (h : Meets P f args [] res []) (b : Bool) : Nat × Hint := (i, {call := some ⟨[], args, [], res, []⟩, val := some (.bool b)})
abbrev rG (hs : List (Nat × Hint)) : Orc := .reg hs

theorem oA {a b : List Prop} (h : AllP a) (k : AllP b) : AllP (a ++ b) := allP_append.2 ⟨h, k⟩
theorem oS {p : Prop} (h : p) : AllP [p] := ⟨h, trivial⟩
theorem oN : AllP [] := trivial
/-- Each is itself. -/
theorem oR : ∀ vs : List AV, AllP (vs.map fun v => v = v)
  | [] => trivial
  | _ :: vs => ⟨rfl, oR vs⟩
theorem oQ : ∀ vs : List AObj, AllP (vs.map fun v => v = v)
  | [] => trivial
  | _ :: vs => ⟨rfl, oQ vs⟩
theorem oLw (cs : List AV) {n : Nat} (h : cs.length = n) : AllP [0 ≤ 0, 0 - 0 + n ≤ cs.length, List.take n (List.drop (0 - 0) cs) = cs] :=
  ⟨Nat.le_refl _, by omega, by simp [← h], trivial⟩
theorem oLp (cs : List AV) (off n : Nat) (vs : List AV) (h : Nat.ble (off - 0 + n) cs.length = true) (h2 : List.take n (List.drop (off - 0) cs) = vs) : AllP [0 ≤ off, off - 0 + n ≤ cs.length, List.take n (List.drop (off - 0) cs) = vs] :=
  ⟨Nat.zero_le _, Nat.le_of_ble_eq_true h, h2, trivial⟩
theorem oLf (cs : List AV) (off : Nat) (v : AV) (h : cs[off - 0]? = some v) : AllP [0 ≤ off, cs[off - 0]? = some v] :=
  ⟨Nat.zero_le _, h, trivial⟩
theorem oSw (vc cs : List AV) (t : Nat) {n : Nat} (h : vc.length = n) (k : cs.length = n) : AllP [vc.length = n, 0 + n ≤ cs.length, AObj.cells (List.take 0 cs ++ vc ++ List.drop (0 + n) cs) t = AObj.cells vc t] :=
  ⟨h, by omega, by rw [show 0 + n = cs.length by omega, List.drop_length]; simp, trivial⟩
theorem oSf (vc cs : List AV) (off n t : Nat) (us : List AV) (h : vc.length = n) (k : Nat.ble (off + n) cs.length = true) (e : List.take off cs ++ vc ++ List.drop (off + n) cs = us) : AllP [vc.length = n, off + n ≤ cs.length, AObj.cells (List.take off cs ++ vc ++ List.drop (off + n) cs) t = AObj.cells us t] :=
  ⟨h, Nat.le_of_ble_eq_true k, by rw [e], trivial⟩
theorem oC {P : Program} {f : FuncId} {args : List AV} {res : AV} (h : Meets P f args [] res []) (e : args = renL [] args) : AllP [args = renL [] args, Meets P f args [] res []] := ⟨e, h, trivial⟩
theorem oW (n z : Int) (h : n = z ∧ -9223372036854775808 ≤ z ∧ z < 9223372036854775808) : AllP [AV.int .i64 (IntKind.i64.wrap n) = AV.int .i64 z] := ⟨wI h, trivial⟩
theorem oWs (z : Int) (h : -9223372036854775808 ≤ z ∧ z < 9223372036854775808) : AllP [AV.int .i64 (IntKind.i64.wrap z) = AV.int .i64 z] := ⟨wI ⟨rfl, h⟩, trivial⟩

/-- No place in memory is in it. -/
def pureV : AV → Bool
  | .bool _ => true
  | .int _ _ => true
  | .str _ => true
  | .nilptr => true
  | .nilslice => true
  | .nilfunc => true
  | .niliface => true
  | .agg cs => pureL cs
  | .tuple cs => pureL cs
  | _ => false
where pureL : List AV → Bool
  | [] => true
  | c :: cs => pureV c && pureL cs

mutual
theorem pureV_avoid (D : Nat → Bool) : ∀ (v : AV), pureV v = true → Avoid D v
  | .bool _, _ => Avoid.bool _ _
  | .int _ _, _ => Avoid.int _ _ _
  | .str _, _ => Avoid.str _ _
  | .nilptr, _ => Avoid.nilptr _
  | .nilslice, _ => Avoid.nilslice _
  | .nilfunc, _ => Avoid.nilfunc _
  | .niliface, _ => Avoid.niliface _
  | .agg cs, h => Avoid.agg (pureL_avoid D cs h)
  | .tuple cs, h => Avoid.tuple (pureL_avoid D cs h)
  | .ptr _ _, h => by simp [pureV] at h
  | .slice _ _ _ _, h => by simp [pureV] at h
  | .vec _ _, h => by simp [pureV] at h
  | .dsl _ _, h => by simp [pureV] at h
  | .dptr _ _, h => by simp [pureV] at h
  | .func _ _ _, h => by simp [pureV] at h
  | .iface _ _, h => by simp [pureV] at h
  | .bad, h => by simp [pureV] at h
theorem pureL_avoid (D : Nat → Bool) : ∀ (vs : List AV), pureV.pureL vs = true → AvoidL D vs
  | [], _ => AvoidL.nil _
  | v :: vs, h => by
    simp only [pureV.pureL, Bool.and_eq_true] at h
    exact AvoidL.cons (pureV_avoid D v h.1) (pureL_avoid D vs h.2)
end
theorem oV {D : Nat → Bool} (v : AV) (h : pureV v = true) : AllP [Avoid D v] := ⟨pureV_avoid D v h, trivial⟩

/-! ### runs -/
def runM (P : Program) (fn : Func) (args : List AV) (pre : List AObj) (k : Nat) (q : List Orc) (hs : List Hint) (res : AV) (post : List AObj) : Option (List Prop × List Prop) :=
  match exec P pre.length (bodyOf fn) q (start fn.ntmps args pre k) with
  | some r => match r.ex with
    | .exit _ => none
    | _ => if (pre.zip post).all (fun p => !p.1.owned || p.2.owned || !p.2.live) then (finA P fn.results.toList hs r.st pre.length res post).map fun o => (r.obl, o) else none
  | none => none
theorem meets_run {P : Program} {f : FuncId} {fn : Func} {args : List AV} {pre post : List AObj} {res : AV} (k : Nat) (q : List Orc) (hs : List Hint) {L ob : List Prop} (hf : P.funcs[f]? = some fn) (hb : fn.body.isSome = true)
    (hent : ∀ args w, (callFunc f args).run P w = .ok (.enter f args) w) (h1 : AllP L) (h2 : AllP ob) (he : runM P fn args pre k q hs res post = some (L, ob)) : Meets P f args pre res post := by
  unfold runM at he
  split at he
  · rename_i r hr
    have key : r.ex = .ret ∨ r.ex = .normal → (if (pre.zip post).all (fun p => !p.1.owned || p.2.owned || !p.2.live) then (finA P fn.results.toList hs r.st pre.length res post).map (fun o => (r.obl, o)) else none) = some (L, ob) → Meets P f args pre res post := by
      intro hex he
      split at he
      case isFalse => cases he
      rename_i hpq
      rw [Option.map_eq_some_iff] at he
      obtain ⟨o, ho, e⟩ := he
      simp only [Prod.mk.injEq] at e
      obtain ⟨rfl, rfl⟩ := e
      exact meets_of_exec k q hs hf hb hent hr h1 hex ho h2 hpq
    cases hex : r.ex with
    | normal => rw [hex] at he; exact key (.inr hex) he
    | ret => rw [hex] at he; exact key (.inl hex) he
    | exit i => rw [hex] at he; cases he
  · cases he

def exB : Ex → Ex → Bool
  | .normal, .normal => true
  | .ret, .ret => true
  | .exit a, .exit b => a == b
  | _, _ => false
theorem exB_eq {a b : Ex} (h : exB a b = true) : a = b := by
  cases a <;> cases b <;> first | rfl | (simp [exB] at h; try rw [h])
def runT (P : Program) (K : Nat) (c : Code) (q : List Orc) (s : AState) (ex : Ex) (tgt : AState → Option (List Prop)) : Option (List Prop × List Prop) :=
  match exec P K c q s with
  | some r => if exB r.ex ex then (tgt r.st).map fun o => (r.obl, o) else none
  | none => none
theorem runT_some {P : Program} {K : Nat} {c : Code} {q : List Orc} {s : AState} {ex : Ex} {tgt : AState → Option (List Prop)} {L ob : List Prop} (he : runT P K c q s ex tgt = some (L, ob)) (h1 : AllP L) : ∃ st, Tri P c s ex st K ∧ tgt st = some ob := by
  unfold runT at he
  split at he
  · rename_i r hr
    split at he
    · rename_i hx
      rw [Option.map_eq_some_iff] at he
      obtain ⟨o, ho, e⟩ := he
      simp only [Prod.mk.injEq] at e
      obtain ⟨rfl, rfl⟩ := e
      exact ⟨r.st, exB_eq hx ▸ exec_sound _ _ _ _ hr h1, ho⟩
    · cases he
  · cases he
theorem tri_weak {P : Program} {K : Nat} {c : Code} {s t : AState} {ex : Ex} (q : List Orc) {L ob : List Prop} (h1 : AllP L) (h2 : AllP ob) (he : runT P K c q s ex (fun st => weakA st t) = some (L, ob)) : Tri P c s ex t K := by
  obtain ⟨st, h, k⟩ := runT_some he h1
  exact Tri.weak h k h2
theorem tri_next {P : Program} {K : Nat} {c : Code} {s t : AState} {ex : Ex} (D : List Nat) (q : List Orc) {L ob : List Prop} (h1 : AllP L) (h2 : AllP ob) (he : runT P K c q s ex (fun st => dropA (fun n => D.contains n) st t) = some (L, ob)) (hD : (D.all (freshB s.mem)) = true) : Tri P c s ex t K := by
  obtain ⟨st, h, k⟩ := runT_some he h1
  exact Tri.next (D := fun n => D.contains n) h k h2 (dropOK D hD)
theorem tri_ren {P : Program} {K : Nat} {c : Code} {s t : AState} {ex : Ex} (r : List Nat) (q : List Orc) {L ob : List Prop} (h1 : AllP L) (h2 : AllP ob) (he : runT P K c q s ex (fun st => renA r K st t) = some (L, ob)) : Tri P c s ex t K := by
  obtain ⟨st, h, k⟩ := runT_some he h1
  exact Tri.ren r h k h2

end Go.Proofs.YtpdhfopfjoinnaaDoor.Sx
