/- The symbolic executor, part M: contracts of functions, and one step of a region on a state. -/
import Derived.Test.YtpdhfopfjoinnaaDoorSxL
set_option linter.unusedSimpArgs false
set_option linter.unusedVariables false
namespace Go.Proofs.YtpdhfopfjoinnaaDoor.Sx
open Go

variable {P : Program} {E : Env} {w : World}

mutual
def AV.ren (r : List Nat) : AV → AV
  | .ptr nm off => match r[nm]? with | some m => .ptr m off | none => .bad
  | .slice nm off l c => match r[nm]? with | some m => .slice m off l c | none => .bad
  | .vec nm l => match r[nm]? with | some m => .vec m l | none => .bad
  | .dsl nm l => match r[nm]? with | some m => .dsl m l | none => .bad
  | .dptr nm l => match r[nm]? with | some m => .dptr m l | none => .bad
  | .agg cs => .agg (renL r cs)
  | .tuple cs => .tuple (renL r cs)
  | .func f as cs => .func f (renL r as) (renL r cs)
  | .iface t v => .iface t (v.ren r)
  | .bool b => .bool b
  | .int k n => .int k n
  | .str s => .str s
  | .nilptr => .nilptr
  | .nilslice => .nilslice
  | .gptr g off => .gptr g off
  | .nilfunc => .nilfunc
  | .niliface => .niliface
  | .bad => .bad
def renL (r : List Nat) : List AV → List AV
  | [] => []
  | v :: vs => v.ren r :: renL r vs
end

def AObj.ren (r : List Nat) : AObj → AObj
  | .cells cs t => .cells (renL r cs) t
  | .vec cs t sz => .vec (renL r cs) t sz
  | .ro off cs => .ro off (renL r cs)
  | .flat m cs => .flat m (renL r cs)
  | .iter s p => .iter s p
  | .dead => .dead

mutual
theorem ren_den {r : List Nat} {A B : Env} (h : ∀ i m p, r[i]? = some m → A m = some p → B i = some p) : ∀ (v : AV) (x : Value), den A (v.ren r) = some x → den B v = some x
  | .ptr nm off, x, e => by
    simp only [AV.ren] at e
    split at e
    · rename_i m hm; obtain ⟨b, c, hb, rfl⟩ := ptr_den e; simp [den, h _ _ _ hm hb]
    · simp [den] at e
  | .slice nm off l c, x, e => by
    simp only [AV.ren] at e
    split at e
    · rename_i m hm; obtain ⟨b, c, hb, rfl⟩ := slice_den e; simp [den, h _ _ _ hm hb]
    · simp [den] at e
  | .vec nm l, x, e => by
    simp only [AV.ren] at e
    split at e
    · rename_i m hm
      have e' := e
      obtain ⟨b, c, hb, _⟩ := vec_den e
      simp only [den, h _ _ _ hm hb, hb] at e' ⊢; exact e'
    · simp [den] at e
  | .dsl nm l, x, e => by
    simp only [AV.ren] at e
    split at e
    · rename_i m hm
      have e' := e
      obtain ⟨b, c, hb, _⟩ := dsl_den e
      simp only [den, h _ _ _ hm hb, hb] at e' ⊢; exact e'
    · simp [den] at e
  | .dptr nm l, x, e => by
    simp only [AV.ren] at e
    split at e
    · rename_i m hm
      have e' := e
      obtain ⟨b, c, hb, _⟩ := dptr_den e
      simp only [den, h _ _ _ hm hb, hb] at e' ⊢; exact e'
    · simp [den] at e
  | .agg cs, x, e => by
    simp only [AV.ren] at e
    obtain ⟨xs, hx, rfl⟩ := denC_agg.1 e
    exact denC_agg.2 ⟨xs, ⟨renL_den h cs xs hx.1, hx.2⟩, rfl⟩
  | .tuple cs, x, e => by
    simp only [AV.ren, den, Option.map_eq_some_iff] at e ⊢
    obtain ⟨xs, hx, rfl⟩ := e; exact ⟨xs, renL_den h cs xs hx, rfl⟩
  | .func f as cs, x, e => by
    simp only [AV.ren, den] at e ⊢
    split at e
    · rename_i ys zs hy hz; rw [renL_den h as ys hy, renL_den h cs zs hz]; exact e
    · cases e
  | .iface t v, x, e => by
    simp only [AV.ren, den, Option.map_eq_some_iff] at e ⊢
    obtain ⟨y, hy, rfl⟩ := e; exact ⟨y, ren_den h v y hy, rfl⟩
  | .bool b, x, e => e
  | .int k n, x, e => e
  | .str s, x, e => e
  | .nilptr, x, e => e
  | .nilslice, x, e => e
  | .gptr g off, x, e => e
  | .nilfunc, x, e => e
  | .niliface, x, e => e
  | .bad, x, e => e
theorem renL_den {r : List Nat} {A B : Env} (h : ∀ i m p, r[i]? = some m → A m = some p → B i = some p) : ∀ (vs : List AV) (xs : List Value), denL A (renL r vs) = some xs → denL B vs = some xs
  | [], xs, e => e
  | v :: vs, xs, e => by
    simp only [renL] at e
    obtain ⟨x, ys, hx, hy, rfl⟩ := denL_cons.1 e
    exact denL_cons.2 ⟨x, ys, ren_den h v x hx, renL_den h vs ys hy, rfl⟩
end

mutual
theorem den_ren {r : List Nat} {A B : Env} (h : ∀ i p, B i = some p → ∃ m, r[i]? = some m ∧ A m = some p) : ∀ (v : AV) (x : Value), den B v = some x → den A (v.ren r) = some x
  | .ptr nm off, x, e => by
    obtain ⟨b, c, hb, rfl⟩ := ptr_den e
    obtain ⟨m, hm, ha⟩ := h _ _ hb
    simp [AV.ren, hm, den, ha]
  | .slice nm off l c, x, e => by
    obtain ⟨b, c, hb, rfl⟩ := slice_den e
    obtain ⟨m, hm, ha⟩ := h _ _ hb
    simp [AV.ren, hm, den, ha]
  | .vec nm l, x, e => by
    have e' := e
    obtain ⟨b, c, hb, _⟩ := vec_den e
    obtain ⟨m, hm, ha⟩ := h _ _ hb
    simp only [AV.ren, hm, den, ha, hb] at e' ⊢; exact e'
  | .dsl nm l, x, e => by
    have e' := e
    obtain ⟨b, c, hb, _⟩ := dsl_den e
    obtain ⟨m, hm, ha⟩ := h _ _ hb
    simp only [AV.ren, hm, den, ha, hb] at e' ⊢; exact e'
  | .dptr nm l, x, e => by
    have e' := e
    obtain ⟨b, c, hb, _⟩ := dptr_den e
    obtain ⟨m, hm, ha⟩ := h _ _ hb
    simp only [AV.ren, hm, den, ha, hb] at e' ⊢; exact e'
  | .agg cs, x, e => by
    obtain ⟨xs, hx, rfl⟩ := denC_agg.1 e
    simp only [AV.ren]
    exact denC_agg.2 ⟨xs, ⟨denL_ren h cs xs hx.1, hx.2⟩, rfl⟩
  | .tuple cs, x, e => by
    simp only [AV.ren, den, Option.map_eq_some_iff] at e ⊢
    obtain ⟨xs, hx, rfl⟩ := e; exact ⟨xs, denL_ren h cs xs hx, rfl⟩
  | .func f as cs, x, e => by
    simp only [AV.ren, den] at e ⊢
    split at e
    · rename_i ys zs hy hz; rw [denL_ren h as ys hy, denL_ren h cs zs hz]; exact e
    · cases e
  | .iface t v, x, e => by
    simp only [AV.ren, den, Option.map_eq_some_iff] at e ⊢
    obtain ⟨y, hy, rfl⟩ := e; exact ⟨y, den_ren h v y hy, rfl⟩
  | .bool b, x, e => e
  | .int k n, x, e => e
  | .str s, x, e => e
  | .nilptr, x, e => e
  | .nilslice, x, e => e
  | .gptr g off, x, e => e
  | .nilfunc, x, e => e
  | .niliface, x, e => e
  | .bad, x, e => e
theorem denL_ren {r : List Nat} {A B : Env} (h : ∀ i p, B i = some p → ∃ m, r[i]? = some m ∧ A m = some p) : ∀ (vs : List AV) (xs : List Value), denL B vs = some xs → denL A (renL r vs) = some xs
  | [], xs, e => e
  | v :: vs, xs, e => by
    obtain ⟨x, ys, hx, hy, rfl⟩ := denL_cons.1 e
    simp only [renL]
    exact denL_cons.2 ⟨x, ys, den_ren h v x hx, denL_ren h vs ys hy, rfl⟩
end

theorem ObjR.unren {r : List Nat} {A B : Env} (h : ∀ i m p, r[i]? = some m → A m = some p → B i = some p) {b : Nat} {c : Cap} {o : AObj} (k : ObjR A w b c (o.ren r)) : ObjR B w b c o := by
  cases o with
  | cells cs t => obtain ⟨xs, hx, hw⟩ := k; exact ⟨xs, ⟨renL_den h _ _ hx.1, hx.2⟩, hw⟩
  | vec cs t sz => obtain ⟨xs, ys, hx, hw⟩ := k; exact ⟨xs, ys, ⟨renL_den h _ _ hx.1, hx.2⟩, hw⟩
  | ro off cs => obtain ⟨xs, hx, hw⟩ := k; exact ⟨xs, ⟨renL_den h _ _ hx.1, hx.2⟩, hw⟩
  | flat m cs =>
    obtain ⟨xs, hx, hz, hw⟩ := k
    exact ⟨xs, ⟨renL_den h _ _ hx.1, hx.2⟩, fun e => by have := hz e; cases cs with | nil => rfl | cons a l => simp [renL] at this, hw⟩
  | iter s p => exact k
  | dead => trivial

theorem ObjR.ren {r : List Nat} {A B : Env} (h : ∀ i p, B i = some p → ∃ m, r[i]? = some m ∧ A m = some p) {b : Nat} {c : Cap} {o : AObj} (k : ObjR B w b c o) : ObjR A w b c (o.ren r) := by
  cases o with
  | cells cs t => obtain ⟨xs, hx, hw⟩ := k; exact ⟨xs, ⟨denL_ren h _ _ hx.1, hx.2⟩, hw⟩
  | vec cs t sz => obtain ⟨xs, ys, hx, hw⟩ := k; exact ⟨xs, ys, ⟨denL_ren h _ _ hx.1, hx.2⟩, hw⟩
  | ro off cs => obtain ⟨xs, hx, hw⟩ := k; exact ⟨xs, ⟨denL_ren h _ _ hx.1, hx.2⟩, hw⟩
  | flat m cs => obtain ⟨xs, hx, hz, hw⟩ := k; exact ⟨xs, ⟨denL_ren h _ _ hx.1, hx.2⟩, fun e => by rw [hz e]; rfl, hw⟩
  | iter s p => exact k
  | dead => trivial

theorem AObj.ren_owned (r : List Nat) (o : AObj) : (o.ren r).owned = o.owned := by cases o <;> rfl
theorem touches_ren {b k : Nat} {c : Cap} {r : List Nat} {o : AObj} (h : touches b c (o.ren r) k) : touches b c o k := by cases o <;> exact h
theorem touches_ren' {b k : Nat} {c : Cap} {r : List Nat} {o : AObj} (h : touches b c o k) : touches b c (o.ren r) k := by cases o <;> exact h
theorem AObj.ren_mine (r : List Nat) (o : AObj) : (o.ren r).mine = o.mine := by cases o <;> rfl
theorem AObj.ren_live (r : List Nat) (o : AObj) : (o.ren r).live = o.live := by cases o <;> rfl

/-- What is known of a block as 'a' may be told as 'b'. -/
def Fits (a b : AObj) : Prop := ∀ (E : Env) (w : World) (k : Nat) (c : Cap), ObjR E w k c a → ObjR E w k c b
theorem Fits.refl (a : AObj) : Fits a a := fun _ _ _ _ h => h
theorem Fits.of_eq {a b : AObj} (h : a = b) : Fits a b := h ▸ Fits.refl a

/-- Cells of a block, read alone. -/
theorem Fits.ro {a : AObj} {o0 off : Nat} {cs us : List AV} (hk : a.known = some (o0, cs)) (hl : a.live = true) (h0 : o0 ≤ off) (hu : (cs.drop (off - o0)).take us.length = us) : Fits a (.ro off us) := by
  intro E w k c h
  obtain ⟨xs, hx, hw⟩ := h.window hk
  refine ⟨(xs.drop (off - o0)).take us.length, ?_, window_slice hw h0, h.lt hl (by cases a <;> first | rfl | (simp [AObj.known] at hk))⟩
  have := denC_take (denC_drop hx (off - o0)) us.length
  rwa [hu] at this

structure PreR (E : Env) (w : World) (pre : List AObj) : Prop where
  objs : ∀ (n : Nat) (o : AObj), pre[n]? = some o → ∃ b c, E n = some (b, c) ∧ ObjR E w b c o
  fresh : ∀ n, pre.length ≤ n → E n = none
  apart : ∀ (n m : Nat) (o o' : AObj) (b : Nat) (c : Cap) (b' : Nat) (c' : Cap), pre[n]? = some o → pre[m]? = some o' → o.owned = true → o'.live = true → E n = some (b, c) → E m = some (b', c') → n ≠ m → ¬ touches b' c' o' b
  glob : GlobOK w (fun k => ∃ (n : Nat) (o : AObj) (c : Cap), pre[n]? = some o ∧ o.owned = true ∧ E n = some (k, c))

structure PostR (E E' : Env) (w w' : World) (pre post : List AObj) : Prop where
  le : Env.le E E'
  cut : ∀ n, post.length ≤ n → E' n = none
  objs : ∀ (n : Nat) (o : AObj), post[n]? = some o → ∃ b c, E' n = some (b, c) ∧ ObjR E' w' b c o
  made : ∀ (n b : Nat) (c : Cap) (o : AObj), pre.length ≤ n → post[n]? = some o → E' n = some (b, c) → touches b c o b → w.heap.size ≤ b ∨ ∃ (j : Nat) (c' : Cap) (o : AObj), pre[j]? = some o ∧ o.owned = true ∧ post[j]? = some AObj.dead ∧ E j = some (b, c')
  keep : ∀ k : Nat, k < w.heap.size → (∀ (n : Nat) (o : AObj) (c : Cap), pre[n]? = some o → o.owned = true → E n ≠ some (k, c)) → w'.heap[k]? = w.heap[k]?
  newApart : ∀ (n m : Nat) (o o' : AObj) (b : Nat) (c : Cap) (b' : Nat) (c' : Cap), pre.length ≤ n → pre.length ≤ m → post[n]? = some o → post[m]? = some o' → o.owned = true → o'.live = true → E' n = some (b, c) → E' m = some (b', c') → n ≠ m → ¬ touches b' c' o' b
  grow : w.heap.size ≤ w'.heap.size
  os : w'.os = w.os
  tape : w'.tape = w.tape
  output : w'.output = w.output

/-- A call of function f, entered, or answered at once (a function without a body of Go). -/
def Does (P : Program) (f : FuncId) (args : Array Value) (w : World) (R : Ending → World → Prop) : Prop :=
  (∃ g as, (callFunc f args).run P w = .ok (.enter g as) w ∧ Calls P g as w R) ∨ (∃ v w', (callFunc f args).run P w = .ok (.value v) w' ∧ R (.returned v) w')

theorem Does.mono {f : FuncId} {args : Array Value} {R R' : Ending → World → Prop} (h : Does P f args w R) (hr : ∀ e w', R e w' → R' e w') : Does P f args w R' := by
  rcases h with ⟨g, as, h1, h2⟩ | ⟨v, w', h1, h2⟩
  · exact .inl ⟨g, as, h1, h2.mono hr⟩
  · exact .inr ⟨v, w', h1, hr _ _ h2⟩

/-- THE CONTRACT of function f: called with these values, in a world whose blocks are as 'pre' says, it returns 'res', and the blocks are as 'post' says (which has new ones behind those of 'pre'). -/
def Meets (P : Program) (f : FuncId) (args : List AV) (pre : List AObj) (res : AV) (post : List AObj) : Prop :=
  ∀ (w : World) (E : Env) (xs : List Value), denL E args = some xs → PreR E w pre →
    Does P f xs.toArray w fun e w' => ∃ E' x, e = .returned x ∧ den E' res = some x ∧ PostR E E' w w' pre post

/-- What a call leaves of the blocks that it was handed. -/
def updOf (r : List Nat) : List AObj → List AObj → List AObj → List AObj
  | c :: cs, p :: pre, q :: post => (if p.owned then q.ren r else c) :: updOf r cs pre post
  | _, _, _ => []

def fitsOf (r : List Nat) : List AObj → List AObj → List Prop
  | c :: cs, p :: pre => Fits c (p.ren r) :: fitsOf r cs pre
  | _, _ => []

def callA (h : Hint) (P : Program) (o : Op) (vals : List AV) (cs : List AObj) : Option Res :=
  match o, vals, h.call with
  | .call c, .func f first caps :: args, some k =>
    match c.callee with
    | .value _ =>
      if k.ren.length == k.post.length && k.pre.length ≤ k.post.length && cs.length == k.pre.length && (k.pre.zip cs).all (fun p => (!p.1.owned || p.2.owned) && (!p.2.isFlat || p.1.isFlat)) && cs.all (·.live) then
        let obl := (first ++ args ++ caps = renL k.ren k.args) :: Meets P f k.args k.pre k.res k.post :: fitsOf k.ren cs k.pre
        let upd := updOf k.ren cs k.pre k.post
        let new := (k.post.drop k.pre.length).map (·.ren k.ren)
        match h.val, h.obj with
        | some v, some os => some ⟨obl ++ [k.res.ren k.ren = v, upd ++ new = os], v, os.take upd.length, os.drop upd.length⟩
        | some v, none => some ⟨obl ++ [k.res.ren k.ren = v], v, upd, new⟩
        | none, some os => some ⟨obl ++ [upd ++ new = os], k.res.ren k.ren, os.take upd.length, os.drop upd.length⟩
        | none, none => some ⟨obl, k.res.ren k.ren, upd, new⟩
      else none
    | _ => none
  | _, _, _ => none

theorem callA_cases {h : Hint} {o : Op} {vals : List AV} {cs : List AObj} {r : Res} (e : callA h P o vals cs = some r) (k : AllP r.obl) :
    ∃ c f first caps args k, o = .call c ∧ vals = .func f first caps :: args ∧ h.call = some k ∧ (∃ x, c.callee = .value x) ∧ k.ren.length = k.post.length ∧ k.pre.length ≤ k.post.length ∧ cs.length = k.pre.length ∧
      ((k.pre.zip cs).all (fun p => (!p.1.owned || p.2.owned) && (!p.2.isFlat || p.1.isFlat))) = true ∧ (cs.all (·.live)) = true ∧ first ++ args ++ caps = renL k.ren k.args ∧ Meets P f k.args k.pre k.res k.post ∧ AllP (fitsOf k.ren cs k.pre) ∧ r.val = k.res.ren k.ren ∧ r.upd = updOf k.ren cs k.pre k.post ∧ r.new = (k.post.drop k.pre.length).map (·.ren k.ren) := by
  unfold callA at e
  split at e
  · rename_i c f first caps args kk hk
    split at e
    · rename_i x hx
      split at e
      · rename_i hc
        simp only [Bool.and_eq_true, beq_iff_eq, decide_eq_true_eq] at hc
        obtain ⟨⟨⟨⟨c1, c2⟩, c3⟩, c4⟩, c5⟩ := hc
        simp only at e
        have fin : ∀ {a b : List AObj}, (a ++ b).take a.length = a ∧ (a ++ b).drop a.length = b := fun {a b} => ⟨List.take_left, List.drop_left⟩
        split at e
        · rename_i v os hv hos
          cases e
          obtain ⟨k1, k2⟩ := allP_append.1 k
          obtain ⟨k1, k3, k4⟩ := k1
          obtain ⟨k5, k6, _⟩ := k2
          have k5 : kk.res.ren kk.ren = v := k5
          have k6 : updOf kk.ren cs kk.pre kk.post ++ List.map (fun x => x.ren kk.ren) (kk.post.drop kk.pre.length) = os := k6
          exact ⟨c, f, first, caps, args, kk, rfl, rfl, hk, ⟨x, hx⟩, c1, c2, c3, c4, c5, k1, k3, k4, k5.symm, by rw [← k6]; exact fin.1, by rw [← k6]; exact fin.2⟩
        · rename_i v hv hos
          cases e
          obtain ⟨k1, k2⟩ := allP_append.1 k
          obtain ⟨k1, k3, k4⟩ := k1
          obtain ⟨k5, _⟩ := k2
          have k5 : kk.res.ren kk.ren = v := k5
          exact ⟨c, f, first, caps, args, kk, rfl, rfl, hk, ⟨x, hx⟩, c1, c2, c3, c4, c5, k1, k3, k4, k5.symm, rfl, rfl⟩
        · rename_i os hv hos
          cases e
          obtain ⟨k1, k2⟩ := allP_append.1 k
          obtain ⟨k1, k3, k4⟩ := k1
          obtain ⟨k6, _⟩ := k2
          have k6 : updOf kk.ren cs kk.pre kk.post ++ List.map (fun x => x.ren kk.ren) (kk.post.drop kk.pre.length) = os := k6
          exact ⟨c, f, first, caps, args, kk, rfl, rfl, hk, ⟨x, hx⟩, c1, c2, c3, c4, c5, k1, k3, k4, rfl, by rw [← k6]; exact fin.1, by rw [← k6]; exact fin.2⟩
        · cases e
          obtain ⟨k1, k3, k4⟩ := k
          exact ⟨c, f, first, caps, args, kk, rfl, rfl, hk, ⟨x, hx⟩, c1, c2, c3, c4, c5, k1, k3, k4, rfl, rfl, rfl⟩
      · cases e
    · cases e
  · cases e

end Go.Proofs.YtpdhfopfjoinnaaDoor.Sx
