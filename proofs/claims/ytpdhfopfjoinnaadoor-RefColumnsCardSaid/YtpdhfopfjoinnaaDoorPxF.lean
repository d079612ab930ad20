/- The evaluator, part F: calls. -/
import Derived.Test.YtpdhfopfjoinnaaDoorPxE
set_option linter.unusedVariables false
set_option linter.unusedSimpArgs false
namespace Go.Proofs.YtpdhfopfjoinnaaDoor.Sx
open Go
variable {P : Program} {R : Type}

def AObj.ltN (n : Nat) (o : AObj) : Bool := o.names.all fun m => Nat.blt m n

theorem all_append_names {f : Nat → Bool} {a b : List Nat} : (a ++ b).all f = true ↔ a.all f = true ∧ b.all f = true := by simp [List.all_append]

mutual
theorem avoid_lt {D : Nat → Bool} : ∀ (v : AV), (v.names.all fun m => !D m) = true → Avoid D v
  | .bool b, _ => .bool _ _
  | .int k n, _ => .int _ _ _
  | .str s, _ => .str _ _
  | .nilptr, _ => .nilptr _
  | .nilslice, _ => .nilslice _
  | .nilfunc, _ => .nilfunc _
  | .niliface, _ => .niliface _
  | .gptr g off, _ => fun _ _ e => e
  | .bad, _ => fun _ _ e => by simp [den] at e
  | .ptr nm off, h => .ptr (by simpa [AV.names] using h)
  | .slice nm off l c, h => .slice (by simpa [AV.names] using h)
  | .vec nm l, h => .vec (by simpa [AV.names] using h)
  | .dsl nm l, h => .dsl (by simpa [AV.names] using h)
  | .dptr nm l, h => .dptr (by simpa [AV.names] using h)
  | .agg cs, h => .agg (avoidL_lt cs h)
  | .tuple cs, h => .tuple (avoidL_lt cs h)
  | .func f as cs, h => by
    obtain ⟨h1, h2⟩ := all_append_names.1 h
    intro E x e
    simp only [den] at e ⊢
    split at e
    · rename_i xs ys hx hy
      rw [avoidL_lt as h1 E xs hx, avoidL_lt cs h2 E ys hy]; exact e
    · cases e
  | .iface t v, h => by
    intro E x e
    simp only [den, Option.map_eq_some_iff] at e ⊢
    obtain ⟨y, hy, rfl⟩ := e
    exact ⟨y, avoid_lt v h E y hy, rfl⟩
theorem avoidL_lt {D : Nat → Bool} : ∀ (vs : List AV), ((namesL vs).all fun m => !D m) = true → AvoidL D vs
  | [], _ => .nil D
  | v :: vs, h => by
    obtain ⟨h1, h2⟩ := all_append_names.1 h
    exact .cons (avoid_lt v h1) (avoidL_lt vs h2)
end
theorem avoidO_lt {D : Nat → Bool} (o : AObj) (h : (o.names.all fun m => !D m) = true) : AvoidO D o := by
  cases o with
  | cells cs t => exact .cells (avoidL_lt _ h)
  | vec cs t sz => exact .vec (avoidL_lt _ h)
  | ro off cs => exact .ro (avoidL_lt _ h)
  | flat m cs => exact .flat (avoidL_lt _ h)
  | iter s p => exact .iter _ _ _
  | dead => exact .dead _

/-- The values of the results, and what must hold. -/
def resP (P : Program) (s : PState) : List ResultVar → Option (Bool × List AV)
  | [] => some (true, [])
  | .tmp t :: rs =>
    match (s.slots[t]?).join, resP P s rs with
    | some v, some (b, vs) => some (b, v :: vs)
    | _, _ => none
  | .cell a t :: rs =>
    match (s.slots[a]?).join with
    | some (.ptr nm off) =>
      match lookP s.mem nm with
      | some (.raw o) =>
        match loadA P {} t off o, o.known, P.underlying t, resP P s rs with
        | some r, some (o0, cs), some d, some (b, vs) => some (Nat.ble o0 off && (if isAggD d then Nat.ble (off - o0 + P.cellsOf t) cs.length else true) && b, r.val :: vs)
        | _, _, _, _ => none
      | _ => none
    | _ => none

theorem resP_sound {s : PState} : ∀ (rs : List ResultVar) (b : Bool) (vs : List AV), resP P s rs = some (b, vs) → b = true → ∃ ob, resA P s.toA rs [] = some (ob, vs) ∧ AllP ob
  | [], b, vs, h, _ => by simp [resP] at h; obtain ⟨_, rfl⟩ := h; exact ⟨[], rfl, trivial⟩
  | .tmp t :: rs, b, vs, h, hb => by
    simp only [resP] at h
    split at h
    · rename_i v b' vs' h1 h2
      cases h
      obtain ⟨ob, k1, k2⟩ := resP_sound rs _ _ h2 hb
      have h1 : (s.toA.slots[t]?).join = some v := h1
      exact ⟨ob, by simp only [resA, h1, List.tail_nil, k1], k2⟩
    · cases h
  | .cell a t :: rs, b, vs, h, hb => by
    simp only [resP] at h
    split at h
    · rename_i nm off h1
      split at h
      · rename_i o hl
        split at h
        · rename_i q o0 cs d b' vs' h3 h4 h5 h6
          cases h
          simp only [Bool.and_eq_true] at hb
          obtain ⟨ob, k1, k2⟩ := resP_sound rs b' vs' h6 hb.2
          have hm : s.toA.mem[nm]? = some (some o) := by
            simp only [lookP, Option.join_eq_some_iff] at hl
            simp only [PState.toA, memA_get, hl, Option.map_some, PObj.toA]
          have h1 : (s.toA.slots[a]?).join = some (.ptr nm off) := h1
          refine ⟨q.obl ++ ob, by simp only [resA, h1, hm, List.headD_nil, h3, List.tail_nil, k1], allP_append.2 ⟨?_, k2⟩⟩
          simp only [loadA, h4, h5] at h3
          obtain ⟨⟨b1, b2⟩, _⟩ := hb
          rw [bleT] at b1
          split at h3
          · rename_i hd
            rw [if_pos hd, bleT] at b2
            cases h3; exact ⟨b1, b2, trivial⟩
          · split at h3
            · cases h3; exact ⟨b1, trivial⟩
            · cases h3
        · cases h
      · cases h
    · cases h

def resSlots : List ResultVar → List Nat
  | [] => []
  | .tmp t :: rs => t :: resSlots rs
  | .cell a _ :: rs => a :: resSlots rs

/-- May the objects of a state be told behind the call? -/
def postB (npre n : Nat) : Nat → List PObj → Bool
  | _, [] => true
  | i, p :: ps => (match p.toA with
      | .dead => Nat.blt i npre
      | o => (Nat.blt i npre || o.mine) && o.ltN n) && postB npre n (i + 1) ps

def finB (npre : Nat) : List PObj → List PObj → Bool
  | p :: pre, q :: post => (!p.toA.owned || q.toA.owned || !q.toA.live) && finB npre pre post
  | _, _ => true

def unSome : List (Option PObj) → Option (List PObj)
  | some o :: m => (unSome m).map (o :: ·)
  | _ => some []

theorem sameO_refl (o : AObj) : sameO o o := by cases o <;> first | rfl | exact Fits.refl _

theorem postA_of {D : Nat → Bool} {npre n : Nat} {m : List (Option PObj)} (hD : ∀ i, Nat.blt i n = true → D i = false) : ∀ (ps : List PObj) (i : Nat), (∀ j p, ps[j]? = some p → m[i + j]? = some (some p)) → postB npre n i ps = true →
    ∃ ob, postA D (memA m) npre i (ps.map PObj.toA) = some ob ∧ AllP ob
  | [], i, _, _ => ⟨[], rfl, trivial⟩
  | p :: ps, i, hm, hb => by
    simp only [postB, Bool.and_eq_true] at hb
    obtain ⟨hb1, hb2⟩ := hb
    obtain ⟨ob, h1, h2⟩ := postA_of hD ps (i + 1) (fun j q hq => by have := hm (j + 1) q (by simpa using hq); rwa [show i + (j + 1) = i + 1 + j by omega] at this) hb2
    have h0 : (memA m)[i]? = some (some p.toA) := by
      have := hm 0 p rfl
      rw [Nat.add_zero] at this
      rw [memA_get, this]; rfl
    simp only [List.map_cons]
    by_cases hd : p.toA = .dead
    · rw [hd] at hb1 h0 ⊢
      simp only [bltT] at hb1
      exact ⟨ob, by simp only [postA, h0, if_pos hb1, h1], h2⟩
    · have hb1' : (Nat.blt i npre || p.toA.mine) = true ∧ p.toA.ltN n = true := by
        generalize p.toA = o at hb1 hd
        cases o <;> first | exact absurd rfl hd | simpa [Bool.and_eq_true] using hb1
      have hav : AvoidO D p.toA := avoidO_lt _ (by
        have := hb1'.2
        simp only [AObj.ltN] at this
        refine List.all_eq_true.2 fun x hx => ?_
        have := List.all_eq_true.1 this x hx
        simp [hD x this])
      have hc : (decide (i < npre) || p.toA.mine) = true := by
        have := hb1'.1
        simpa [bltT] using this
      have hob : AllP (avoidO D p.toA) := by
        generalize p.toA = o at hav hd
        cases o <;> first | exact absurd rfl hd | exact trivial | exact ⟨hav, trivial⟩
      refine ⟨sameO p.toA p.toA :: (avoidO D p.toA ++ ob), ?_, sameO_refl _, allP_append.2 ⟨hob, h2⟩⟩
      generalize p.toA = o at *
      cases o <;> first | exact absurd rfl hd | (simp only [postA, h0]; rw [if_pos (by simpa using hc), h1]; rfl)

/-- The end of a call: its results, and what is left of its objects. -/
def finP (P : Program) (fn : Func) (npre : Nat) (pre : List PObj) (k : AV → List PObj → Option R) (ex : Ex) (s : PState) : Option R :=
  match ex with
  | .exit _ => none
  | _ =>
    match resP P s fn.results.toList with
    | none => none
    | some (_, vs) =>
      let r1 := reach s.mem 1000 (List.range npre ++ namesL vs) []
      let keep := fun i => hasN (resSlots fn.results.toList) i
      match compact npre 0 (reach s.mem 1000 (r1 ++ slotNames keep 0 s.slots) []) keep s with
      | none => none
      | some t =>
        match resP P t fn.results.toList, unSome t.mem with
        | some (b, vs'), some os =>
          let post := os.take r1.length
          if Nat.ble npre post.length && postB npre post.length 0 post && finB npre pre post && ((one vs').names.all fun m => Nat.blt m post.length) then bcond b (forceV (one vs') fun v => forcePL post fun post => k v post) none else none
        | _, _ => none

theorem unSome_get : ∀ (m : List (Option PObj)) (os : List PObj), unSome m = some os → ∀ (j : Nat) (p : PObj), os[j]? = some p → m[j]? = some (some p)
  | [], os, h, j, p, hj => by simp [unSome] at h; subst h; simp at hj
  | none :: m, os, h, j, p, hj => by simp [unSome] at h; subst h; simp at hj
  | some o :: m, os, h, j, p, hj => by
    simp only [unSome, Option.map_eq_some_iff] at h
    obtain ⟨os', h', rfl⟩ := h
    cases j with
    | zero => simp at hj; subst hj; rfl
    | succ j => simpa using unSome_get m os' h' j p (by simpa using hj)

theorem finB_all : ∀ (pre post : List PObj) (n : Nat), finB n pre post = true → (((pre.map PObj.toA).zip (post.map PObj.toA)).all fun p => !p.1.owned || p.2.owned || !p.2.live) = true
  | [], _, _, _ => by simp
  | _ :: _, [], _, _ => by simp
  | p :: pre, q :: post, n, h => by
    simp only [finB, Bool.and_eq_true] at h
    simp only [List.map_cons, List.zip_cons_cons, List.all_cons, Bool.and_eq_true]
    exact ⟨h.1, finB_all pre post n h.2⟩

def PObj.lentP : PObj → PObj
  | .raw o => .raw o.lent
  | o => o
theorem lentP_toA (o : PObj) : o.lentP.toA = o.toA.lent := by cases o <;> rfl
def startP (ntmps : Nat) (args : List AV) (pre : List PObj) (NF : Nat) : PState :=
  ⟨args.map some ++ List.replicate (ntmps - args.length) none, pre.map (fun o => some o.lentP) ++ List.replicate NF none⟩
theorem startP_toA (ntmps : Nat) (args : List AV) (pre : List PObj) (NF : Nat) : (startP ntmps args pre NF).toA = start ntmps args (pre.map PObj.toA) NF := by
  simp only [startP, PState.toA, start, memA, List.map_append, List.map_map, List.map_replicate, Option.map_none]
  congr 2
  apply List.map_congr_left
  intro x _
  simp [lentP_toA]

theorem callFunc_enter {f : FuncId} {fn : Func} (hf : P.funcs[f]? = some fn) (hb : fn.body.isSome = true) (hn : (fn.name == "runtime.NumGoroutine") = false) : ∀ args w, (callFunc f args).run P w = .ok (.enter f args) w := by
  intro args w
  have hb' : fn.body.isNone = false := by cases h : fn.body with | none => rw [h] at hb; cases hb | some b => rfl
  simp only [callFunc, Sem.run_bind, run_program, Result.andThen_ok, hf, hn, hb', Bool.false_eq_true, if_false, Sem.run_pure]

/-- WHAT IS EVALUATED OF A CALL IS ITS CONTRACT. -/
theorem fin_sound {f : FuncId} {fn : Func} {body : Code} {args : List AV} {pre : List PObj} {NF : Nat} {ex : Ex} {s : PState} {k : AV → List PObj → Option R} {r : R} (hf : P.funcs[f]? = some fn) (hb : fn.body = some body) (hn : (fn.name == "runtime.NumGoroutine") = false)
    (ht : Tri P body (startP fn.ntmps args pre NF).toA ex s.toA pre.length) (h : finP P fn pre.length pre k ex s = some r) : ∃ res post, Meets P f args (pre.map PObj.toA) res (post.map PObj.toA) ∧ k res post = some r := by
  have key : ∀ {ex : Ex}, (ex = .ret ∨ ex = .normal) → Tri P body (startP fn.ntmps args pre NF).toA ex s.toA pre.length → (match resP P s fn.results.toList with
    | none => none
    | some (_, vs) =>
      let r1 := reach s.mem 1000 (List.range pre.length ++ namesL vs) []
      let keep := fun i => hasN (resSlots fn.results.toList) i
      match compact pre.length 0 (reach s.mem 1000 (r1 ++ slotNames keep 0 s.slots) []) keep s with
      | none => none
      | some t =>
        match resP P t fn.results.toList, unSome t.mem with
        | some (b, vs'), some os =>
          let post := os.take r1.length
          if Nat.ble pre.length post.length && postB pre.length post.length 0 post && finB pre.length pre post && ((one vs').names.all fun m => Nat.blt m post.length) then bcond b (forceV (one vs') fun v => forcePL post fun post => k v post) none else none
        | _, _ => none) = some r → ∃ res post, Meets P f args (pre.map PObj.toA) res (post.map PObj.toA) ∧ k res post = some r := by
    intro ex hex ht h
    split at h
    · cases h
    · rename_i b0 vs hvs
      simp only at h
      split at h
      · cases h
      · rename_i t hc
        split at h
        · rename_i b vs' os hr hos
          generalize hpost : os.take (reach s.mem 1000 (List.range pre.length ++ namesL vs) []).length = post at h
          split at h
          · rename_i hcond
            simp only [Bool.and_eq_true] at hcond
            obtain ⟨⟨⟨c1, c2⟩, c3⟩, c4⟩ := hcond
            cases b with
            | false => cases h
            | true =>
              have h : k (one vs') post = some r := by simpa only [bcond, forceV_eq, forcePL_eq] using h
              refine ⟨one vs', post, ?_, h⟩
              obtain ⟨ob, hren, hob⟩ := compact_ren hc
              have ht' := Tri.ren _ ht hren hob
              rw [startP_toA] at ht'
              obtain ⟨o1, h1, k1⟩ := resP_sound _ _ _ hr rfl
              have hget : ∀ j p, post[j]? = some p → t.mem[0 + j]? = some (some p) := fun j p hj => by
                rw [Nat.zero_add]
                refine unSome_get _ _ hos j p ?_
                rw [← hpost, List.getElem?_take] at hj
                split at hj
                · exact hj
                · cases hj
              have hD : ∀ i, Nat.blt i post.length = true → (fun n => decide ((post.map PObj.toA).length ≤ n)) i = false := fun i hi => by
                rw [bltT] at hi
                simp only [List.length_map, decide_eq_false_iff_not]; omega
              obtain ⟨o2, h2, k2⟩ := postA_of (D := fun n => decide ((post.map PObj.toA).length ≤ n)) (npre := pre.length) (n := post.length) hD post 0 hget c2
              have hav : Avoid (fun n => decide ((post.map PObj.toA).length ≤ n)) (one vs') := avoid_lt _ (List.all_eq_true.2 fun x hx => by
                have := hD x (List.all_eq_true.1 c4 x hx)
                simp only at this
                simp only [this]; rfl)
              have hava : AllP (avoidA (fun n => decide ((post.map PObj.toA).length ≤ n)) (one vs')) := by
                generalize one vs' = v at hav c4
                cases v <;> first
                  | trivial
                  | exact ⟨hav, trivial⟩
                  | (simp only [avoidA]
                     rw [if_neg]
                     · trivial
                     · have := hD _ (by simpa [AV.names] using c4)
                       simp only at this
                       rw [this]; simp)
              have hfin : finA P fn.results.toList [] t.toA pre.length (one vs') (post.map PObj.toA) = some (o1 ++ (one vs' = one vs') :: (avoidA (fun n => decide ((post.map PObj.toA).length ≤ n)) (one vs') ++ o2)) := by
                unfold finA
                have h2' : postA (fun n => decide ((post.map PObj.toA).length ≤ n)) t.toA.mem pre.length 0 (post.map PObj.toA) = some o2 := h2
                simp only [h1]
                rw [h2']
                simp only
                rw [if_pos]
                rw [bleT] at c1
                simpa using c1
              have hlen : (pre.map PObj.toA).length = pre.length := by simp
              rw [← hlen] at ht' hfin
              exact meets_of_tri hf hb (callFunc_enter hf (by rw [hb]; rfl) hn) ht' hex hfin (allP_append.2 ⟨k1, rfl, allP_append.2 ⟨hava, k2⟩⟩) (finB_all pre post _ c3)
          · cases h
        · cases h
  unfold finP at h
  cases ex with
  | exit i => cases h
  | ret => exact key (.inl rfl) ht h
  | normal => exact key (.inr rfl) ht h

/-- What a call answers: by conditions. -/
inductive Ans where
  | ret (res : AV) (post : List PObj)
  | fail
  | br (b : Bool) (x y : Ans)
def Ans.run (k : AV → List PObj → Option R) : Ans → Option R
  | .ret res post => k res post
  | .fail => none
  | .br b x y => bcond b (x.run k) (y.run k)
/-- A check ahead of an answer. -/
def Ans.chk (b : Bool) (x : Ans) : Ans := .br b x .fail
def AnsOK (P : Program) (f : FuncId) (args : List AV) (pre : List PObj) : Ans → Prop
  | .ret res post => Meets P f args (pre.map PObj.toA) res (post.map PObj.toA)
  | .fail => True
  | .br b x y => (b = true → AnsOK P f args pre x) ∧ (b = false → AnsOK P f args pre y)
theorem Ans.sound {f : FuncId} {args : List AV} {pre : List PObj} {k : AV → List PObj → Option R} {r : R} : ∀ (a : Ans), AnsOK P f args pre a → a.run k = some r → ∃ res post, Meets P f args (pre.map PObj.toA) res (post.map PObj.toA) ∧ k res post = some r
  | .ret res post, h, e => ⟨res, post, h, e⟩
  | .fail, h, e => by cases e
  | .br b x y, h, e => by
    cases b with
    | true => exact Ans.sound x (h.1 rfl) e
    | false => exact Ans.sound y (h.2 rfl) e
abbrev Ent := List AV → List PObj → Ans
abbrev Tab := List (FuncId × Ent)
def EntOK (P : Program) (f : FuncId) (e : Ent) : Prop := ∀ args pre, AnsOK P f args pre (e args pre)
def TabOK (P : Program) (T : Tab) : Prop := ∀ f e, T.lookup f = some e → EntOK P f e

/-- Calls are answered by the table, or entered. -/
def ent (P : Program) (T : Tab) (lv : FuncId → Nat → Option (List Nat)) (NF m : Nat) : Nat → Hd R
  | 0, f, args, pre, k => match T.lookup f with
    | some e => (e args pre).run k
    | none => none
  | d + 1, f, args, pre, k => match T.lookup f with
    | some e => (e args pre).run k
    | none => match P.funcs[f]? with
      | some fn => match fn.body with
        | some body => code (ent P T lv NF m d) P (lv f) pre.length NF m body (startP fn.ntmps args pre NF) (finP P fn pre.length pre k)
        | none => none
      | none => none

theorem ent_sound {T : Tab} (hT : TabOK P T) (hn : ∀ (f : Nat) (fn : Func), P.funcs[f]? = some fn → (fn.name == "runtime.NumGoroutine") = false) {lv : FuncId → Nat → Option (List Nat)} {NF m : Nat} : ∀ d, HOK P (ent (R := R) P T lv NF m d)
  | 0, f, args, pre, k, r, h => by
    simp only [ent] at h
    split at h
    · rename_i e he
      exact Ans.sound _ (hT f e he args pre) h
    · cases h
  | d + 1, f, args, pre, k, r, h => by
    simp only [ent] at h
    split at h
    · rename_i e he
      exact Ans.sound _ (hT f e he args pre) h
    · split at h
      · rename_i fn hf
        split at h
        · rename_i body hb
          obtain ⟨ex, s, ht, hk⟩ := code_sound (ent_sound hT hn d) body _ _ r h
          exact fin_sound hf hb (hn f fn hf) ht hk
        · cases h
      · cases h

/-- A CONTRACT OUT OF AN EVALUATION. -/
theorem meets_ent {T : Tab} (hT : TabOK P T) (hn : ∀ (f : Nat) (fn : Func), P.funcs[f]? = some fn → (fn.name == "runtime.NumGoroutine") = false) {lv : FuncId → Nat → Option (List Nat)} {NF m d : Nat} {f : FuncId} {args : List AV} {pre : List PObj} {res : AV} {post : List PObj}
    (h : ent (R := AV × List PObj) P T lv NF m d f args pre (fun a b => some (a, b)) = some (res, post)) : Meets P f args (pre.map PObj.toA) res (post.map PObj.toA) := by
  obtain ⟨a, b, h1, h2⟩ := ent_sound hT hn d f args pre _ _ h
  cases h2; exact h1

def pure2 (a : AV) (b : List PObj) : Option (AV × List PObj) := some (a, b)
/-- Answers that are what is evaluated are right. -/
theorem ans_of {f : FuncId} {args : List AV} {pre : List PObj} : ∀ (a : Ans), (∀ res post, a.run pure2 = some (res, post) → Meets P f args (pre.map PObj.toA) res (post.map PObj.toA)) → AnsOK P f args pre a
  | .ret res post, h => h res post rfl
  | .fail, _ => trivial
  | .br b x y, h => ⟨fun e => ans_of x fun res post k => h res post (by rw [Ans.run, e]; exact k), fun e => ans_of y fun res post k => h res post (by rw [Ans.run, e]; exact k)⟩

end Go.Proofs.YtpdhfopfjoinnaaDoor.Sx
