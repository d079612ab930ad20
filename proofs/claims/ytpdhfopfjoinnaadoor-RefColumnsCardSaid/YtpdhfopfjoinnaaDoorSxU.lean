/- The symbolic executor, part U: contracts out of runs of bodies. -/
import Derived.Test.YtpdhfopfjoinnaaDoorSxT
set_option linter.unusedSimpArgs false
set_option linter.unusedVariables false
namespace Go.Proofs.YtpdhfopfjoinnaaDoor.Sx
open Go

variable {P : Program}

theorem resA_run {w0 w : World} {M : Nat → Prop} {E : Env} {s : AState} {a : Act} (h : Rel w0 M E s a w) : ∀ (rs : List ResultVar) (hs : List Hint) (ob : List Prop) (vs : List AV), resA P s rs hs = some (ob, vs) → AllP ob →
    ∃ xs, denL E vs = some xs ∧ (rs.mapM fun | .tmp t => pure (a.tmps.getD t undef) | .cell p t => do loadVar t (← asAddr (a.tmps.getD p undef)) : Sem (List Value)).run P w = .ok xs w
  | [], hs, ob, vs, e, hob => by simp [resA] at e; obtain ⟨_, rfl⟩ := e; exact ⟨[], rfl, rfl⟩
  | .tmp t :: rs, hs, ob, vs, e, hob => by
    simp only [resA] at e
    split at e
    · rename_i v ob2 vs2 hv h2
      cases e
      obtain ⟨xs, hx, hr⟩ := resA_run h rs hs.tail _ _ h2 hob
      obtain ⟨x, hx1, hd⟩ := h.slots t v (by simpa using Option.join_eq_some_iff.1 hv)
      refine ⟨x :: xs, denL_cons.2 ⟨x, xs, hd, hx, rfl⟩, ?_⟩
      have hg : a.tmps.getD t undef = x := by simp [hx1]
      simp only [List.mapM_cons, Sem.run_bind, Sem.run_pure, Result.andThen_ok, hr, hg]
    · cases e
  | .cell p t :: rs, hs, ob, vs, e, hob => by
    simp only [resA] at e
    split at e
    · rename_i nm off hv
      split at e
      · rename_i o ho
        split at e
        · rename_i r ob2 vs2 hr1 h2
          cases e
          obtain ⟨k1, k2⟩ := allP_append.1 hob
          obtain ⟨xs, hx, hr⟩ := resA_run h rs hs.tail _ _ h2 k2
          obtain ⟨y, hy, hdy⟩ := h.slots p _ (by simpa using Option.join_eq_some_iff.1 hv)
          obtain ⟨b, c, hb, rfl⟩ := ptr_den hdy
          obtain ⟨b', c', hb', hobj, _⟩ := h.mem nm o ho
          rw [hb] at hb'; cases hb'
          obtain ⟨x, hlx, hdx⟩ := loadVar_run (P := P) hb hobj hr1 k1
          refine ⟨x :: xs, denL_cons.2 ⟨x, xs, hdx, hx, rfl⟩, ?_⟩
          have hg : a.tmps.getD p undef = .pointer (some ⟨b, off, none⟩) := by simp [hy]
          have ha : (asAddr (.pointer (some ⟨b, off, none⟩))).run P w = .ok ⟨b, off, none⟩ w := rfl
          simp only [List.mapM_cons, Sem.run_bind, hg, ha, Sem.run_pure, Result.andThen_ok, hlx, hr]
        · cases e
      · cases e
    · cases e

theorem results_run {w0 w : World} {M : Nat → Prop} {E : Env} {s : AState} {a : Act} {fn : Func} (h : Rel w0 M E s a w) {hs : List Hint} {ob : List Prop} {vs : List AV} (e : resA P s fn.results.toList hs = some (ob, vs)) (hob : AllP ob) :
    ∃ x, (results fn a.tmps).run P w = .ok x w ∧ den E (one vs) = some x := by
  obtain ⟨xs, hx, hr⟩ := resA_run h _ _ _ _ e hob
  have hm : (fn.results.mapM fun | .tmp t => pure (a.tmps.getD t undef) | .cell p t => do loadVar t (← asAddr (a.tmps.getD p undef)) : Sem (Array Value)).run P w = .ok xs.toArray w := by
    generalize fn.results = rs at hr
    obtain ⟨l⟩ := rs
    rw [List.mapM_toArray]
    rw [Sem.run_map, hr]
    rfl
  refine ⟨if h : xs.toArray.size = 1 then xs.toArray[0] else .tuple xs.toArray, ?_, ?_⟩
  · simp only [results, Sem.run_bind]
    erw [hm]
    rfl
  · match vs, xs, hx with
    | [], xs, hx => simp [denL] at hx; subst hx; simp [one, den, denL]
    | [v], xs, hx =>
      obtain ⟨x, ys, h1, h2, rfl⟩ := denL_cons.1 hx
      simp [denL] at h2; subst h2; simpa [one] using h1
    | v :: u :: vs, xs, hx =>
      obtain ⟨x, ys, h1, h2, rfl⟩ := denL_cons.1 hx
      obtain ⟨y, zs, h3, h4, rfl⟩ := denL_cons.1 h2
      simp [one, den, hx]

theorem sameO_obj {o p : AObj} (h : sameO o p) {E : Env} {w : World} {b : Nat} {c : Cap} (k : ObjR E w b c o) : ObjR E w b c p := by
  cases p with
  | flat m cs => exact h E w b c k
  | cells a b => exact (show o = _ from h) ▸ k
  | vec a b c => exact (show o = _ from h) ▸ k
  | ro a b => exact (show o = _ from h) ▸ k
  | iter a b => exact (show o = _ from h) ▸ k
  | dead => trivial
theorem sameO_touches {o p : AObj} (h : sameO o p) {b k : Nat} {c : Cap} (ht : touches b c p k) : touches b c o k := by
  cases p with
  | flat m cs => exact touches_of_flat rfl ht
  | cells a b => exact (show o = _ from h) ▸ ht
  | vec a b c => exact (show o = _ from h) ▸ ht
  | ro a b => exact (show o = _ from h) ▸ ht
  | iter a b => exact (show o = _ from h) ▸ ht
  | dead => exact (show o = _ from h) ▸ ht
theorem sameO_owned {o p : AObj} (h : sameO o p) (hp : p.owned = true) : o = p := by
  cases p <;> first | exact h | cases hp

theorem postA_get {D : Nat → Bool} {mem : List (Option AObj)} {npre : Nat} : ∀ (ps : List AObj) (i : Nat) (ob : List Prop), postA D mem npre i ps = some ob → AllP ob →
    ∀ (n : Nat) (p : AObj), ps[n]? = some p → ∃ o, mem[i + n]? = some (some o) ∧ ((p = .dead ∧ i + n < npre) ∨ (sameO o p ∧ AvoidO D p ∧ (i + n < npre ∨ o.mine = true)))
  | [], i, ob, _, _, n, p, hn => by simp at hn
  | q :: ps, i, ob, h, hob, n, p, hn => by
    have key : ∃ o ob2, mem[i]? = some (some o) ∧ postA D mem npre (i + 1) ps = some ob2 ∧ AllP ob2 ∧ ((q = .dead ∧ i < npre) ∨ (sameO o q ∧ AvoidO D q ∧ (i < npre ∨ o.mine = true))) := by
      by_cases hd : q = .dead
      · subst hd
        simp only [postA] at h
        split at h
        · rename_i o ho
          split at h
          · rename_i hi; exact ⟨o, ob, ho, h, hob, .inl ⟨rfl, hi⟩⟩
          · cases h
        · cases h
      · have h' : ∃ o ob2, mem[i]? = some (some o) ∧ (i < npre ∨ o.mine = true) ∧ postA D mem npre (i + 1) ps = some ob2 ∧ ob = sameO o q :: (avoidO D q ++ ob2) := by
          cases q <;> first
            | exact absurd rfl hd
            | (simp only [postA] at h
               split at h
               · rename_i o ho
                 split at h
                 · rename_i hi
                   simp only [Option.map_eq_some_iff] at h; obtain ⟨ob2, h2, e⟩ := h
                   exact ⟨o, ob2, ho, by simpa using hi, h2, e.symm⟩
                 · cases h
               · cases h)
        obtain ⟨o, ob2, ho, hi, h2, rfl⟩ := h'
        obtain ⟨k1, k2⟩ := hob
        have k1 : sameO o q := k1
        obtain ⟨k2, k3⟩ := allP_append.1 k2
        exact ⟨o, ob2, ho, h2, k3, .inr ⟨k1, avoidO_spec k2, hi⟩⟩
    obtain ⟨o, ob2, ho, h2, k3, hor⟩ := key
    cases n with
    | zero => simp at hn; subst hn; exact ⟨o, by simpa using ho, by simpa using hor⟩
    | succ n =>
      have := postA_get ps (i + 1) ob2 h2 k3 n p (by simpa using hn)
      rwa [show i + 1 + n = i + (n + 1) by omega] at this

theorem start_rel {w : World} {E : Env} {args : List AV} {xs : List Value} {pre : List AObj} {ntmps k : Nat} (hx : denL E args = some xs) (hp : PreR E w pre) :
    Rel w (fun b => ∃ (n : Nat) (o : AObj) (c : Cap), pre[n]? = some o ∧ o.owned = true ∧ E n = some (b, c)) E (start ntmps args pre k) { tmps := xs.toArray ++ Array.replicate (ntmps - xs.toArray.size) undef, defers := [] } w := by
  have hl := denL_length hx
  have slot : ∀ (t : Nat) (v : AV), (start ntmps args pre k).slots[t]? = some (some v) → args[t]? = some v := fun t v h => by
    simp only [start] at h
    by_cases ht : t < args.length
    · rw [List.getElem?_append_left (by simpa using ht)] at h; simpa using h
    · rw [List.getElem?_append_right (by simpa using ht)] at h
      rw [List.getElem?_replicate] at h; split at h <;> simp at h
  have memo : ∀ (n : Nat) (o : AObj), (start ntmps args pre k).mem[n]? = some (some o) → ∃ o0, pre[n]? = some o0 ∧ o = o0.lent := fun n o h => by
    simp only [start] at h
    by_cases ht : n < pre.length
    · rw [List.getElem?_append_left (by simpa using ht)] at h
      simp only [List.getElem?_map, Option.map_eq_some_iff] at h
      obtain ⟨o0, h0, e⟩ := h
      exact ⟨o0, h0, (Option.some.inj e).symm⟩
    · rw [List.getElem?_append_right (by simpa using ht)] at h
      rw [List.getElem?_replicate] at h; split at h <;> simp at h
  exact {
    size := by simp [start, hl]
    slots := fun t v h => by
      obtain ⟨x, hx1, hd⟩ := denL_get hx (slot t v h)
      have hlt := (List.getElem?_eq_some_iff.1 hx1).1
      exact ⟨x, by rw [Array.getElem?_append_left (by simpa using hlt)]; simpa using hx1, hd⟩
    defers := rfl
    fresh := fun n h => hp.fresh n (by
      rcases Nat.lt_or_ge n pre.length with g | g
      · simp only [start] at h; rw [List.getElem?_append_left (by simpa using g)] at h; simp [g] at h
      · exact g)
    mem := fun n o h => by
      obtain ⟨o0, h', rfl⟩ := memo n o h
      obtain ⟨b, c, hE, hob⟩ := hp.objs n o0 h'
      exact ⟨b, c, hE, lent_obj hob, fun ho _ => .inr ⟨n, o0, c, h', lent_mine ho, hE⟩⟩
    apart := fun n m o o' b c b' c' h1 h2 h3 h4 h5 h6 h7 => by
      obtain ⟨x, hx1, rfl⟩ := memo n o h1
      obtain ⟨y, hy1, rfl⟩ := memo m o' h2
      exact fun ht => hp.apart n m x y b c b' c' hx1 hy1 (by rw [← lent_owned]; exact h3) (by rw [← lent_live]; exact h4) h5 h6 h7 (lent_touches.1 ht)
    frame := fun _ _ _ => rfl
    grow := Nat.le_refl _
    os := rfl, tape := rfl, output := rfl
    glob := hp.glob }

/-- A CONTRACT OUT OF A RUN. -/
theorem meets_of_tri {f : FuncId} {fn : Func} {body : Code} {args : List AV} {pre post : List AObj} {res : AV} {k : Nat} {ex : Ex} {s' : AState} {hs : List Hint} {ob : List Prop} (hf : P.funcs[f]? = some fn) (hb : fn.body = some body)
    (hent : ∀ args w, (callFunc f args).run P w = .ok (.enter f args) w) (ht : Tri P body (start fn.ntmps args pre k) ex s' pre.length) (hex : ex = .ret ∨ ex = .normal) (hfin : finA P fn.results.toList hs s' pre.length res post = some ob) (hob : AllP ob) (hpq : ((pre.zip post).all fun p => !p.1.owned || p.2.owned || !p.2.live) = true) :
    Meets P f args pre res post := by
  intro w E xs hx hp
  refine .inl ⟨f, xs.toArray, hent _ w, calls_of_wp hf hb ?_⟩
  have h0 := start_rel (ntmps := fn.ntmps) (k := k) hx hp
  refine wp_mono (ht w _ E _ w h0) ?_
  rintro e a' w' ⟨rfl, E', hle, h'⟩
  unfold finA at hfin
  simp only at hfin
  split at hfin
  · rename_i ob1 vs ob2 hr hpo
    split at hfin
    · rename_i hpl
      cases hfin
      obtain ⟨k1, k2⟩ := allP_append.1 hob
      obtain ⟨k2, k3⟩ := k2
      have k2 : one vs = res := k2
      obtain ⟨k3, k4⟩ := allP_append.1 k3
      obtain ⟨x, hrun, hd⟩ := results_run h' hr k1
      let D : Nat → Bool := fun n => decide (post.length ≤ n)
      have hav := avoidA_spec k3
      have hpost := postA_get (mem := s'.mem) post 0 ob2 hpo k4
      simp only [Nat.zero_add] at hpost
      have hlive : ∀ {o : AObj}, o.owned = true → o.live = true := fun {o} h => by cases o <;> first | rfl | cases h
      have hDlt : ∀ {n}, n < post.length → D n = false := fun {n} hn => by simp only [D, decide_eq_false_iff_not]; omega
      have hcut : ∀ n, post.length ≤ n → E'.drop D n = none := fun n hn => by simp [Env.drop, D, hn]
      have back : ∀ n p, E'.drop D n = some p → n < post.length ∧ E' n = some p := fun n p hn => by
        rcases Nat.lt_or_ge n post.length with g | g
        · rw [drop_some (hDlt g)] at hn; exact ⟨g, hn⟩
        · rw [hcut n g] at hn; cases hn
      have P0 : PostR E (E'.drop D) w w' pre post :=
        { le := fun n p hn => by
            have hlt : n < pre.length := by
              rcases Nat.lt_or_ge n pre.length with g | g
              · exact g
              · rw [hp.fresh n g] at hn; cases hn
            rw [drop_some (hDlt (by omega))]; exact hle n p hlt hn
          cut := hcut
          objs := fun n o hn => by
            have hlt := (List.getElem?_eq_some_iff.1 hn).1
            obtain ⟨o', ho', hor⟩ := hpost n o hn
            obtain ⟨b, c, hE, hob, _⟩ := h'.mem n o' ho'
            refine ⟨b, c, by rw [drop_some (hDlt hlt)]; exact hE, ?_⟩
            rcases hor with ⟨rfl, _⟩ | ⟨hso, hao, _⟩
            · trivial
            · exact hao E' w' b c (sameO_obj hso hob)
          made := fun n b c p hn hp hE ht => by
            obtain ⟨hlt, hE⟩ := back n _ hE
            obtain ⟨o', ho', hor⟩ := hpost n p hp
            rcases hor with ⟨_, g⟩ | ⟨hso, _, g | g⟩
            · omega
            · omega
            · obtain ⟨b', c', hE2, _, hM⟩ := h'.mem n o' ho'
              rw [hE] at hE2; cases hE2
              rcases hM g (sameO_touches hso ht) with g2 | ⟨j, oj, cj, hj, hjo, hEj⟩
              · exact .inl g2
              · have hjlt := (List.getElem?_eq_some_iff.1 hj).1
                have hjl : j < post.length := by omega
                obtain ⟨oj', hoj', horj⟩ := hpost j _ (List.getElem?_eq_getElem hjl)
                have hEj' := hle j _ hjlt hEj
                have hq : post[j] = .dead ∨ post[j].owned = true := by
                  have := all_zip (f := fun p q => !p.owned || q.owned || !q.live) hpq hj (List.getElem?_eq_getElem hjl)
                  simp only [hjo, Bool.not_true, Bool.false_or, Bool.or_eq_true, Bool.not_eq_true'] at this
                  rcases this with h | h
                  · exact .inr h
                  · exact .inl (by generalize post[j] = q at h; cases q <;> first | rfl | cases h)
                rcases hq with hq | hq
                · exact .inr ⟨j, cj, oj, hj, hjo, by rw [List.getElem?_eq_getElem hjl, hq], hEj⟩
                · rcases horj with ⟨e, _⟩ | ⟨e, _⟩
                  · rw [e] at hq; cases hq
                  · have e2 := sameO_owned e hq
                    exact absurd (sameO_touches hso ht) (h'.apart j n oj' o' b cj b c hoj' ho' (e2 ▸ hq) (mine_live g) hEj' hE (by omega))
          keep := fun j hj hne => h'.frame j hj (by
            rintro ⟨n, o, c, h1, h2, h3⟩
            exact hne n o c h1 h2 h3)
          newApart := fun n m p p' b c b' c' hn hm hp hp' w1 w2 hE1 hE2 hne => by
            obtain ⟨hl1, hE1⟩ := back n _ hE1
            obtain ⟨hl2, hE2⟩ := back m _ hE2
            obtain ⟨o1, ho1, hor1⟩ := hpost n p hp
            obtain ⟨o2, ho2, hor2⟩ := hpost m p' hp'
            have s1 : sameO o1 p := by rcases hor1 with ⟨_, g⟩ | ⟨g, _⟩ <;> first | exact g | omega
            have s2 : sameO o2 p' ∧ o2.mine = true := by
              rcases hor2 with ⟨_, g⟩ | ⟨g, _, g2 | g2⟩ <;> first | exact ⟨g, g2⟩ | omega
            have e1 := sameO_owned s1 w1
            subst e1
            exact fun ht => h'.apart n m o1 o2 b c b' c' ho1 ho2 w1 (mine_live s2.2) hE1 hE2 hne (sameO_touches s2.1 ht)
          grow := h'.grow, os := h'.os, tape := h'.tape, output := h'.output }
      have hR : ∃ E' x', Ending.returned x = .returned x' ∧ den E' res = some x' ∧ PostR E E' w w' pre post := ⟨E'.drop D, x, rfl, hav E' x (k2 ▸ hd), P0⟩
      rcases hex with rfl | rfl
      · exact ⟨h'.defers, x, hrun, hR⟩
      · exact ⟨h'.defers, x, hrun, hR⟩
    · cases hfin
  · cases hfin

def bodyOf (fn : Func) : Code := fn.body.getD .skip

/-- THE SAME, OF A BODY WITHOUT A LOOP OF ITS OWN, OR WITH LOOPS THAT ARE TOLD OF. -/
theorem meets_of_exec {f : FuncId} {fn : Func} {args : List AV} {pre post : List AObj} {res : AV} (k : Nat) (q : List Orc) (hs : List Hint) {r : Out} {ob : List Prop} (hf : P.funcs[f]? = some fn) (hb : fn.body.isSome = true)
    (hent : ∀ args w, (callFunc f args).run P w = .ok (.enter f args) w) (he : exec P pre.length (bodyOf fn) q (start fn.ntmps args pre k) = some r) (h1 : AllP r.obl) (hex : r.ex = .ret ∨ r.ex = .normal) (hfin : finA P fn.results.toList hs r.st pre.length res post = some ob) (hob : AllP ob) (hpo : ((pre.zip post).all fun p => !p.1.owned || p.2.owned || !p.2.live) = true) :
    Meets P f args pre res post :=
  meets_of_tri (body := bodyOf fn) hf (by unfold bodyOf; cases h : fn.body with | none => rw [h] at hb; cases hb | some b => rfl) hent (exec_sound _ _ _ _ he h1) hex hfin hob hpo

end Go.Proofs.YtpdhfopfjoinnaaDoor.Sx
