/- The symbolic executor, part N: a call by its contract is sound. -/
import Derived.Test.YtpdhfopfjoinnaaDoorSxM
set_option linter.unusedSimpArgs false
set_option linter.unusedVariables false
namespace Go.Proofs.YtpdhfopfjoinnaaDoor.Sx
open Go

variable {P : Program} {E : Env} {w : World}

theorem updOf_get {r : List Nat} : ∀ (cs pre post : List AObj) (i : Nat) (o : AObj), (updOf r cs pre post)[i]? = some o →
    ∃ c p q, cs[i]? = some c ∧ pre[i]? = some p ∧ post[i]? = some q ∧ o = if p.owned then q.ren r else c
  | [], _, _, i, o, h => by simp [updOf] at h
  | _ :: _, [], _, i, o, h => by simp [updOf] at h
  | _ :: _, _ :: _, [], i, o, h => by simp [updOf] at h
  | c :: cs, p :: pre, q :: post, 0, o, h => by
    simp [updOf] at h; exact ⟨c, p, q, rfl, rfl, rfl, h.symm⟩
  | c :: cs, p :: pre, q :: post, i + 1, o, h => by
    simp only [updOf, List.getElem?_cons_succ] at h
    simpa using updOf_get cs pre post i o h

theorem updOf_at {r : List Nat} : ∀ (cs pre post : List AObj) (i : Nat) (c p q : AObj), cs[i]? = some c → pre[i]? = some p → post[i]? = some q → (updOf r cs pre post)[i]? = some (if p.owned then q.ren r else c)
  | [], _, _, i, _, _, _, h, _, _ => by simp at h
  | _ :: _, [], _, i, _, _, _, _, h, _ => by simp at h
  | _ :: _, _ :: _, [], i, _, _, _, _, _, h => by simp at h
  | c :: cs, p :: pre, q :: post, 0, _, _, _, h1, h2, h3 => by
    simp at h1 h2 h3; subst h1; subst h2; subst h3; simp [updOf]
  | c :: cs, p :: pre, q :: post, i + 1, a, b, d, h1, h2, h3 => by
    simp only [updOf, List.getElem?_cons_succ]
    exact updOf_at cs pre post i a b d (by simpa using h1) (by simpa using h2) (by simpa using h3)

theorem fitsOf_get {r : List Nat} : ∀ (cs pre : List AObj) (i : Nat) (c p : AObj), AllP (fitsOf r cs pre) → cs[i]? = some c → pre[i]? = some p → Fits c (p.ren r)
  | [], _, i, c, p, _, h, _ => by simp at h
  | _ :: _, [], i, c, p, _, _, h => by simp at h
  | c :: cs, p :: pre, 0, _, _, h, h1, h2 => by
    simp at h1 h2; subst h1; subst h2; exact h.1
  | c :: cs, p :: pre, i + 1, a, b, h, h1, h2 => fitsOf_get cs pre i a b h.2 (by simpa using h1) (by simpa using h2)

theorem all_zip {a b : List AObj} {f : AObj → AObj → Bool} (h : ((a.zip b).all fun p => f p.1 p.2) = true) {i : Nat} {x y : AObj} (h1 : a[i]? = some x) (h2 : b[i]? = some y) : f x y = true := by
  have : (a.zip b)[i]? = some (x, y) := by simp [List.getElem?_zip_eq_some, h1, h2]
  exact List.all_eq_true.1 h _ (List.mem_of_getElem? this)

theorem mem_ws {ren : List Nat} {pre : List AObj} {n : Nat} : n ∈ ((ren.zip pre).filter fun p => p.2.owned).map (·.1) ↔ ∃ (i : Nat) (o : AObj), ren[i]? = some n ∧ pre[i]? = some o ∧ o.owned = true := by
  simp only [List.mem_map, List.mem_filter]
  constructor
  · rintro ⟨⟨m, o⟩, ⟨hm, ho⟩, rfl⟩
    obtain ⟨i, hi⟩ := List.getElem?_of_mem hm
    rw [List.getElem?_zip_eq_some] at hi
    exact ⟨i, o, hi.1, hi.2, ho⟩
  · rintro ⟨i, o, h1, h2, h3⟩
    exact ⟨(n, o), ⟨List.mem_of_getElem? (i := i) (by rw [List.getElem?_zip_eq_some]; exact ⟨h1, h2⟩), h3⟩, rfl⟩

theorem resolve_value {ρ : Operand → Value} {c : Call} {x : Operand} {ty : TypeId} {f : FuncId} {a b : Array Value} (hc : c.callee = .value x) (hx : ρ x = .func (.func f) a b) :
    (do let d ← resolve ρ c ty; invoke d.target d.args : Sem Next).run P w = (callFunc f (a ++ c.args.map ρ ++ b)).run P w := by
  simp only [resolve, hc, Deferred.ofValue, hx, Sem.run_bind, Sem.run_pure, Result.andThen_ok, invoke]

theorem call_sound {o : Oper} {ρ : Operand → Value} {h : Hint} {vals : List AV} {F : Foot} {cs : List AObj} {r : Res} (hv : denL E vals = some (o.op.operands.toList.map ρ)) (hf : foot h o.op vals = some F) (hp : Pre E w F cs)
    (hr : callA h P o.op vals cs = some r) (kk : AllP r.obl) :
    ∃ f args, (execOp ρ o).run P w = (callFunc f args).run P w ∧ Does P f args w fun e w' => ∃ E' x, e = .returned x ∧ den E' r.val = some x ∧ Eff E E' w w' F r.upd r.new := by
  obtain ⟨c, f, first, caps, args, k, ho, hvals, hk, ⟨x, hx⟩, c1, c2, c3, c4, c5, k1, kmeet, k3, e1, e2, e3⟩ := callA_cases hr kk
  have hF : F = ⟨k.ren.take k.pre.length, ((k.ren.zip k.pre).filter fun p => p.2.owned).map (·.1), k.ren.drop k.pre.length⟩ := by
    rw [ho, hvals] at hf; simp only [foot, hx, hk, Option.some.injEq] at hf; exact hf.symm
  rw [ho, hvals] at hv
  simp only [Op.operands, Call.operands, hx] at hv
  have hv' : denL E (.func f first caps :: args) = some (ρ x :: c.args.toList.map ρ) := by simpa using hv
  obtain ⟨d1, d2⟩ := denL_split hv'
  simp only [den] at d1
  split at d1
  · rename_i as bs ha hb
    have hρx : ρ x = .func (.func f) as.toArray bs.toArray := (Option.some.inj d1).symm
    refine ⟨f, as.toArray ++ c.args.map ρ ++ bs.toArray, ?_, ?_⟩
    · have := resolve_value (P := P) (w := w) (ty := o.type) hx hρx
      simp only [execOp, ho]
      exact this
    · have hargs : denL E (renL k.ren k.args) = some (as ++ c.args.toList.map ρ ++ bs) := by
        rw [← k1]; exact denL_append (denL_append ha d2) hb
      let Ec : Env := fun i => if i < k.pre.length then (k.ren[i]?).bind E else none
      have hfreshal : ∀ i m, k.pre.length ≤ i → k.ren[i]? = some m → E m = none := fun i m hi hm =>
        hp.fresh m (by rw [hF]; exact List.mem_of_getElem? (i := i - k.pre.length) (by rw [List.getElem?_drop]; rwa [show k.pre.length + (i - k.pre.length) = i by omega]))
      have hEc : ∀ i m p, k.ren[i]? = some m → E m = some p → Ec i = some p := fun i m p hi hm => by
        by_cases hlt : i < k.pre.length
        · simp only [Ec, if_pos hlt, hi, Option.bind_some, hm]
        · rw [hfreshal i m (by omega) hi] at hm; cases hm
      have hEc' : ∀ i p, Ec i = some p → ∃ m, i < k.pre.length ∧ k.ren[i]? = some m ∧ E m = some p := fun i p hi => by
        simp only [Ec] at hi
        split at hi
        · rename_i hlt
          obtain ⟨m, hm, hE⟩ := Option.bind_eq_some_iff.1 hi
          exact ⟨m, hlt, hm, hE⟩
        · cases hi
      have hrd : ∀ i m, i < k.pre.length → k.ren[i]? = some m → F.rd[i]? = some m := fun i m hi hm => by
        rw [hF]; simp only [List.getElem?_take, if_pos hi, hm]
      have hcs : ∀ i (p : AObj), k.pre[i]? = some p → ∃ m q, k.ren[i]? = some m ∧ cs[i]? = some q ∧ i < k.pre.length := fun i p hi => by
        have hlt := (List.getElem?_eq_some_iff.1 hi).1
        exact ⟨k.ren[i]'(by omega), cs[i]'(by omega), List.getElem?_eq_getElem _, List.getElem?_eq_getElem _, hlt⟩
      have hwr : ∀ i (p : AObj), k.pre[i]? = some p → p.owned = true → F.wr = true := fun i p hi ho' => by
        obtain ⟨m, q, hm, _, _⟩ := hcs i p hi
        have : m ∈ F.ws := by rw [hF]; exact mem_ws.2 ⟨i, p, hm, hi, ho'⟩
        unfold Foot.wr
        cases hws : F.ws with
        | nil => rw [hws] at this; cases this
        | cons a l => rfl
      have hne : ∀ i j m m' (p : AObj), k.pre[i]? = some p → p.owned = true → i ≠ j → j < k.pre.length → k.ren[i]? = some m → k.ren[j]? = some m' → m ≠ m' := fun i j m m' p hi ho' hij hj hm hm' => by
        have hnd := hp.rdNodup (hwr i p hi ho')
        have hli := (List.getElem?_eq_some_iff.1 hi).1
        rintro rfl
        exact hij ((List.getElem?_inj (List.getElem?_eq_some_iff.1 (hrd i m hli hm)).1 hnd).1 (by rw [hrd i m hli hm, hrd j m hj hm']))
      have hpre : PreR Ec w k.pre :=
        { objs := fun n o' hn => by
            obtain ⟨m, q, hm, hq, hlt⟩ := hcs n o' hn
            obtain ⟨b, cc, hb, hob⟩ := hp.objs n m q (hrd n m hlt hm) hq
            exact ⟨b, cc, hEc n m _ hm hb, (fitsOf_get cs k.pre n q o' k3 hq hn E w b cc hob).unren hEc⟩
          fresh := fun n hn => by simp only [Ec]; rw [if_neg (by omega)]
          apart := fun n m o1 o2 b cc b' c' h1 h2 h3 h4 h5 h6 h7 => by
            obtain ⟨x1, q1, hx1, hq1, hl1⟩ := hcs n o1 h1
            obtain ⟨x2, q2, hx2, hq2, hl2⟩ := hcs m o2 h2
            obtain ⟨y1, _, hy1, hE1⟩ := hEc' n _ h5
            obtain ⟨y2, _, hy2, hE2⟩ := hEc' m _ h6
            rw [hx1] at hy1; cases hy1
            rw [hx2] at hy2; cases hy2
            have hown : q1.owned = true := by
              have := all_zip (f := fun a b => (!a.owned || b.owned) && (!b.isFlat || a.isFlat)) c4 h1 hq1
              simp only [h3, Bool.and_eq_true] at this; simpa using this.1
            have hlive : q2.live = true := List.all_eq_true.1 c5 q2 (List.mem_of_getElem? hq2)
            have hflat : q2.isFlat = true → o2.isFlat = true := fun e => by
              have := all_zip (f := fun a b => (!a.owned || b.owned) && (!b.isFlat || a.isFlat)) c4 h2 hq2
              simp only [e, Bool.and_eq_true] at this; simpa using this.2
            exact fun ht => hp.apart n m x1 x2 q1 q2 b cc b' c' (hrd n x1 hl1 hx1) (hrd m x2 hl2 hx2) hq1 hq2 hown hlive hE1 hE2 (hne n m x1 x2 o1 h1 h3 h7 hl2 hx1 hx2) (touches_fit hflat ht)
          glob := fun g l hg => by
            obtain ⟨g1, g2, g3⟩ := hp.glob g l hg
            refine ⟨g1, ?_, g3⟩
            rintro ⟨n, o1, cc, h1, h3, h5⟩
            obtain ⟨x1, q1, hx1, hq1, hl1⟩ := hcs n o1 h1
            obtain ⟨y1, _, hy1, hE1⟩ := hEc' n _ h5
            rw [hx1] at hy1; cases hy1
            have hown : q1.owned = true := by
              have := all_zip (f := fun a b => (!a.owned || b.owned) && (!b.isFlat || a.isFlat)) c4 h1 hq1
              simp only [h3, Bool.and_eq_true] at this; simpa using this.1
            exact g2 ⟨n, x1, q1, cc, hrd n x1 hl1 hx1, hq1, hown, hE1⟩ }
      have hcall := kmeet w Ec (as ++ c.args.toList.map ρ ++ bs) (renL_den hEc _ _ hargs) hpre
      have earr : (as ++ c.args.toList.map ρ ++ bs).toArray = as.toArray ++ c.args.map ρ ++ bs.toArray := by
        apply Array.ext'; simp
      rw [earr] at hcall
      refine hcall.mono ?_
      rintro e w' ⟨E'c, y, rfl, hy, hpost⟩
      let al := k.ren.drop k.pre.length
      have hal : F.al = al := by rw [hF]
      have hnd : al.Nodup := hal ▸ hp.nodup
      let E' : Env := fun m => if m ∈ al then E'c (k.pre.length + al.idxOf m) else E m
      have hE'al : ∀ j m, al[j]? = some m → E' m = E'c (k.pre.length + j) := fun j m hj => by
        have hmem := List.mem_of_getElem? hj
        simp only [E', if_pos hmem]
        obtain ⟨hlt, rfl⟩ := List.getElem?_eq_some_iff.1 hj
        rw [hnd.idxOf_getElem]
      have hE'old : ∀ m, m ∉ al → E' m = E m := fun m hm => by simp only [E', if_neg hm]
      have hle : Env.le E E' := fun n p hn => by
        rw [hE'old n]; exact hn
        intro hmem
        rw [hp.fresh n (hal ▸ hmem)] at hn; cases hn
      have hren : ∀ i p, E'c i = some p → ∃ m, k.ren[i]? = some m ∧ E' m = some p := fun i p hi => by
        have hlt : i < k.post.length := by
          rcases Nat.lt_or_ge i k.post.length with h | h
          · exact h
          · rw [hpost.cut i h] at hi; cases hi
        have hm : k.ren[i]? = some (k.ren[i]'(by omega)) := List.getElem?_eq_getElem _
        refine ⟨_, hm, ?_⟩
        by_cases hpl : i < k.pre.length
        · obtain ⟨b, cc, hb, _⟩ := hpre.objs i (k.pre[i]) (List.getElem?_eq_getElem hpl)
          have := hpost.le i _ hb
          rw [hi] at this; cases this
          obtain ⟨m', _, hm', hEm⟩ := hEc' i _ hb
          rw [hm] at hm'; cases hm'
          exact hle _ _ hEm
        · have := hE'al (i - k.pre.length) (k.ren[i]'(by omega)) (by simp only [al, List.getElem?_drop]; rw [show k.pre.length + (i - k.pre.length) = i by omega]; exact hm)
          rw [this, show k.pre.length + (i - k.pre.length) = i by omega]; exact hi
      refine ⟨E', y, rfl, by rw [e1]; exact den_ren hren _ _ hy, ?_⟩
      exact {
        le := hle
        only := fun n hn => hE'old n (hal ▸ hn)
        wrote := fun hw i n o' h1 h2 => by
          rw [e2] at h2
          obtain ⟨q, p, s, hq, hpq, hs, rfl⟩ := updOf_get cs k.pre k.post i o' h2
          obtain ⟨m, q', hm, hq', hlt⟩ := hcs i p hpq
          rw [hrd i m hlt hm] at h1; cases h1
          obtain ⟨b, cc, hb, hob⟩ := hp.objs i n q (hrd i n hlt hm) hq
          refine ⟨b, cc, hb, ?_⟩
          cases ho' : p.owned with
          | true =>
            simp only [if_true]
            obtain ⟨b2, c2', hb2, hob2⟩ := hpost.objs i s hs
            have := hpost.le i _ (hEc i n _ hm hb)
            rw [hb2] at this; cases this
            exact hob2.ren hren
          | false =>
            simp only [Bool.false_eq_true, if_false]
            have hlive : q.live = true := List.all_eq_true.1 c5 q (List.mem_of_getElem? hq)
            refine (hob.block fun hl0 ht0 => hpost.keep b (hob.lt hl0 ht0) fun j o2 c2 h3 h4 h5 => ?_).mono hle
            obtain ⟨m2, hlt2, hm2, hE2⟩ := hEc' j _ h5
            obtain ⟨_, q2, hm2', hq2, _⟩ := hcs j o2 h3
            have hown : q2.owned = true := by
              have := all_zip (f := fun a b => (!a.owned || b.owned) && (!b.isFlat || a.isFlat)) c4 h3 hq2
              simp only [h4, Bool.and_eq_true] at this; simpa using this.1
            have hnm : j ≠ i := by rintro rfl; rw [hpq] at h3; cases h3; rw [ho'] at h4; cases h4
            exact hp.apart j i m2 n q2 q b c2 b cc (hrd j m2 hlt2 hm2) (hrd i n hlt hm) hq2 hq hown hlive hE2 hb (hne j i m2 n o2 h3 h4 hnm hlt hm2 hm) ht0
        made := fun i n o' h1 h2 => by
          rw [hal] at h1
          rw [e3] at h2
          simp only [List.getElem?_map, Option.map_eq_some_iff] at h2
          obtain ⟨s, hs, rfl⟩ := h2
          rw [List.getElem?_drop] at hs
          obtain ⟨b, cc, hb, hob⟩ := hpost.objs _ s hs
          refine ⟨b, cc, (hE'al i n h1).trans hb, hob.ren hren, fun ht => ?_⟩
          rcases hpost.made _ b cc s (Nat.le_add_right _ _) hs hb (touches_ren ht) with h | ⟨j, c', o2, g1, g2, g3, g4⟩
          · exact .inl h
          · obtain ⟨m2, hlt2, hm2, hE2⟩ := hEc' j _ g4
            obtain ⟨_, q2, _, hq2, _⟩ := hcs j o2 g1
            refine .inr ⟨hwr j o2 g1 g2, j, m2, c', hrd j m2 hlt2 hm2, ?_, hE2⟩
            rw [e2, updOf_at cs k.pre k.post j q2 o2 _ hq2 g1 g3, g2]; rfl
        keep := fun j hj hne' => hpost.keep j hj fun n o2 c2 h3 h4 h5 => by
          obtain ⟨m2, _, hm2, hE2⟩ := hEc' n _ h5
          exact hne' m2 (by rw [hF]; exact mem_ws.2 ⟨n, o2, hm2, h3, h4⟩) c2 hE2
        newApart := fun i j n m o1 o2 b cc b' c' h1 h2 g1 g2 w1 w2 h3 h4 h5 => by
          rw [hal] at h1 h2
          rw [hE'al i n h1] at h3
          rw [hE'al j m h2] at h4
          rw [e3] at g1 g2
          simp only [List.getElem?_map, Option.map_eq_some_iff] at g1 g2
          obtain ⟨s1, hs1, rfl⟩ := g1
          obtain ⟨s2, hs2, rfl⟩ := g2
          rw [List.getElem?_drop] at hs1 hs2
          exact fun ht => hpost.newApart _ _ s1 s2 b cc b' c' (Nat.le_add_right _ _) (Nat.le_add_right _ _) hs1 hs2 (by rw [← AObj.ren_owned]; exact w1) (by rw [← AObj.ren_live]; exact w2) h3 h4 (by omega) (touches_ren ht)
        grow := hpost.grow, os := hpost.os, tape := hpost.tape, output := hpost.output }
  · cases d1

end Go.Proofs.YtpdhfopfjoinnaaDoor.Sx
