/- A law out of a contract: what the given statements ask of a call, told of one that meets a contract. -/
import Derived.Test.YtphhepnldndbhaaGreatDoorGr05
import Derived.ChangeSame
import Derived.JoinedOf
import Derived.JoinedAt
import Derived.RowKit3
import Derived.Lib.SmallJoins
import Derived.WalkKit
import Derived.ProofKit
import Derived.OpenShut
set_option linter.unusedVariables false
set_option linter.unusedSimpArgs false
namespace Go.Proofs.YtphhepnldndbhaaGreatDoor.Sx
open Go Go.ChangeShapes Go.WideShapes Go.ChangeAt Go.RowKit Go.Joins Go.Deep

/-- Nothing that was there is another one. -/
structure Kept (W W' : World) : Prop where
  but : W.keptBut W' (fun _ => False)
  frozen : ∀ b off, b < W.heap.size → W'.frozen? ⟨b, off, none⟩ = W.frozen? ⟨b, off, none⟩

theorem Kept.of {W W' : World} (hos : W'.os = W.os) (hout : W'.output = W.output) (h : ∀ i : Nat, i < W.heap.size → W'.heap[i]? = W.heap[i]?) : Kept W W' where
  but := ⟨hos, hout, fun i hi => by
    have := (World.keptBut_refl W (fun _ => False)).2.2 i hi
    rw [h i hi]; exact this⟩
  frozen := fun b off hb => by unfold World.frozen?; simp only [h b hb]

theorem law_calls {P : Program} {f : FuncId} {vs : List AV} {res : AV} {xs : List Value} {x : Value} (hfy : f ≠ yF) (hent : ∀ args w, (callFunc f args).run P w = .ok (.enter f args) w) (h : Meets P f vs [] res [])
    (hx : denL (fun _ => none) vs = some xs) (hr : den (fun _ => none) res = some x) (w : World) (hgl : GlobOK w fun _ => False) : Calls P f xs.toArray w fun e w' => e = .returned x ∧ Kept w w' := by
  have hp : PreR (fun _ => none) w [] := { objs := fun n o h => by simp at h, fresh := fun _ _ => rfl, apart := fun n m o o' b c b' c' h => by simp at h, glob := fun g hg => let ⟨a, _, c⟩ := hgl g hg; ⟨a, fun ⟨n, o, c, h, _⟩ => by simp at h, c⟩, nest := fun _ _ _ _ e => by cases e }
  have key : ∀ e w', (∃ E' x, e = Ending.returned x ∧ den E' res = some x ∧ PostR (fun _ => none) E' w w' [] []) → e = .returned x ∧ Kept w w' := by
    rintro e w' ⟨E', y, rfl, hd, hpost⟩
    have hE : E' = fun _ => none := funext fun n => hpost.cut n (Nat.zero_le _)
    subst hE
    rw [hr] at hd
    cases hd
    exact ⟨rfl, Kept.of hpost.os hpost.output fun i hi => hpost.keep i hi fun n o c hn => by simp at hn⟩
  rcases (h w (fun _ => none) xs hx hp).to hfy with ⟨g, as, h1, h2⟩ | ⟨v, w', h1, h2⟩
  · rw [hent] at h1
    cases h1
    exact h2.mono key
  · rw [hent] at h1
    cases h1

section
variable {H : Type} {enc : TypeId × Value → H} {P : Program}
theorem post_of_kept {f : Func} {s : ChangeSpec} {apart fresh handsOn again : Bool} {W W' : World} {args : Array Value} {v : Value} {ds gs : List (DataW H)} {before pa pv : List MemPlace}
    (hW : DataW.Whole enc P f.params.toList s.vars apart W args.toList ds gs before)
    (hres : ∀ (b : Nat) (sp : Nat → Bool) (hd : Bool), DataW.TrodAll enc P W' b sp hd f.resultTypes.toList (v.resultList f.resultTypes.size) (s.fn H (ds ++ gs)).results [])
    (hargs : ∀ sp : Nat → Bool, (∀ p ∈ before, sp p.block = true) → DataW.TrodAll enc P W' 0 sp true f.params.toList args.toList (s.fn H (ds ++ gs)).args pa)
    (hvars : ∀ sp : Nat → Bool, (∀ p ∈ before, sp p.block = true) → DataW.TrodVars enc P W' sp s.vars (s.fn H (ds ++ gs)).vars pv)
    (hps : before = pa ++ pv) (hk : Kept W W')
    (hok : ∀ (j : Nat) (t : TypeId) (r : Value), f.resultTypes[j]? = some t → (v.resultList f.resultTypes.size)[j]? = some r → Value.okWide P W' .any 0 t r) :
    s.post enc P f apart fresh handsOn again W args v W' := by
  have hlt : ∀ p ∈ before, p.block < W.heap.size := fun p hp => hW.lt p hp
  have hold : ∀ p ∈ before, (fun b => decide (b < W.heap.size)) p.block = true := fun p hp => by simpa using hlt p hp
  refine ⟨ds, gs, before, [], pa, pv, hW, hres _ _ _, hargs _ hold, hvars _ hold, World.keptBut_mono (fun p hp => hp.elim) hk.but, fun _ => ?_⟩
  obtain ⟨_, _, _, _, _, hz, hn⟩ := hW
  refine ⟨hok, _, _, ([] ++ pa) ++ pv, ⟨[] ++ pa, pv, trodAll_append (hargs _ (fun _ _ => rfl)) (hres _ _ _), hvars _ (fun _ _ => rfl), rfl, ?_, ?_⟩, ?_⟩
  · intro b off hp
    have hb : MemPlace.cell b off ∈ before := by rw [hps]; simpa using hp
    rw [hk.frozen b off (hlt _ hb)]
    exact hz b off hb
  · intro ha
    have := hn ha
    rw [hps] at this
    simpa using this
  · intro p hp _
    rw [hps]
    simpa using hp

/-- A struct of two numbers, by value. -/
theorem open_two {w : World} {base b0 : Nat} {spare : Nat → Bool} {held : Bool} {r : Reach} {t : TypeId} {f0 f1 : Field} {k0 k1 : IntKind} {v : Value} {d : DataW H} {p : List MemPlace} (hs : P.underlying t = some (.struct #[f0, f1])) (hone : oneCellFields P #[f0, f1] = true) (hC : P.cellsOf t = 2)
    (u0 : P.underlying f0.type = some (.int k0)) (u1 : P.underlying f1.type = some (.int k1)) (hv : Value.okWide P w r b0 t v) (h : DataW.Trod enc P w base spare held t v d p) :
    ∃ a b : Int, v = .agg #[.int k0 a, .int k1 b] ∧ d = .agg [.lit (.int k0 a), .lit (.int k1 b)] ∧ p = [] ∧ (Lit.int k0 a).wf = true ∧ (Lit.int k1 b).wf = true := by
  obtain ⟨c0, c1, y0, y1, m, rfl, rfl, rfl, hy0, hy1⟩ := open_agg2 hs hone hC hv h
  obtain ⟨a, e0, rfl, wa⟩ := DataW.trod_int u0 hy0
  obtain ⟨b, e1, rfl, wb⟩ := DataW.trod_int u1 hy1
  simp at e0 e1
  subst e0 e1
  exact ⟨a, b, rfl, rfl, rfl, wa, wb⟩
theorem shut_two {w : World} {base : Nat} {spare : Nat → Bool} {held : Bool} {t : TypeId} {f0 f1 : Field} {k0 k1 : IntKind} {a b : Int} (hs : P.underlying t = some (.struct #[f0, f1])) (hone : oneCellFields P #[f0, f1] = true) (hC : P.cellsOf t = 2)
    (u0 : P.underlying f0.type = some (.int k0)) (u1 : P.underlying f1.type = some (.int k1)) (wa : (Lit.int k0 a).wf = true) (wb : (Lit.int k1 b).wf = true) :
    DataW.Trod enc P w base spare held t (.agg #[.int k0 a, .int k1 b]) (.agg [.lit (.int k0 a), .lit (.int k1 b)]) [] :=
  shut_agg2 (y0 := (.lit (.int k0 a), [])) (y1 := (.lit (.int k1 b), [])) hs hone hC ⟨1, by simp [DataW.trod, u0, wa]⟩ ⟨1, by simp [DataW.trod, u1, wb]⟩
end

theorem wf_i64 {n : Int} (h : (Lit.int .i64 n).wf = true) : -9223372036854775808 ≤ n ∧ n < 9223372036854775808 := by
  simp only [Lit.wf, IntKind.has, IntKind.min, IntKind.max, IntKind.bits, IntKind.signed, Bool.and_eq_true, decide_eq_true_eq] at h
  simp at h
  omega
theorem str_max {s : ByteArray} (h : s.size ≤ maxLen) : s.data.toList.length ≤ 9223372036854775807 := by
  have e : s.data.toList.length = s.size := Array.length_toList
  rw [e]; exact Nat.le_trans h (Nat.le_of_ble_eq_true (by kernel_rfl))
theorem den_str {E : Env} {s : ByteArray} : den E (.str s.data.toList) = some (.string s) := by
  simp [den]

end Go.Proofs.YtphhepnldndbhaaGreatDoor.Sx
