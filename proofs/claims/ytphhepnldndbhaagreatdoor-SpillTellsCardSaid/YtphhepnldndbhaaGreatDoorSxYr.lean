import Derived.Test.YtphhepnldndbhaaGreatDoorSxY
import Derived.ReadAgain
import Derived.Deep.Slices
import Derived.Deep.Frames
set_option linter.unusedVariables false
set_option linter.unusedSimpArgs false
namespace Go.Proofs.YtphhepnldndbhaaGreatDoor.Sx
open Go Go.ChangeShapes Go.WideShapes Go.ChangeAt Go.RowKit Go.Joins Go.Deep
theorem law_calls_rows {P : Program} {f : FuncId} {vs : List AV} {pre post : List AObj} {b : Bool} {xs : List Value} {E : Env} {w : World} (hfy : f ≠ yF) (hent : ∀ args w, (callFunc f args).run P w = .ok (.enter f args) w) (h : Meets P f vs pre (.bool b) post)
    (hx : denL E vs = some xs) (ho : ∀ (n : Nat) (o : AObj), pre[n]? = some o → o.owned = false ∧ ∃ b c, E n = some (b, c) ∧ ObjR E w b c o) (hE : ∀ n, pre.length ≤ n → E n = none) (hgl : GlobOK w fun _ => False) (hnest : ∀ (m b : Nat) (c : Cap) (k : Nat), E m = some (b, c) → under c k → k < w.heap.size) : Calls P f xs.toArray w fun e w' => e = .returned (.bool b) ∧ Kept w w' ∧ ∀ i : Nat, i < w.heap.size → w'.heap[i]? = w.heap[i]? := by
  have hp : PreR E w pre := { objs := fun n o h => (ho n o h).2, fresh := hE, apart := fun n m o o' b c b' c' h1 h2 h3 => absurd ((ho n o h1).1.symm.trans h3) (by simp), glob := fun g hg => let ⟨a, _, c⟩ := hgl g hg; ⟨a, fun ⟨n, o, c, h1, h2, _⟩ => absurd ((ho n o h1).1.symm.trans h2) (by simp), c⟩, nest := fun m b c k e1 e2 => ⟨hnest m b c k e1 e2, fun n o c' h1 h2 => absurd ((ho n o h1).1.symm.trans h2) (by simp)⟩ }
  have key : ∀ e w', (∃ E' x, e = Ending.returned x ∧ den E' (.bool b) = some x ∧ PostR E E' w w' pre post) → e = .returned (.bool b) ∧ Kept w w' ∧ ∀ i : Nat, i < w.heap.size → w'.heap[i]? = w.heap[i]? := by
    rintro e w' ⟨E', y, rfl, hd, hpost⟩
    simp only [den, Option.some.injEq] at hd
    subst hd
    have hk : ∀ i : Nat, i < w.heap.size → w'.heap[i]? = w.heap[i]? := fun i hi => hpost.keep i hi fun n o c hn h2 => absurd ((ho n o hn).1.symm.trans h2) (by simp)
    exact ⟨rfl, Kept.of hpost.os hpost.output hk, hk⟩
  rcases (h w E xs hx hp).to hfy with ⟨g, as', h1, h2⟩ | ⟨v, w', h1, h2⟩
  · rw [hent] at h1
    cases h1
    exact h2.mono key
  · rw [hent] at h1
    cases h1
section
variable {H : Type} {enc : TypeId × Value → H} {P : Program}
theorem trodAll_carry {w w' : World} {base : Nat} {spare : Nat → Bool} {held : Bool} : ∀ {ts : List TypeId} {vs : List Value} {ds : List (DataW H)} {ps : List MemPlace},
    DataW.TrodAll enc P w base spare held ts vs ds ps → (∀ p ∈ ps, w.sameAt w' p) → DataW.TrodAll enc P w' base spare held ts vs ds ps
  | [], [], [], ps, h, _ => h
  | t :: ts, v :: vs, d :: ds, ps, h, hs => by
    obtain ⟨p, q, ⟨n, h1⟩, h2, rfl⟩ := h
    exact ⟨p, q, ⟨n, DataW.trod_carry n t _ _ h1 fun x hx => hs x (List.mem_append_left _ hx)⟩, trodAll_carry h2 fun x hx => hs x (List.mem_append_right _ hx), rfl⟩
theorem kept_same {w w' : World} (h : ∀ i : Nat, i < w.heap.size → w'.heap[i]? = w.heap[i]?) {p : MemPlace} (hp : p.block < w.heap.size) : w.sameAt w' p := by
  cases p with
  | cell b o => show w'.cell? _ = w.cell? _; unfold World.cell?; simp only [h b hp]
  | map b => exact h b hp
end
end Go.Proofs.YtphhepnldndbhaaGreatDoor.Sx
