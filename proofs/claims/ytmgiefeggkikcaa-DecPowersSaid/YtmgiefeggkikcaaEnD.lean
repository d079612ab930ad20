/- Layer 1: the document's own powers. -/
import Derived.Test.YtmgiefeggkikcaaEnC
import Derived.Test.YtmgiefeggkikcaaPx1
set_option linter.unusedVariables false
set_option linter.unusedSimpArgs false
namespace Go.Proofs.Ytmgiefeggkikcaa
open Go Sx Dc

def st21 (am ae n xm xe i : Int) : PState :=
  ⟨none :: some (.int .i64 n) :: some (.ptr 0 0) :: none :: some (.ptr 1 0) :: some (.int .i64 0) :: some (.ptr 2 0) :: some (.int .i64 i) :: List.replicate 44 none,
   some (.raw (.cells [.int .i64 am, .int .i64 ae] 23)) :: some (.raw (.cells [.int .i64 0, .int .i64 0] 23)) :: some (.raw (.cells [.int .i64 xm, .int .i64 xe] 23)) :: List.replicate 64 none⟩
def fin21 (n e xm xe : Int) : PState :=
  ⟨none :: some (.int .i64 n) :: none :: none :: some (.ptr 0 0) :: some (.int .i64 e) :: some (.ptr 1 0) :: none :: List.replicate 44 none,
   some (.raw (.cells [.int .i64 0, .int .i64 0] 23)) :: some (.raw (.cells [.int .i64 xm, .int .i64 xe] 23)) :: List.replicate 64 none⟩
def go21 (am ae n xm xe i : Int) (t : Int × Int × Int) : Option (Ex × PState) :=
  bcond (t.2.2 != 0) (some (.ret, fin21 n t.2.2 xm xe)) (some (.normal, st21 am ae n t.1 t.2.1 (IntKind.i64.wrap (i + 1))))
theorem round21 (am ae n xm xe i : Int) : code (ent Try.prog tabF nolv 64 1 1) Try.prog {} 0 64 1 ((loopBodies (bodyOf Try.f21)).headD .skip) (st21 am ae n xm xe i) (endK 0 64 (fun n => hasN [1, 2, 4, 5, 6, 7] n) (fun n => hasN [1, 4, 5, 6] n)) =
    bcond (decide (i < n)) (go21 am ae n xm xe i (mulR xm xe am ae)) (bcond (decide (i < IntKind.i64.wrap (0 - n))) (go21 am ae n xm xe i (mulR xm xe am ae)) (some (.exit 0, fin21 n 0 xm xe))) := by kernel_rfl

/-- The last power that is right. -/
def lastX (am ae : Int) : Nat → Int × Int
  | 0 => (1, 0)
  | k + 1 => if (powL am ae (k + 1)).2.2 = 0 then ((powL am ae (k + 1)).1, (powL am ae (k + 1)).2.1) else lastX am ae k
theorem lastX_ok {am ae : Int} {k : Nat} (h : (powL am ae k).2.2 = 0) : lastX am ae k = ((powL am ae k).1, (powL am ae k).2.1) := by
  cases k with
  | zero => simp [lastX, powL]
  | succ k => rw [lastX, if_pos h]
theorem lastX_stays {am ae : Int} {k : Nat} (h : (powL am ae (k + 1)).2.2 ≠ 0) : ∀ n, k ≤ n → lastX am ae n = lastX am ae k
  | 0, hn => by rw [show k = 0 by omega]
  | n + 1, hn => by
    by_cases e : k = n + 1
    · rw [e]
    · have h1 := powL_stays h (n + 1) (by omega)
      rw [lastX, if_neg (by rw [h1]; exact h)]
      exact lastX_stays h n (by omega)
theorem loop21 (am ae n : Int) (hn : -100 ≤ n ∧ n ≤ 100) : Tri Try.prog (.loop ((loopBodies (bodyOf Try.f21)).headD .skip)) (st21 am ae n 1 0 0).toA (bcond ((powL am ae n.natAbs).2.2 == 0) (.exit 0) .ret) (fin21 n (powL am ae n.natAbs).2.2 (lastX am ae n.natAbs).1 (lastX am ae n.natAbs).2).toA 0 := by
  have main := loop_rounds (ι := { q : Nat // q ≤ n.natAbs ∧ (powL am ae q).2.2 = 0 }) (ent_sound (NF := 64) (m := 1) tabF_ok host nolv_ok 1) (lv := {}) (K := 0) (NF := 64) (m := 1) (x := (loopBodies (bodyOf Try.f21)).headD .skip) (fun x hx id e h1 h2 => by cases h2) (fun n => hasN [1, 2, 4, 5, 6, 7] n) (fun n => hasN [1, 4, 5, 6] n)
    (fun q => st21 am ae n (powL am ae q.1).1 (powL am ae q.1).2.1 (q.1 : Int)) (fun q => n.natAbs - q.1) (fun _ => (bcond ((powL am ae n.natAbs).2.2 == 0) (.exit 0) .ret, fin21 n (powL am ae n.natAbs).2.2 (lastX am ae n.natAbs).1 (lastX am ae n.natAbs).2)) ?_ (fun q => by simp only; cases ((powL am ae n.natAbs).2.2 == 0) <;> simp [bcond]) ⟨0, Nat.zero_le _, by rw [powL]⟩
  · have z : powL am ae 0 = (1, 0, 0) := by rw [powL]
    simp only [z] at main; exact main
  rintro ⟨k, hk, h0⟩
  simp only
  rw [round21]
  have wn : IntKind.i64.wrap (0 - n) = 0 - n := i64_in (by omega) (by omega)
  have wk : IntKind.i64.wrap ((k : Int) + 1) = ((k + 1 : Nat) : Int) := by rw [i64_in (by omega) (by omega)]; push_cast; rfl
  have hgo : (k : Int) < n ∨ (k : Int) < 0 - n ↔ k < n.natAbs := by omega
  have hcond : ∀ (x y : Option (Ex × PState)), bcond (decide ((k : Int) < n)) x (bcond (decide ((k : Int) < IntKind.i64.wrap (0 - n))) x y) = bcond (decide (k < n.natAbs)) x y := fun x y => by
    rw [wn]
    by_cases h1 : (k : Int) < n
    · rw [bcT (b := decide ((k : Int) < n)) (decide_eq_true h1), bcT (b := decide (k < n.natAbs)) (decide_eq_true (hgo.1 (.inl h1)))]
    · rw [bcF (b := decide ((k : Int) < n)) (decide_eq_false h1)]
      by_cases h2 : (k : Int) < 0 - n
      · rw [bcT (b := decide ((k : Int) < 0 - n)) (decide_eq_true h2), bcT (b := decide (k < n.natAbs)) (decide_eq_true (hgo.1 (.inr h2)))]
      · rw [bcF (b := decide ((k : Int) < 0 - n)) (decide_eq_false h2), bcF (b := decide (k < n.natAbs)) (decide_eq_false (fun h => by have := hgo.2 h; omega))]
  rw [hcond]
  by_cases hlt : k < n.natAbs
  · rw [bcT (b := decide (k < n.natAbs)) (decide_eq_true hlt)]
    have hstep : powL am ae (k + 1) = if (mulR (powL am ae k).1 (powL am ae k).2.1 am ae).2.2 = 0 then mulR (powL am ae k).1 (powL am ae k).2.1 am ae else (0, 0, (mulR (powL am ae k).1 (powL am ae k).2.1 am ae).2.2) := by rw [powL, if_pos h0]
    unfold go21
    rw [wk]
    by_cases he : (mulR (powL am ae k).1 (powL am ae k).2.1 am ae).2.2 = 0
    · rw [if_pos he] at hstep
      refine .inl ⟨⟨k + 1, by omega, by rw [hstep]; exact he⟩, by simp only; omega, trivial, ?_⟩
      rw [bcF (b := (mulR (powL am ae k).1 (powL am ae k).2.1 am ae).2.2 != 0) (by rw [he]; rfl)]
      simp only [hstep]
    · rw [if_neg he] at hstep
      have hne : (powL am ae (k + 1)).2.2 ≠ 0 := by rw [hstep]; exact he
      have hN : powL am ae n.natAbs = powL am ae (k + 1) := powL_stays hne _ (by omega)
      have hX : lastX am ae n.natAbs = ((powL am ae k).1, (powL am ae k).2.1) := (lastX_stays hne _ (by omega)).trans (lastX_ok h0)
      refine .inr ?_
      rw [bcT (b := (mulR (powL am ae k).1 (powL am ae k).2.1 am ae).2.2 != 0) (by simpa using he), hN, hX, hstep, bcF (b := _ == _) (by simpa using he)]
  · have hkn : k = n.natAbs := by omega
    refine .inr ?_
    rw [bcF (b := decide (k < n.natAbs)) (decide_eq_false hlt), ← hkn, h0, lastX_ok h0]; rfl

def nonesV : Nat → List (Option AV) → Bool
  | 0, [] => true
  | n + 1, none :: r => nonesV n r
  | _, _ => false
theorem nonesV_eq : ∀ (n : Nat) (l : List (Option AV)), nonesV n l = true → l = List.replicate n none
  | 0, [], _ => rfl
  | 0, _ :: _, h => by cases h
  | n + 1, [], h => by cases h
  | n + 1, none :: r, h => by rw [List.replicate_succ, ← nonesV_eq n r h]
  | n + 1, some _ :: r, h => by cases h
def e21 : Nat → PState → LAns := fun K t => match K, t with
  | 0, ⟨none :: some (.int .i64 n) :: some (.ptr 0 0) :: none :: some (.ptr 1 0) :: some (.int .i64 z) :: some (.ptr 2 0) :: some (.int .i64 i) :: rs, some (.raw (.cells [.int .i64 am, .int .i64 ae] 23)) :: some (.raw (.cells [.int .i64 z1, .int .i64 z2] 23)) :: some (.raw (.cells [.int .i64 xm, .int .i64 xe] 23)) :: rm⟩ =>
    .chk (nonesV 44 rs) (.chk (nonesB 64 rm) (.chk (decide (i = 0 ∧ z = 0 ∧ z1 = 0 ∧ z2 = 0 ∧ xm = 1 ∧ xe = 0)) (.chk (decide (-100 ≤ n ∧ n ≤ 100)) (.br ((powL am ae n.natAbs).2.2 == 0) (.out (.exit 0) (fin21 n (powL am ae n.natAbs).2.2 (lastX am ae n.natAbs).1 (lastX am ae n.natAbs).2)) (.out .ret (fin21 n (powL am ae n.natAbs).2.2 (lastX am ae n.natAbs).1 (lastX am ae n.natAbs).2))))))
  | _, _ => .fail
def lv21 : FuncId → Lv := fun f => match f with
  | 21 => { keep := fun _ => some [1, 2, 4, 5, 6, 7], ent := fun i => match i with | 7 => some e21 | _ => none }
  | _ => {}
theorem lv21_ok : LvOK Try.prog lv21 := by
  intro f fn body hf hb K x hx id e hid he t
  by_cases h : f = 21
  · subst h
    obtain rfl : fn = Try.f21 := (Option.some.inj (Try.func21.symm.trans hf)).symm
    have hbody : body = bodyOf Try.f21 := by unfold bodyOf; rw [hb]; rfl
    subst hbody
    have h1 : loopBodies (bodyOf Try.f21) = [(loopBodies (bodyOf Try.f21)).headD .skip] := by kernel_rfl
    rw [h1] at hx
    have hx' := List.mem_singleton.1 hx
    have h2 : id = 7 := by
      have h3 : headReg ((loopBodies (bodyOf Try.f21)).headD .skip) = some 7 := by kernel_rfl
      rw [hx', h3] at hid; exact (Option.some.inj hid).symm
    subst h2
    have he' : e21 = e := Option.some.inj he
    subst he'
    rw [hx']
    clear hx hx' hid he hb hf h1
    unfold e21
    split
    · rename_i n z i rs am ae z1 z2 xm xe rm
      refine ⟨fun g1 => ⟨fun g2 => ⟨fun g3 => ⟨fun g4 => ?_, fun _ => trivial⟩, fun _ => trivial⟩, fun _ => trivial⟩, fun _ => trivial⟩
      obtain ⟨rfl, rfl, rfl, rfl, rfl, rfl⟩ := of_decide_eq_true g3
      rw [nonesV_eq _ _ g1, nonesB_eq _ _ g2]
      have := loop21 am ae n (of_decide_eq_true g4)
      refine ⟨fun hc => ?_, fun hc => ?_⟩
      · rw [bcT hc] at this; exact this
      · rw [bcF hc] at this; exact this
    · trivial
  · exfalso
    have : (lv21 f).ent id = none := by
      unfold lv21
      split
      · exact absurd rfl h
      · rfl
    rw [this] at he; cases he
end Go.Proofs.Ytmgiefeggkikcaa
