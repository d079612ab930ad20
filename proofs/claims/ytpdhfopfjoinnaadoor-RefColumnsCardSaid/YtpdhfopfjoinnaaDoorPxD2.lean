/- The evaluator, part D2: states are told anew, so that what is handed on is short. -/
import Derived.Test.YtpdhfopfjoinnaaDoorPxD
set_option linter.unusedVariables false
namespace Go.Proofs.YtpdhfopfjoinnaaDoor.Sx
open Go
variable {β : Type}

def forceN (n : Nat) (k : Nat → β) : β := match n with | 0 => k 0 | m + 1 => k (m + 1)
theorem forceN_eq (n : Nat) (k : Nat → β) : forceN n k = k n := by cases n <;> rfl
mutual
def forceV : AV → (AV → β) → β
  | .agg cs, k => forceVL cs fun cs => k (.agg cs)
  | .tuple cs, k => forceVL cs fun cs => k (.tuple cs)
  | .func f as cs, k => forceVL as fun as => forceVL cs fun cs => k (.func f as cs)
  | .iface t v, k => forceV v fun v => k (.iface t v)
  | .ptr nm off, k => forceN nm fun nm => k (.ptr nm off)
  | .slice nm off l c, k => forceN nm fun nm => k (.slice nm off l c)
  | .vec nm l, k => forceN nm fun nm => k (.vec nm l)
  | .dsl nm l, k => forceN nm fun nm => k (.dsl nm l)
  | .dptr nm l, k => forceN nm fun nm => k (.dptr nm l)
  | .gptr nm l, k => forceN nm fun nm => k (.gptr nm l)
  | .bool b, k => k (.bool b)
  | .int kd n, k => k (.int kd n)
  | .str s, k => k (.str s)
  | .nilptr, k => k .nilptr
  | .nilslice, k => k .nilslice
  | .nilfunc, k => k .nilfunc
  | .niliface, k => k .niliface
  | .bad, k => k .bad
def forceVL : List AV → (List AV → β) → β
  | [], k => k []
  | v :: vs, k => forceV v fun v => forceVL vs fun vs => k (v :: vs)
end
mutual
theorem forceV_eq : ∀ (v : AV) (k : AV → β), forceV v k = k v
  | .agg cs, k => by rw [forceV, forceVL_eq]
  | .tuple cs, k => by rw [forceV, forceVL_eq]
  | .func f as cs, k => by rw [forceV, forceVL_eq, forceVL_eq]
  | .iface t v, k => by rw [forceV, forceV_eq]
  | .ptr nm off, k => by rw [forceV, forceN_eq]
  | .slice nm off l c, k => by rw [forceV, forceN_eq]
  | .vec nm l, k => by rw [forceV, forceN_eq]
  | .dsl nm l, k => by rw [forceV, forceN_eq]
  | .dptr nm l, k => by rw [forceV, forceN_eq]
  | .gptr nm l, k => by rw [forceV, forceN_eq]
  | .bool b, k => by rw [forceV]
  | .int kd n, k => by rw [forceV]
  | .str s, k => by rw [forceV]
  | .nilptr, k => by rw [forceV]
  | .nilslice, k => by rw [forceV]
  | .nilfunc, k => by rw [forceV]
  | .niliface, k => by rw [forceV]
  | .bad, k => by rw [forceV]
theorem forceVL_eq : ∀ (vs : List AV) (k : List AV → β), forceVL vs k = k vs
  | [], k => by rw [forceVL]
  | v :: vs, k => by rw [forceVL, forceV_eq, forceVL_eq]
end
def forceO : PObj → (PObj → β) → β
  | .raw (.cells cs t), k => forceVL cs fun cs => k (.raw (.cells cs t))
  | .raw (.vec cs t sz), k => forceVL cs fun cs => k (.raw (.vec cs t sz))
  | .raw (.ro off cs), k => forceVL cs fun cs => k (.raw (.ro off cs))
  | .raw (.flat m cs), k => forceVL cs fun cs => k (.raw (.flat m cs))
  | .raw (.iter s p), k => k (.raw (.iter s p))
  | .raw .dead, k => k (.raw .dead)
  | .vecI kd l t, k => k (.vecI kd l t)
  | .arrI kd l t, k => k (.arrI kd l t)
  | .vecB l t, k => k (.vecB l t)
  | .arrB l t, k => k (.arrB l t)
theorem forceO_eq (o : PObj) (k : PObj → β) : forceO o k = k o := by
  cases o with
  | raw o => cases o <;> simp only [forceO, forceVL_eq]
  | _ => rfl
def forceSl : List (Option AV) → (List (Option AV) → β) → β
  | [], k => k []
  | none :: vs, k => forceSl vs fun vs => k (none :: vs)
  | some v :: vs, k => forceV v fun v => forceSl vs fun vs => k (some v :: vs)
theorem forceSl_eq : ∀ (vs : List (Option AV)) (k : List (Option AV) → β), forceSl vs k = k vs
  | [], k => rfl
  | none :: vs, k => by rw [forceSl, forceSl_eq vs]
  | some v :: vs, k => by rw [forceSl, forceV_eq, forceSl_eq vs]
def forceM : List (Option PObj) → (List (Option PObj) → β) → β
  | [], k => k []
  | none :: vs, k => forceM vs fun vs => k (none :: vs)
  | some v :: vs, k => forceO v fun v => forceM vs fun vs => k (some v :: vs)
theorem forceM_eq : ∀ (vs : List (Option PObj)) (k : List (Option PObj) → β), forceM vs k = k vs
  | [], k => rfl
  | none :: vs, k => by rw [forceM, forceM_eq vs]
  | some v :: vs, k => by rw [forceM, forceO_eq, forceM_eq vs]
def forcePL : List PObj → (List PObj → β) → β
  | [], k => k []
  | v :: vs, k => forceO v fun v => forcePL vs fun vs => k (v :: vs)
theorem forcePL_eq : ∀ (vs : List PObj) (k : List PObj → β), forcePL vs k = k vs
  | [], k => rfl
  | v :: vs, k => by rw [forcePL, forceO_eq, forcePL_eq vs]
def forceS (s : PState) (k : PState → β) : β := forceSl s.slots fun sl => forceM s.mem fun m => k ⟨sl, m⟩
theorem forceS_eq (s : PState) (k : PState → β) : forceS s k = k s := by rw [forceS, forceSl_eq, forceM_eq]

end Go.Proofs.YtpdhfopfjoinnaaDoor.Sx
