/- Layer 1: the examples. -/
import Derived.Test.YtmgiefeggkikcaaEnF
set_option linter.unusedVariables false
set_option linter.unusedSimpArgs false
namespace Go.Proofs.Ytmgiefeggkikcaa
open Go Sx Dc

def unU8 : List AV → Option (List Int)
  | [] => some []
  | .int .u8 n :: r => (unU8 r).map (n :: ·)
  | _ :: _ => none
theorem unU8_eq : ∀ (us : List AV) (ds : List Int), unU8 us = some ds → us = ints .u8 ds
  | [], ds, h => by cases h; rfl
  | v :: r, ds, h => by
    unfold unU8 at h
    split at h
    · rename_i e; cases e
    · rename_i n r' e
      cases e
      simp only [Option.map_eq_some_iff] at h
      obtain ⟨ds', h1, rfl⟩ := h
      rw [unU8_eq _ _ h1]; rfl
    · cases h
def digB (ds : List Int) : Bool := ds.length == 88 && ds.all fun d => decide (0 ≤ d ∧ d ≤ 9)
def eNear : Ent := fun args pre => match args, pre with
  | [.agg (.bool mx :: us)], [] => match unU8 us with
    | some ds => .chk (digB ds) (.ret (.tuple [.agg [.int .i64 (nearM mx ds).1, .int .i64 (nearM mx ds).2], .int .i64 (nearE ds)]) [])
    | none => .fail
  | _, _ => .fail
theorem near_ok : EntOK Try.prog 32 eNear := fun args pre => by
  unfold eNear
  split
  · rename_i mx us
    split
    · rename_i ds hds
      refine ⟨fun hb => ?_, fun _ => trivial⟩
      simp only [digB, Bool.and_eq_true, beq_iff_eq, List.all_eq_true, decide_eq_true_eq] at hb
      have := nearest_meets mx ds hb.1 (fun d hd => hb.2 d hd)
      rw [unU8_eq _ _ hds]
      exact this
    · trivial
  · trivial
def tabX : Tab := (32, eNear) :: tabE
theorem tabX_ok : TabOK Try.prog tabX := .cons near_ok tabE_ok
end Go.Proofs.Ytmgiefeggkikcaa
