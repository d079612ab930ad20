/- strconv.Atoi as an entry: the number, or an error that is not nil. -/
import Derived.Test.YtanhlbdcjonaoaaDoorRcB
set_option linter.unusedVariables false
set_option linter.unusedSimpArgs false
namespace Go.Proofs.YtanhlbdcjonaoaaDoor
open Go Sx Go.Shelf

def atoB (l : List UInt8) : Bool := match Lib.atoiAll l with | .ok _ => true | _ => false
def atoV (l : List UInt8) : Int := match Lib.atoiAll l with | .ok v => v | .range => Lib.atoiSat l | _ => 0
def eAtoi : Ent := fun args pre => match args, pre with
  | [.str l], [] => .chk (decide (l.length ≤ 1000000)) (.br (atoB l) (.ret (.tuple [.int .i64 (atoV l), .niliface]) []) (.ret (.tuple [.int .i64 (atoV l), .iface 106 (.ptr 0 0)]) [.raw .dead]))
  | _, _ => .fail
theorem ato_bad {w : World} {E : Env} {l : List UInt8} {v : Int} (hp : PreR E w []) {cs : Value × Value × Value}
    (h : Calls Tryd.prog 55 #[.string ⟨l.toArray⟩] w fun e w' => ∃ N, e = .returned (.tuple #[.int .i64 v, .iface 106 (.pointer (some ⟨N, 0, none⟩))]) ∧ w.heap.size ≤ N ∧ w'.heap[N]? = some (.cells #[cs.1, cs.2.1, cs.2.2] 126 (0, 0)) ∧ RowKit.Below w.heap.size w w') :
    Does Tryd.prog 55 #[.string ⟨l.toArray⟩] w fun e w' => ∃ E' x, e = .returned x ∧ den E' (.tuple [.int .i64 v, .iface 106 (.ptr 0 0)]) = some x ∧ PostR E E' w w' [] [.dead] := by
  refine .inl ⟨55, _, Tryd.call55 _ _, h.mono ?_⟩
  rintro e w' ⟨N, rfl, hN, hc, hb⟩
  have hE : ∀ m, E m = none := fun m => hp.fresh m (Nat.zero_le _)
  refine ⟨E.set 0 (N, { n := 0 }), _, rfl, by simp [den, denL, Env.set_same], {
    le := .set (hE 0)
    cut := fun m hm => by rw [Env.set_other _ _ (by simp at hm; omega)]; exact hE m
    objs := fun m o hm => by
      cases m with
      | succ m => simp at hm
      | zero => simp at hm; subst hm; exact ⟨_, _, Env.set_same _ _ _, trivial⟩
    made := fun m b c o _ hm hEm ht' => by
      cases m with
      | succ m => simp at hm
      | zero => rw [Env.set_same] at hEm; cases hEm; exact .inl hN
    keep := fun j hj _ => hb.block j hj
    newApart := fun m m' o o' b c b' c' _ _ hm hm' _ _ _ _ hne => by
      cases m with
      | succ m => simp at hm
      | zero => cases m' with
        | succ m' => simp at hm'
        | zero => exact absurd rfl hne
    grow := hb.size, os := hb.os, tape := hb.tape, output := hb.output }⟩
theorem atoi_ok : EntOK Tryd.prog 55 eAtoi := fun args pre => by
  unfold eAtoi
  split
  · rename_i l
    refine ⟨fun hl => ?_, fun _ => trivial⟩
    have hl := of_decide_eq_true hl
    unfold atoB atoV
    refine ⟨fun hb => ?_, fun hb => ?_⟩
    · rcases hx : Lib.atoiAll l with v | _ | _
      · skip
        intro w E vs hvs hp
        obtain ⟨x, zs, hx', hz, rfl⟩ := denL_cons.1 hvs
        simp only [denL, Option.some.injEq] at hz
        subst hz
        obtain rfl : x = .string ⟨l.toArray⟩ := by simpa [den] using hx'.symm
        have hc := Any.strconv_Atoi_ok layAtoi ⟨l.toArray⟩ (by simp [ByteArray.size]; omega) v (by simpa using hx) w
        refine .inl ⟨55, _, Tryd.call55 _ _, hc.mono ?_⟩
        rintro e w' ⟨rfl, hw⟩
        have hbl : RowKit.Below w.heap.size w w' := by
          rcases hw with rfl | ⟨t, rfl⟩
          · exact RowKit.Below.refl _ _
          · exact Lib.bytesWorld_below _ _ _
        exact ⟨E, _, rfl, rfl, ⟨.refl _, hp.fresh, fun n o h => by simp at h, fun n b c o _ h => by simp at h, fun k hk _ => hbl.block k hk, fun n m o o' b c b' c' _ _ h => by simp at h, hbl.size, hbl.os, hbl.tape, hbl.output⟩⟩
      · rw [hx] at hb; cases hb
      · rw [hx] at hb; cases hb
    · rcases hx : Lib.atoiAll l with v | _ | _
      · rw [hx] at hb; cases hb
      · skip
        intro w E vs hvs hp
        obtain ⟨x, zs, hx', hz, rfl⟩ := denL_cons.1 hvs
        simp only [denL, Option.some.injEq] at hz
        subst hz
        obtain rfl : x = .string ⟨l.toArray⟩ := by simpa [den] using hx'.symm
        obtain ⟨te, pe, hv⟩ := hp.glob.err (g := 4) rfl
        exact ato_bad hp (cs := (_, _, _)) (Any.strconv_Atoi_syntax layAtoi ⟨l.toArray⟩ (by simp [ByteArray.size]; omega) (by simpa using hx) _ w hv (.inr ⟨te, pe, rfl⟩))
      · skip
        intro w E vs hvs hp
        obtain ⟨x, zs, hx', hz, rfl⟩ := denL_cons.1 hvs
        simp only [denL, Option.some.injEq] at hz
        subst hz
        obtain rfl : x = .string ⟨l.toArray⟩ := by simpa [den] using hx'.symm
        obtain ⟨te, pe, hv⟩ := hp.glob.err (g := 5) rfl
        exact ato_bad hp (cs := (_, _, _)) (Any.strconv_Atoi_range layAtoi ⟨l.toArray⟩ (by simp [ByteArray.size]; omega) (by simpa using hx) _ w hv (.inr ⟨te, pe, rfl⟩))
  · trivial
end Go.Proofs.YtanhlbdcjonaoaaDoor
