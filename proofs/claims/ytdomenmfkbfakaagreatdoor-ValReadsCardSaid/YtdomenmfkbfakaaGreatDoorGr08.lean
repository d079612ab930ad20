
import Derived.Test.YtdomenmfkbfakaaGreatDoorGr07
import Derived.Test.YtdomenmfkbfakaaGreatDoorGr05
import Derived.Test.YtdomenmfkbfakaaGreatDoorProg
import Derived.KernelRfl
import Derived.Test.YtdomenmfkbfakaaGreatDoorDecA
set_option linter.unusedVariables false
set_option linter.unusedSimpArgs false
set_option maxRecDepth 20000
namespace Go.Proofs.YtdomenmfkbfakaaGreatDoor.Dq
open Go Sx Dc

/-- What is read of a text. -/
def readR (s : List UInt8) : Int × Int × Int :=
  if okW s = true then
    (if nearE (digs 88 (wrS s)) = 0 ∧ digs 88 (aV (nearM (minusB s) (digs 88 (wrS s))).1 (nearM (minusB s) (digs 88 (wrS s))).2) = digs 88 (wrS s) then ((nearM (minusB s) (digs 88 (wrS s))).1, (nearM (minusB s) (digs 88 (wrS s))).2, 0) else bad3)
  else (0, 0, 12)

theorem read_meets (s : List UInt8) (hs : s.length < 1000000) : Meets Tryz.prog 44 [jS s] [] (jT [jA [jI ((readR s).1), jI ((readR s).2.1)], jI ((readR s).2.2)]) [] := by
  have hnb := nearM_bounds (digs_dig 88 (wrS s)) (minusB s)
  let q1 : List Orc := [rG [hhN 0 0]]
  by_cases c1 : okW s = true
  · have o1 := oA (oC (written_yes s hs c1) rfl) <| oA (oS (show AV.ren [] (jT [jA ((jB (minusB s)) :: (ints .u8 (digs 88 (wrS s)))), jB true]) = jT [jA ((jB (minusB s)) :: (ints .u8 (digs 88 (wrS s)))), jB true] from by simp only [renL, AV.ren, renL_ints, renL_u8s, renL_append])) <| oA (oS (show AObj.cells (zeroCellsA Tryz.prog 96) 96 = jC ((jB false) :: (ints .u8 (List.replicate 88 0))) 96 from by kernel_rfl)) <| oA (oSw (n := 89) ((jB (minusB s)) :: (ints .u8 (digs 88 (wrS s)))) ((jB false) :: (ints .u8 (List.replicate 88 0))) 96 lnO lnO) <| oA (oS (show AV.bool (!true) = jB false from rfl)) <| oA (oLw (n := 89) ((jB (minusB s)) :: (ints .u8 (digs 88 (wrS s)))) lnO) <| oA (oS (show [jA ((jB (minusB s)) :: (ints .u8 (digs 88 (wrS s))))] = renL [] [jA ((jB (minusB s)) :: (ints .u8 (digs 88 (wrS s))))] from by simp only [renL, AV.ren, renL_ints, renL_u8s, renL_append])) <| oA (oS (show Meets Tryz.prog 96 [jA ((jB (minusB s)) :: (ints .u8 (digs 88 (wrS s))))] [] (jT [jA [jI ((nearM (minusB s) (digs 88 (wrS s))).1), jI ((nearM (minusB s) (digs 88 (wrS s))).2)], jI (nearE (digs 88 (wrS s)))]) [] from nearest_meets _ _ (digs_length _ _) (digs_dig _ _))) <| oSw ([jI ((nearM (minusB s) (digs 88 (wrS s))).1), jI ((nearM (minusB s) (digs 88 (wrS s))).2)]) ([jI 0, jI 0]) 23 (rfl) (rfl)
    let q2 : List Orc := [rG [(1, {call := some ⟨[], [jS s], [], jT [jA ((jB (minusB s)) :: (ints .u8 (digs 88 (wrS s)))), jB true], []⟩, val := some (jT [jA ((jB (minusB s)) :: (ints .u8 (digs 88 (wrS s)))), jB true])}), (5, {nm := [1], obj := some [jC ((jB false) :: (ints .u8 (List.replicate 88 0))) 96]}), (6, {obj := some [jC ((jB (minusB s)) :: (ints .u8 (digs 88 (wrS s)))) 96]})], rG [hhB 1 false], rG [hhV 0 (jA ((jB (minusB s)) :: (ints .u8 (digs 88 (wrS s))))), (1, {call := some ⟨[], [jA ((jB (minusB s)) :: (ints .u8 (digs 88 (wrS s))))], [], jT [jA [jI ((nearM (minusB s) (digs 88 (wrS s))).1), jI ((nearM (minusB s) (digs 88 (wrS s))).2)], jI (nearE (digs 88 (wrS s)))], []⟩}), hhN 5 2, (6, {obj := some [jC [jI ((nearM (minusB s) (digs 88 (wrS s))).1), jI ((nearM (minusB s) (digs 88 (wrS s))).2)] 23]})]]
    by_cases c2 : (nearE (digs 88 (wrS s))) = 0
    · by_cases c3 : digs 88 (aV ((nearM (minusB s) (digs 88 (wrS s))).1) ((nearM (minusB s) (digs 88 (wrS s))).2)) = digs 88 (wrS s)
      · exact meets_run (fn := Tryz.f44) 3 (q1 ++ (q2 ++ [rG [hhB 1 false, hhV 3 (jA [jI ((nearM (minusB s) (digs 88 (wrS s))).1), jI ((nearM (minusB s) (digs 88 (wrS s))).2)]), (4, {call := some ⟨[], [jA [jI ((nearM (minusB s) (digs 88 (wrS s))).1), jI ((nearM (minusB s) (digs 88 (wrS s))).2)]], [], jA ((jB (decide ((nearM (minusB s) (digs 88 (wrS s))).1 < 0))) :: (ints .u8 (digs 88 (aV ((nearM (minusB s) (digs 88 (wrS s))).1) ((nearM (minusB s) (digs 88 (wrS s))).2))))), []⟩, val := some (jA ((jB (decide ((nearM (minusB s) (digs 88 (wrS s))).1 < 0))) :: (ints .u8 (digs 88 (aV ((nearM (minusB s) (digs 88 (wrS s))).1) ((nearM (minusB s) (digs 88 (wrS s))).2))))))}), hhV 5 (jA (ints .u8 (digs 88 (aV ((nearM (minusB s) (digs 88 (wrS s))).1) ((nearM (minusB s) (digs 88 (wrS s))).2))))), hhV 7 (jA (ints .u8 (digs 88 (wrS s)))), (8, {nm := [0], val := some (AV.bool true)})], rG [hhV 0 (jA [jI ((nearM (minusB s) (digs 88 (wrS s))).1), jI ((nearM (minusB s) (digs 88 (wrS s))).2)]), (1, {obj := some [jC [jI ((nearM (minusB s) (digs 88 (wrS s))).1), jI ((nearM (minusB s) (digs 88 (wrS s))).2)] 23]})]])) [{val := some (jA [jI ((nearM (minusB s) (digs 88 (wrS s))).1), jI ((nearM (minusB s) (digs 88 (wrS s))).2)])}, {}] Tryz.func44 (by kernel_rfl) Tryz.call44
          (oA o1 <| oA (oS (neF c2)) <| oA (oLw ([jI ((nearM (minusB s) (digs 88 (wrS s))).1), jI ((nearM (minusB s) (digs 88 (wrS s))).2)]) (rfl)) <| oA (oC (show Meets Tryz.prog 78 [jA [jI ((nearM (minusB s) (digs 88 (wrS s))).1), jI ((nearM (minusB s) (digs 88 (wrS s))).2)]] [] (jA ((jB (decide ((nearM (minusB s) (digs 88 (wrS s))).1 < 0))) :: (ints .u8 (digs 88 (aV ((nearM (minusB s) (digs 88 (wrS s))).1) ((nearM (minusB s) (digs 88 (wrS s))).2)))))) [] from lay_meets _ _ _ hnb.1 (by omega) (digs_aV _ _)) rfl) <| oA (oS (show AV.ren [] (jA ((jB (decide ((nearM (minusB s) (digs 88 (wrS s))).1 < 0))) :: (ints .u8 (digs 88 (aV ((nearM (minusB s) (digs 88 (wrS s))).1) ((nearM (minusB s) (digs 88 (wrS s))).2)))))) = jA ((jB (decide ((nearM (minusB s) (digs 88 (wrS s))).1 < 0))) :: (ints .u8 (digs 88 (aV ((nearM (minusB s) (digs 88 (wrS s))).1) ((nearM (minusB s) (digs 88 (wrS s))).2))))) from by simp only [renL, AV.ren, renL_ints, renL_u8s, renL_append])) <| oA (oS (show 1 + 88 ≤ List.length ((jB (decide ((nearM (minusB s) (digs 88 (wrS s))).1 < 0))) :: (ints .u8 (digs 88 (aV ((nearM (minusB s) (digs 88 (wrS s))).1) ((nearM (minusB s) (digs 88 (wrS s))).2))))) from lnO)) <| oA (oS (show AV.agg (List.take 88 (List.drop 1 ((jB (decide ((nearM (minusB s) (digs 88 (wrS s))).1 < 0))) :: (ints .u8 (digs 88 (aV ((nearM (minusB s) (digs 88 (wrS s))).1) ((nearM (minusB s) (digs 88 (wrS s))).2))))))) = jA (ints .u8 (digs 88 (aV ((nearM (minusB s) (digs 88 (wrS s))).1) ((nearM (minusB s) (digs 88 (wrS s))).2)))) from congrArg AV.agg (part_at [jB (decide ((nearM (minusB s) (digs 88 (wrS s))).1 < 0))] rfl (by simp only [List.length_cons, List.length_nil, List.length_append, ints_length, u8s_length, List.length_replicate, List.length_set, List.length_map, digs_length])))) <| oA (oS (show 0 ≤ 1 from Nat.zero_le _)) <| oA (oS (show 1 - 0 + 88 ≤ List.length ((jB (minusB s)) :: (ints .u8 (digs 88 (wrS s)))) from lnO)) <| oA (oS (show List.take 88 (List.drop (1 - 0) ((jB (minusB s)) :: (ints .u8 (digs 88 (wrS s))))) = ints .u8 (digs 88 (wrS s)) from part_at [jB (minusB s)] rfl (by simp only [List.length_cons, List.length_nil, List.length_append, ints_length, u8s_length, List.length_replicate, List.length_set, List.length_map, digs_length]))) <| oA (oS (show EqR Tryz.prog 94 (jA (ints .u8 (digs 88 (aV ((nearM (minusB s) (digs 88 (wrS s))).1) ((nearM (minusB s) (digs 88 (wrS s))).2))))) (jA (ints .u8 (digs 88 (wrS s)))) true from (eqR_ints (n := 88) (e := 5) (by kernel_rfl) (k' := .u8) (by kernel_rfl) (by kernel_rfl) (digs 88 (aV ((nearM (minusB s) (digs 88 (wrS s))).1) ((nearM (minusB s) (digs 88 (wrS s))).2))) (digs 88 (wrS s)) (by simp only [List.length_cons, List.length_nil, List.length_append, ints_length, u8s_length, List.length_replicate, List.length_set, List.length_map, digs_length]) (by simp only [List.length_cons, List.length_nil, List.length_append, ints_length, u8s_length, List.length_replicate, List.length_set, List.length_map, digs_length])).to (decide_eq_true c3))) <| oA (oLw ([jI ((nearM (minusB s) (digs 88 (wrS s))).1), jI ((nearM (minusB s) (digs 88 (wrS s))).2)]) (rfl)) <| oSw ([jI ((nearM (minusB s) (digs 88 (wrS s))).1), jI ((nearM (minusB s) (digs 88 (wrS s))).2)]) ([jI 0, jI 0]) 23 (rfl) (rfl))
          (oA (oLw ([jI ((nearM (minusB s) (digs 88 (wrS s))).1), jI ((nearM (minusB s) (digs 88 (wrS s))).2)]) (rfl)) <| oA (oS (show jT [jA [jI ((nearM (minusB s) (digs 88 (wrS s))).1), jI ((nearM (minusB s) (digs 88 (wrS s))).2)], jI 0] = jT [jA [jI ((readR s).1), jI ((readR s).2.1)], jI ((readR s).2.2)] from by simp [readR, bad3, *])) <| oV (D := (fun n => decide (0 ≤ n))) (jT [jA [jI ((readR s).1), jI ((readR s).2.1)], jI ((readR s).2.2)]) rfl) (by kernel_rfl)
      · exact meets_run (fn := Tryz.f44) 3 (q1 ++ (q2 ++ [rG [hhB 1 false, hhV 3 (jA [jI ((nearM (minusB s) (digs 88 (wrS s))).1), jI ((nearM (minusB s) (digs 88 (wrS s))).2)]), (4, {call := some ⟨[], [jA [jI ((nearM (minusB s) (digs 88 (wrS s))).1), jI ((nearM (minusB s) (digs 88 (wrS s))).2)]], [], jA ((jB (decide ((nearM (minusB s) (digs 88 (wrS s))).1 < 0))) :: (ints .u8 (digs 88 (aV ((nearM (minusB s) (digs 88 (wrS s))).1) ((nearM (minusB s) (digs 88 (wrS s))).2))))), []⟩, val := some (jA ((jB (decide ((nearM (minusB s) (digs 88 (wrS s))).1 < 0))) :: (ints .u8 (digs 88 (aV ((nearM (minusB s) (digs 88 (wrS s))).1) ((nearM (minusB s) (digs 88 (wrS s))).2))))))}), hhV 5 (jA (ints .u8 (digs 88 (aV ((nearM (minusB s) (digs 88 (wrS s))).1) ((nearM (minusB s) (digs 88 (wrS s))).2))))), hhV 7 (jA (ints .u8 (digs 88 (wrS s)))), (8, {nm := [0], val := some (AV.bool false)})], rG [(1, {obj := some [jC [jI 0, jI 0] 23]})]])) [{val := some (jA [jI 0, jI 0])}, {}] Tryz.func44 (by kernel_rfl) Tryz.call44
          (oA o1 <| oA (oS (neF c2)) <| oA (oLw ([jI ((nearM (minusB s) (digs 88 (wrS s))).1), jI ((nearM (minusB s) (digs 88 (wrS s))).2)]) (rfl)) <| oA (oC (show Meets Tryz.prog 78 [jA [jI ((nearM (minusB s) (digs 88 (wrS s))).1), jI ((nearM (minusB s) (digs 88 (wrS s))).2)]] [] (jA ((jB (decide ((nearM (minusB s) (digs 88 (wrS s))).1 < 0))) :: (ints .u8 (digs 88 (aV ((nearM (minusB s) (digs 88 (wrS s))).1) ((nearM (minusB s) (digs 88 (wrS s))).2)))))) [] from lay_meets _ _ _ hnb.1 (by omega) (digs_aV _ _)) rfl) <| oA (oS (show AV.ren [] (jA ((jB (decide ((nearM (minusB s) (digs 88 (wrS s))).1 < 0))) :: (ints .u8 (digs 88 (aV ((nearM (minusB s) (digs 88 (wrS s))).1) ((nearM (minusB s) (digs 88 (wrS s))).2)))))) = jA ((jB (decide ((nearM (minusB s) (digs 88 (wrS s))).1 < 0))) :: (ints .u8 (digs 88 (aV ((nearM (minusB s) (digs 88 (wrS s))).1) ((nearM (minusB s) (digs 88 (wrS s))).2))))) from by simp only [renL, AV.ren, renL_ints, renL_u8s, renL_append])) <| oA (oS (show 1 + 88 ≤ List.length ((jB (decide ((nearM (minusB s) (digs 88 (wrS s))).1 < 0))) :: (ints .u8 (digs 88 (aV ((nearM (minusB s) (digs 88 (wrS s))).1) ((nearM (minusB s) (digs 88 (wrS s))).2))))) from lnO)) <| oA (oS (show AV.agg (List.take 88 (List.drop 1 ((jB (decide ((nearM (minusB s) (digs 88 (wrS s))).1 < 0))) :: (ints .u8 (digs 88 (aV ((nearM (minusB s) (digs 88 (wrS s))).1) ((nearM (minusB s) (digs 88 (wrS s))).2))))))) = jA (ints .u8 (digs 88 (aV ((nearM (minusB s) (digs 88 (wrS s))).1) ((nearM (minusB s) (digs 88 (wrS s))).2)))) from congrArg AV.agg (part_at [jB (decide ((nearM (minusB s) (digs 88 (wrS s))).1 < 0))] rfl (by simp only [List.length_cons, List.length_nil, List.length_append, ints_length, u8s_length, List.length_replicate, List.length_set, List.length_map, digs_length])))) <| oA (oS (show 0 ≤ 1 from Nat.zero_le _)) <| oA (oS (show 1 - 0 + 88 ≤ List.length ((jB (minusB s)) :: (ints .u8 (digs 88 (wrS s)))) from lnO)) <| oA (oS (show List.take 88 (List.drop (1 - 0) ((jB (minusB s)) :: (ints .u8 (digs 88 (wrS s))))) = ints .u8 (digs 88 (wrS s)) from part_at [jB (minusB s)] rfl (by simp only [List.length_cons, List.length_nil, List.length_append, ints_length, u8s_length, List.length_replicate, List.length_set, List.length_map, digs_length]))) <| oA (oS (show EqR Tryz.prog 94 (jA (ints .u8 (digs 88 (aV ((nearM (minusB s) (digs 88 (wrS s))).1) ((nearM (minusB s) (digs 88 (wrS s))).2))))) (jA (ints .u8 (digs 88 (wrS s)))) false from (eqR_ints (n := 88) (e := 5) (by kernel_rfl) (k' := .u8) (by kernel_rfl) (by kernel_rfl) (digs 88 (aV ((nearM (minusB s) (digs 88 (wrS s))).1) ((nearM (minusB s) (digs 88 (wrS s))).2))) (digs 88 (wrS s)) (by simp only [List.length_cons, List.length_nil, List.length_append, ints_length, u8s_length, List.length_replicate, List.length_set, List.length_map, digs_length]) (by simp only [List.length_cons, List.length_nil, List.length_append, ints_length, u8s_length, List.length_replicate, List.length_set, List.length_map, digs_length])).to (decide_eq_false c3))) <| oSw ([jI 0, jI 0]) ([jI 0, jI 0]) 23 (rfl) (rfl))
          (oA (oLw ([jI 0, jI 0]) (rfl)) <| oA (oS (show jT [jA [jI 0, jI 0], jI 10] = jT [jA [jI ((readR s).1), jI ((readR s).2.1)], jI ((readR s).2.2)] from by simp [readR, bad3, *])) <| oV (D := (fun n => decide (0 ≤ n))) (jT [jA [jI ((readR s).1), jI ((readR s).2.1)], jI ((readR s).2.2)]) rfl) (by kernel_rfl)
    · exact meets_run (fn := Tryz.f44) 3 (q1 ++ (q2 ++ [rG [hhB 1 true], rG [(1, {obj := some [jC [jI 0, jI 0] 23]})]])) [{val := some (jA [jI 0, jI 0])}, {}] Tryz.func44 (by kernel_rfl) Tryz.call44
        (oA o1 <| oA (oS (neT c2)) <| oSw ([jI 0, jI 0]) ([jI 0, jI 0]) 23 (rfl) (rfl))
        (oA (oLw ([jI 0, jI 0]) (rfl)) <| oA (oS (show jT [jA [jI 0, jI 0], jI 10] = jT [jA [jI ((readR s).1), jI ((readR s).2.1)], jI ((readR s).2.2)] from by simp [readR, bad3, *])) <| oV (D := (fun n => decide (0 ≤ n))) (jT [jA [jI ((readR s).1), jI ((readR s).2.1)], jI ((readR s).2.2)]) rfl) (by kernel_rfl)
  · exact meets_run (fn := Tryz.f44) 3 (q1 ++ [rG [(1, {call := some ⟨[], [jS s], [], jT [jA ((jB false) :: (ints .u8 (List.replicate 88 0))), jB false], []⟩, val := some (jT [jA ((jB false) :: (ints .u8 (List.replicate 88 0))), jB false])}), (5, {nm := [1], obj := some [jC ((jB false) :: (ints .u8 (List.replicate 88 0))) 96]}), (6, {obj := some [jC ((jB false) :: (ints .u8 (List.replicate 88 0))) 96]})], rG [hhB 1 true], rG [(1, {obj := some [jC [jI 0, jI 0] 23]})]]) [{val := some (jA [jI 0, jI 0])}, {}] Tryz.func44 (by kernel_rfl) Tryz.call44
      (oA (oC (written_no s hs c1) rfl) <| oA (oS (show AV.ren [] (jT [jA ((jB false) :: (ints .u8 (List.replicate 88 0))), jB false]) = jT [jA ((jB false) :: (ints .u8 (List.replicate 88 0))), jB false] from by simp only [renL, AV.ren, renL_ints, renL_u8s, renL_append])) <| oA (oS (show AObj.cells (zeroCellsA Tryz.prog 96) 96 = jC ((jB false) :: (ints .u8 (List.replicate 88 0))) 96 from by kernel_rfl)) <| oA (oSw (n := 89) ((jB false) :: (ints .u8 (List.replicate 88 0))) ((jB false) :: (ints .u8 (List.replicate 88 0))) 96 lnO lnO) <| oA (oS (show AV.bool (!false) = jB true from rfl)) <| oSw ([jI 0, jI 0]) ([jI 0, jI 0]) 23 (rfl) (rfl))
      (oA (oLw ([jI 0, jI 0]) (rfl)) <| oA (oS (show jT [jA [jI 0, jI 0], jI 12] = jT [jA [jI ((readR s).1), jI ((readR s).2.1)], jI ((readR s).2.2)] from by simp [readR, bad3, *])) <| oV (D := (fun n => decide (0 ≤ n))) (jT [jA [jI ((readR s).1), jI ((readR s).2.1)], jI ((readR s).2.2)]) rfl) (by kernel_rfl)

end Go.Proofs.YtdomenmfkbfakaaGreatDoor.Dq

/- The evaluator, part P: a slice that grows may be told of its first rows alone. -/
set_option linter.unusedVariables false
set_option linter.unusedSimpArgs false
namespace Go.Proofs.YtdomenmfkbfakaaGreatDoor.Sx
open Go
variable {P : Program} {R : Type}
end Go.Proofs.YtdomenmfkbfakaaGreatDoor.Sx

/- The evaluator, part Q: a slice that a call has made, sealed; rows that grow as rows that are never written. -/
set_option linter.unusedVariables false
set_option linter.unusedSimpArgs false
namespace Go.Proofs.YtdomenmfkbfakaaGreatDoor.Sx
open Go
variable {P : Program}
theorem den_seal {E : Env} {nm len : Nat} {x : Value} (h : den E (.vec nm len) = some x) : den E (.dsl nm len) = some x := by
  simp only [den, Option.bind_eq_some_iff] at h ⊢
  obtain ⟨p, hp, hq⟩ := h
  split at hq
  · rename_i hc
    refine ⟨p, hp, ?_⟩
    rw [hc.1, if_neg (by simp), if_pos hc.2.2, hc.2.1]; exact hq
  · cases hq
/-- A slice that grows, handed back as one that is never written. -/
theorem meets_seal {f : FuncId} {args : List AV} {pre post : List AObj} {res res' : AV} {j : Nat} {cs : List AV} {t : TypeId} {sz : Nat} {o' : AObj} (h : Meets P f args pre res post) (hj : post[j]? = some (.vec cs t sz)) (hjp : pre.length ≤ j)
    (hres : ∀ E x, den E res = some x → den E res' = some x) (hfit : Fits (.vec cs t sz) o') (how : o'.owned = false) : Meets P f args pre res' (post.set j o') := by
  intro w E xs hxs hp
  refine (h w E xs hxs hp).mono ?_
  rintro e w' ⟨E', x, he, hd, hq⟩
  refine ⟨E', x, he, hres _ _ hd, ?_⟩
  have hjl : j < post.length := (List.getElem?_eq_some_iff.1 hj).1
  exact {
    le := hq.le
    cut := fun n hn => hq.cut n (by rw [List.length_set] at hn; exact hn)
    objs := fun n o hn => by
      rcases set_get hn with ⟨rfl, rfl⟩ | ⟨e, hn⟩
      · obtain ⟨b, c, hb, ho⟩ := hq.objs n _ hj
        exact ⟨b, c, hb, hfit _ _ _ _ ho⟩
      · exact hq.objs n o hn
    made := fun n b1 c1 o hn ho he ht => by
      have key : ∀ {p : AObj}, post[n]? = some p → touches b1 c1 p b1 → w.heap.size ≤ b1 ∨ ∃ (j' : Nat) (c' : Cap) (o : AObj), pre[j']? = some o ∧ o.owned = true ∧ (post.set j o')[j']? = some AObj.dead ∧ E j' = some (b1, c') := fun hp' ht' => by
        rcases hq.made n b1 c1 _ hn hp' he ht' with k | ⟨j', c', o2, k1, k2, k3, k4⟩
        · exact .inl k
        · have : j' < pre.length := (List.getElem?_eq_some_iff.1 k1).1
          exact .inr ⟨j', c', o2, k1, k2, get_set (by omega) k3, k4⟩
      rcases set_get ho with ⟨rfl, rfl⟩ | ⟨e, ho⟩
      · exact key hj rfl
      · exact key ho ht
    bare := fun n b1 c1 hn he => hq.bare n b1 c1 hn he
    keep := hq.keep
    newApart := fun n m o o2 b1 c1 b2 c2 hn hm ho hm' h1 h2 e1 e2 hne => by
      rcases set_get ho with ⟨_, k1⟩ | ⟨_, ho1⟩
      · rw [k1, how] at h1; cases h1
      · rcases set_get hm' with ⟨k1, k2⟩ | ⟨_, hm1⟩
        · exact fun ht => hq.newApart n m o (.vec cs t sz) b1 c1 b2 c2 hn hm ho1 (by rw [k1]; exact hj) h1 rfl e1 e2 hne (touches_eq ht)
        · exact hq.newApart n m o o2 b1 c1 b2 c2 hn hm ho1 hm1 h1 h2 e1 e2 hne
    grow := hq.grow, os := hq.os, tape := hq.tape, output := hq.output }
theorem meets_sealI {f : FuncId} {args : List AV} {pre post : List AObj} {res res' : AV} {j : Nat} {k : IntKind} {l l' : List Int} {t : TypeId} (h : Meets P f args pre res post) (hj : post[j]? = some (.vec (ints k l) t 1)) (hjp : pre.length ≤ j)
    (hres : ∀ E x, den E res = some x → den E res' = some x) (hl : l.take l'.length = l') : Meets P f args pre res' (post.set j (.flat true (ints k l'))) := meets_seal h hj hjp hres (Fits.vec_flat hl) rfl
/-- A slice that grows, handed over, and handed back as one that is never written, of another name. -/
theorem meets_hand {f : FuncId} {args : List AV} {pre post : List AObj} {j len : Nat} {cs : List AV} {t : TypeId} {sz : Nat} {m : Bool} {k : IntKind} {l l' : List Int} (h : Meets P f args pre (.vec j len) post) (hpre : pre[j]? = some (.vec cs t sz)) (hj : post[j]? = some (.vec (ints k l) t sz)) (hpp : pre.length ≤ post.length) (hl : l.take l'.length = l') :
    Meets P f args pre (.dsl post.length len) (post.set j .dead ++ [.flat m (ints k l')]) := by
  intro w E xs hxs hp
  refine (h w E xs hxs hp).mono ?_
  rintro e w' ⟨E', x, he, hd, hq⟩
  obtain ⟨b, c, hb, hob⟩ := hq.objs j _ hj
  obtain ⟨b0, c0, hb0, hob0⟩ := hp.objs j _ hpre
  have hbb := hq.le _ _ hb0
  rw [hb] at hbb
  obtain ⟨rfl, rfl⟩ : b = b0 ∧ c = c0 := by cases hbb; exact ⟨rfl, rfl⟩
  have hlt : b < w.heap.size := hob0.lt rfl rfl
  obtain ⟨ys, zs, hy, hw, hlen, ho, hz⟩ := id hob
  let c2 : Cap := { n := c.n }
  have hfit : ObjR E' w' b c2 (.flat m (ints k l')) := by
    have h1 : ObjR E' w' b c2 (.vec (ints k l) t sz) := ⟨ys, zs, hy, hw, hlen, rfl, rfl⟩
    exact Fits.vec_flat hl _ _ _ _ h1
  let E2 : Env := fun n => if n = post.length then some (b, c2) else E' n
  have h2 : E2 post.length = some (b, c2) := by simp [E2]
  have hle : Env.le E' E2 := fun n p hn => by
    have : n ≠ post.length := fun e => by rw [e, hq.cut _ (Nat.le_refl _)] at hn; cases hn
    simp [E2, this, hn]
  have back : ∀ (n b1 : Nat) (c1 : Cap), E2 n = some (b1, c1) → n ≠ post.length → E' n = some (b1, c1) := fun n b1 c1 hn hne => by
    have : E2 n = E' n := by simp [E2, hne]
    rw [← this]; exact hn
  have hjl : j < post.length := (List.getElem?_eq_some_iff.1 hj).1
  have ob : ∀ (n : Nat) (o : AObj), (post.set j .dead ++ [AObj.flat m (ints k l')])[n]? = some o → (n = j ∧ o = .dead) ∨ (n ≠ j ∧ n < post.length ∧ post[n]? = some o) ∨ (n = post.length ∧ o = .flat m (ints k l')) := fun n o hn => by
    rcases Nat.lt_or_ge n post.length with h1 | h1
    · rw [List.getElem?_append_left (by rw [List.length_set]; exact h1)] at hn
      rcases set_get hn with ⟨e1, e2⟩ | ⟨e1, e2⟩
      · exact .inl ⟨e1, e2⟩
      · exact .inr (.inl ⟨e1, h1, e2⟩)
    · rw [List.getElem?_append_right (by rw [List.length_set]; exact h1), List.length_set] at hn
      obtain ⟨k1, k2⟩ := List.getElem?_eq_some_iff.1 hn
      have : n = post.length := by simp at k1; omega
      subst this
      simp at k2; exact .inr (.inr ⟨rfl, k2.symm⟩)
  have dd : ∀ (n : Nat), post[n]? = some AObj.dead → (post.set j .dead ++ [AObj.flat m (ints k l')])[n]? = some AObj.dead := fun n hn => by
    have hn1 : n < post.length := (List.getElem?_eq_some_iff.1 hn).1
    have hne : n ≠ j := fun e => by rw [e, hj] at hn; cases hn
    rw [List.getElem?_append_left (by rw [List.length_set]; exact hn1)]
    exact get_set hne hn
  have dj : (post.set j .dead ++ [AObj.flat m (ints k l')])[j]? = some AObj.dead := by
    rw [List.getElem?_append_left (by rw [List.length_set]; exact hjl), List.getElem?_set_self hjl]
  refine ⟨E2, x, he, ?_, ?_⟩
  · simp only [den, hb, Option.bind_some] at hd
    simp only [den, h2, Option.bind_some]
    split at hd
    · rename_i hc
      rw [if_neg (by simp [c2]), if_pos hc.2.2]; exact hd
    · cases hd
  · exact {
      le := hq.le.trans hle
      cut := fun n hn => by
        rw [List.length_append, List.length_set, List.length_singleton] at hn
        have : E2 n = E' n := by simp [E2, show n ≠ post.length by omega]
        rw [this]; exact hq.cut n (by omega)
      objs := fun n o hn => by
        rcases ob n o hn with ⟨rfl, rfl⟩ | ⟨_, _, h1⟩ | ⟨rfl, rfl⟩
        · exact ⟨b, c, hle _ _ hb, trivial⟩
        · obtain ⟨b1, c1, g1, g2⟩ := hq.objs n o h1
          exact ⟨b1, c1, hle _ _ g1, g2.mono hle⟩
        · exact ⟨b, c2, h2, hfit.mono hle⟩
      made := fun n b1 c1 o hn ho he ht => by
        rcases ob n o ho with ⟨rfl, rfl⟩ | ⟨_, hl1, h1⟩ | ⟨rfl, rfl⟩
        · have := (List.getElem?_eq_some_iff.1 hpre).1; omega
        · rcases hq.made n b1 c1 o hn h1 (back n b1 c1 he (by omega)) ht with k | ⟨j', c', o2, k1, k2, k3, k4⟩
          · exact .inl k
          · exact .inr ⟨j', c', o2, k1, k2, dd _ k3, k4⟩
        · rw [h2] at he; cases he
          exact .inr ⟨j, c, _, hpre, rfl, dj, hb0⟩
      bare := fun n b1 c1 hn he => by
        by_cases e : n = post.length
        · subst e; rw [h2] at he; cases he; exact Cap.bare_of fun _ _ => rfl
        · exact hq.bare n b1 c1 hn (back n b1 c1 he e)
      keep := hq.keep
      newApart := fun n q o o2 b1 c1 b2 c3 hn hm ho hm' g1 g2 e1 e2 hne => by
        have hjp := (List.getElem?_eq_some_iff.1 hpre).1
        rcases ob n o ho with ⟨rfl, rfl⟩ | ⟨_, hl1, h1⟩ | ⟨rfl, rfl⟩
        · omega
        · have e1 := back n b1 c1 e1 (by omega)
          rcases ob q o2 hm' with ⟨rfl, rfl⟩ | ⟨_, hl2, k2⟩ | ⟨rfl, rfl⟩
          · omega
          · exact hq.newApart n q o o2 b1 c1 b2 c3 hn hm h1 k2 g1 g2 e1 (back q b2 c3 e2 (by omega)) hne
          · rw [h2] at e2; cases e2
            intro ht
            have hb1 : b1 = b := touches_eq ht
            rcases hq.made n b1 c1 o hn h1 e1 (touches_owned g1) with k | ⟨j', c', o3, k1, k2, k3, k4⟩
            · omega
            · have hjj : j' ≠ j := fun e => by rw [e, hj] at k3; cases k3
              exact hp.apart j' j o3 _ b1 c' b c k1 hpre k2 rfl k4 hb0 hjj hb1
        · cases g1
      grow := hq.grow, os := hq.os, tape := hq.tape, output := hq.output }
/-- Rows that grow are rows that are never written, as long as nobody writes them. -/
theorem Fits.vec_flatR {m : Bool} {sh : List CK} {rows : List (List CV)} {t : TypeId} : Fits (.vec (rowsA sh rows) t sh.length) (.flatR m sh rows) := fun E w b c ho => by
  have hlt := ho.lt rfl rfl
  obtain ⟨xs, ys, hx, ⟨mk, hw, hmk⟩, hl, h1, h2⟩ := ho
  refine ⟨fun e => (by rw [h2] at e; cases e), fun _ => ⟨hlt, fun i j v hi hj hv => ?_⟩⟩
  have hg := rowsA_get (sh := sh) hi hj
  obtain ⟨x, hx1, hx2⟩ := denC_get hx hg
  have hc : den E (cellA (sh.getD j .any) (rowCV (rowAt rows i) j)) = some v := by
    generalize sh.getD j .any = k at hv
    cases k <;> simp [cellV] at hv <;> subst hv <;> rfl
  rw [hc] at hx2
  cases hx2
  rw [h1, Nat.zero_add, cell_of_block hw]
  have hlt2 := (List.getElem?_eq_some_iff.1 hx1).1
  simp only [List.getElem?_toArray, List.getElem?_append_left hlt2, hx1]
theorem meets_fitO {f : FuncId} {args : List AV} {pre post : List AObj} {res : AV} {j : Nat} {o o' : AObj} (h : Meets P f args pre res post) (hj : pre[j]? = some o) (ho : o.owned = false) (hfit : Fits o' o) (hlv : o'.live = true) (htc : ∀ b c k, touches b c o k → touches b c o' k) :
    Meets P f args (pre.set j o') res (post.set j o') := by
  intro w E xs hxs hp
  have hjl : j < pre.length := (List.getElem?_eq_some_iff.1 hj).1
  have hv : (pre.set j o')[j]? = some o' := by rw [List.getElem?_set_self hjl]
  obtain ⟨b, cp, hE, hO⟩ := hp.objs j _ hv
  have own : ∀ (n : Nat) (p : AObj), pre[n]? = some p → p.owned = true → n ≠ j := fun n p hn hp e => by
    subst e; rw [hj] at hn; cases hn; rw [ho] at hp; cases hp
  have hp' : PreR E w pre := {
    objs := fun n p hn => by
      by_cases e : n = j
      · subst e; rw [hj] at hn; cases hn; exact ⟨b, cp, hE, hfit _ _ _ _ hO⟩
      · exact hp.objs n p (get_set e hn)
    fresh := fun n hn => hp.fresh n (by rw [List.length_set]; exact hn)
    apart := fun n m' p p2 b1 c1 b2 c2 hn hm hq hl e1 e2 hne => by
      have hnj := own n p hn hq
      by_cases e : m' = j
      · subst e
        rw [hj] at hm; cases hm
        exact fun ht => hp.apart n m' p _ b1 c1 b2 c2 (get_set hnj hn) hv hq hlv e1 e2 hne (htc _ _ _ ht)
      · exact hp.apart n m' p p2 b1 c1 b2 c2 (get_set hnj hn) (get_set e hm) hq hl e1 e2 hne
    glob := fun g hg => by
      obtain ⟨h1, h2, h3⟩ := hp.glob g hg
      refine ⟨h1, fun ⟨n, p, c', hn, hq, he⟩ => h2 ⟨n, p, c', get_set (own n p hn hq) hn, hq, he⟩, h3⟩
    nest := fun m b1 c1 k e1 e2 => let ⟨g1, g2⟩ := hp.nest m b1 c1 k e1 e2; ⟨g1, fun n p c' hn hq he => g2 n p c' (get_set (own n p hn hq) hn) hq he⟩ }
  refine (h w E xs hxs hp').mono ?_
  rintro e w' ⟨E', x, he, hd, hq⟩
  refine ⟨E', x, he, hd, ?_⟩
  have hblk : o'.live = true → touches b cp o' b → w'.heap[b]? = w.heap[b]? := fun hl ht => hq.keep b (hO.lt hl ht) fun n p c' hn hp1 he => by
    have hnj := own n p hn hp1
    exact hp.apart n j p _ b c' b cp (get_set hnj hn) hv hp1 hlv he hE hnj ht
  exact {
    le := hq.le
    cut := fun n hn => hq.cut n (by rw [List.length_set] at hn; exact hn)
    objs := fun n p hn => by
      rcases set_get hn with ⟨rfl, rfl⟩ | ⟨e, hn⟩
      · exact ⟨b, cp, hq.le _ _ hE, (hO.mono hq.le).block hblk fun h1 k hk => hq.keep k (hO.ltN h1 hk) fun n p c' hn hp1 he => (hp.nest _ b cp k hE hk).2 n p c' (get_set (own n p hn hp1) hn) hp1 he⟩
      · exact hq.objs n p hn
    made := fun n b1 c1 p hn hp1 he ht => by
      rw [List.length_set] at hn
      have hnj : n ≠ j := by omega
      rcases set_get hp1 with ⟨e, _⟩ | ⟨_, hp1⟩
      · exact absurd e hnj
      · rcases hq.made n b1 c1 p hn hp1 he ht with k | ⟨j', c', p2, k1, k2, k3, k4⟩
        · exact .inl k
        · have hjj := own j' p2 k1 k2
          exact .inr ⟨j', c', p2, get_set hjj k1, k2, get_set hjj k3, k4⟩
    bare := fun n b1 c1 hn he => hq.bare n b1 c1 (by rw [List.length_set] at hn; exact hn) he
    keep := fun k hk hne => hq.keep k hk fun n p c' hn hp1 => hne n p c' (get_set (own n p hn hp1) hn) hp1
    newApart := fun n m' p p2 b1 c1 b2 c2 hn hm hp1 hm' => by
      rw [List.length_set] at hn hm
      rcases set_get hp1 with ⟨e, _⟩ | ⟨_, hp1⟩
      · omega
      · rcases set_get hm' with ⟨e, _⟩ | ⟨_, hm'⟩
        · omega
        · exact hq.newApart n m' p p2 b1 c1 b2 c2 hn hm hp1 hm'
    grow := hq.grow
    os := hq.os, tape := hq.tape, output := hq.output }
/-- A contract of rows that are never written, of rows that grow. -/
theorem meets_fitR {f : FuncId} {args : List AV} {pre post : List AObj} {res : AV} {j : Nat} {m : Bool} {sh : List CK} {rows : List (List CV)} {t : TypeId} (h : Meets P f args pre res post) (hj : pre[j]? = some (.flatR m sh rows)) : Meets P f args (pre.set j (.vec (rowsA sh rows) t sh.length)) res (post.set j (.vec (rowsA sh rows) t sh.length)) :=
  meets_fitO h hj rfl Fits.vec_flatR rfl fun b c k ht => ht.2
/-- No slice at all, handed back as one that is never written. -/
theorem den_nil {E : Env} {nm : Nat} {x : Value} (h : den E .nilslice = some x) (hE : E nm = some (0, { n := 0, z := true })) : den E (.dsl nm 0) = some x := by
  simp only [den] at h
  simp only [den, hE, Option.bind_some, if_true]
  exact h
theorem meets_sealNil {f : FuncId} {args : List AV} {pre post : List AObj} {res res' : AV} (h : Meets P f args pre res post) (hpp : pre.length ≤ post.length)
    (hres : ∀ (E E' : Env) x, den E res = some x → Env.le E E' → E' post.length = some (0, { n := 0, z := true }) → den E' res' = some x) : Meets P f args pre res' (post ++ [.flat true []]) := by
  intro w E xs hxs hp
  refine (h w E xs hxs hp).mono ?_
  rintro e w' ⟨E', x, he, hd, hq⟩
  let E2 : Env := fun m => if m = post.length then some (0, { n := 0, z := true }) else E' m
  have h2 : E2 post.length = some (0, { n := 0, z := true }) := by simp [E2]
  have hle : Env.le E' E2 := fun m p hm => by
    have : m ≠ post.length := fun e => by rw [e, hq.cut _ (Nat.le_refl _)] at hm; cases hm
    simp [E2, this, hm]
  have back : ∀ (m b : Nat) (c : Cap), E2 m = some (b, c) → (m = post.length ∧ b = 0 ∧ c = { n := 0, z := true }) ∨ (m ≠ post.length ∧ E' m = some (b, c)) := fun m b c hm => by
    by_cases e : m = post.length
    · rw [e, h2] at hm; cases hm; exact .inl ⟨e, rfl, rfl⟩
    · refine .inr ⟨e, ?_⟩
      have : E2 m = E' m := by simp [E2, e]
      rw [← this]; exact hm
  have ob : ∀ (n : Nat) (o : AObj), (post ++ [AObj.flat true []])[n]? = some o → post[n]? = some o ∨ (n = post.length ∧ o = .flat true []) := fun n o hn => by
    rcases Nat.lt_or_ge n post.length with h1 | h1
    · rw [List.getElem?_append_left h1] at hn; exact .inl hn
    · rw [List.getElem?_append_right h1] at hn
      obtain ⟨k1, k2⟩ := List.getElem?_eq_some_iff.1 hn
      have : n = post.length := by simp at k1; omega
      subst this
      simp at k2; exact .inr ⟨rfl, k2.symm⟩
  have lt : ∀ {n : Nat} {o : AObj}, post[n]? = some o → n ≠ post.length := fun hn => by
    have := (List.getElem?_eq_some_iff.1 hn).1; omega
  refine ⟨E2, x, he, hres _ _ _ hd hle h2, ?_⟩
  exact {
    le := hq.le.trans hle
    cut := fun n hn => by
      rw [List.length_append, List.length_singleton] at hn
      have : E2 n = E' n := by simp [E2, show n ≠ post.length by omega]
      rw [this]; exact hq.cut n (by omega)
    objs := fun n o hn => by
      rcases ob n o hn with h1 | ⟨rfl, rfl⟩
      · obtain ⟨b, c, hb, ho⟩ := hq.objs n o h1
        exact ⟨b, c, hle _ _ hb, ho.mono hle⟩
      · exact ⟨0, _, h2, [], ⟨rfl, rfl⟩, fun _ => rfl, fun e => by cases e⟩
    made := fun n b1 c1 o hn ho he ht => by
      rcases ob n o ho with h1 | ⟨rfl, rfl⟩
      · rcases back n b1 c1 he with ⟨e, _⟩ | ⟨_, he⟩
        · exact absurd e (lt h1)
        · rcases hq.made n b1 c1 o hn h1 he ht with k | ⟨j', c', o2, k1, k2, k3, k4⟩
          · exact .inl k
          · exact .inr ⟨j', c', o2, k1, k2, by rw [List.getElem?_append_left (by have := (List.getElem?_eq_some_iff.1 k1).1; omega)]; exact k3, k4⟩
      · rw [h2] at he; cases he; exact absurd ht.1 (by simp)
    bare := fun n b1 c1 hn he => by
      rcases back n b1 c1 he with ⟨_, _, rfl⟩ | ⟨_, he⟩
      · exact Cap.bare_of fun _ _ => rfl
      · exact hq.bare n b1 c1 hn he
    keep := hq.keep
    newApart := fun n m o o2 b1 c1 b2 c2 hn hm ho hm' g1 g2 e1 e2 hne => by
      rcases ob n o ho with k1 | ⟨rfl, rfl⟩
      · rcases back n b1 c1 e1 with ⟨e, _⟩ | ⟨_, e1⟩
        · exact absurd e (lt k1)
        · rcases ob m o2 hm' with k2 | ⟨rfl, rfl⟩
          · rcases back m b2 c2 e2 with ⟨e, _⟩ | ⟨_, e2⟩
            · exact absurd e (lt k2)
            · exact hq.newApart n m o o2 b1 c1 b2 c2 hn hm k1 k2 g1 g2 e1 e2 hne
          · rw [h2] at e2; cases e2; exact fun ht => absurd ht.1 (by simp)
      · cases g1
    grow := hq.grow, os := hq.os, tape := hq.tape, output := hq.output }
end Go.Proofs.YtdomenmfkbfakaaGreatDoor.Sx

/- Layer 2: what is known of the program ahead of all: functions without a text, whole numbers that are picked, the examples. -/
set_option linter.unusedVariables false
set_option linter.unusedSimpArgs false
namespace Go.Proofs.YtdomenmfkbfakaaGreatDoor
open Go Sx

theorem host : ∀ (f : Nat) (fn : Func), Tryz.prog.funcs[f]? = some fn → (fn.name == "runtime.NumGoroutine") = false := by
  have h : (Tryz.prog.funcs.all fun fn => !(fn.name == "runtime.NumGoroutine")) = true := by kernel_rfl
  intro f fn hf
  have := Array.all_eq_true'.1 h fn (Array.mem_of_getElem? hf)
  simpa using this

/-- What a call comes to. -/
def Comes (T : Tab) (lv : FuncId → Lv) (f : FuncId) (args : List AV) (pre : List PObj) (x : Ans) : Prop :=
  ent (R := AV × List PObj) Tryz.prog T lv 64 18446744073709551616 30 f args pre pure2 = x.run pure2
theorem ans_comes {T : Tab} {lv : FuncId → Lv} {f : FuncId} {args : List AV} {pre : List PObj} {x : Ans} (hT : TabOK Tryz.prog T) (h : Comes T lv f args pre x) (hL : LvOK Tryz.prog lv := by exact nolv_ok) : AnsOK Tryz.prog f args pre x :=
  ans_of x fun res post k => meets_ent hT host (h.trans k) hL

def tab0 : Tab := [(135, eSame), (165, eIndexByte)]
theorem tab0_ok : TabOK Tryz.prog tab0 :=
  .cons (eSame_ok Tryz.func135 (by kernel_rfl) (by kernel_rfl) (by kernel_rfl) (by kernel_rfl))
  (.cons (eIndexByte_ok Tryz.func165 (by kernel_rfl) (by kernel_rfl) (by kernel_rfl) (by kernel_rfl)) .nil)

/-- Answers that come to the same. -/
theorem of_run {f : FuncId} {args : List AV} {pre : List PObj} {x y : Ans} (h : AnsOK Tryz.prog f args pre x) (e : ∀ r, y.run pure2 = some r → x.run pure2 = some r) : AnsOK Tryz.prog f args pre y :=
  ans_of y fun res post k => by
    obtain ⟨a, b, h1, h2⟩ := Ans.sound x h (e _ k)
    cases h2; exact h1
theorem bcT {α : Type} {b : Bool} {x y : α} (h : b = true) : bcond b x y = x := by rw [h]; rfl
theorem bcF {α : Type} {b : Bool} {x y : α} (h : b = false) : bcond b x y = y := by rw [h]; rfl
theorem chk_run {b : Bool} {x : Ans} {r : AV × List PObj} (h : (Ans.chk b x).run pure2 = some r) : b = true ∧ x.run pure2 = some r := by
  cases b
  · cases h
  · exact ⟨rfl, h⟩

/-- The examples. -/
def eTrue : Ent := fun args pre => match args, pre with | [], [] => .ret (.bool true) [] | _, _ => .fail
def inI (a : Int) : Bool := decide (-9223372036854775808 ≤ a ∧ a < 9223372036854775808)
theorem inI_iff {a : Int} : inI a = true ↔ -9223372036854775808 ≤ a ∧ a < 9223372036854775808 := by simp [inI]
/-- pick: which of n things. -/
def pickS (a n : Int) : Int := if a < 0 then (-(a + 1)).tmod n else a.tmod n
theorem pickS_bd {a n : Int} (h : 0 < n) : 0 ≤ pickS a n ∧ pickS a n < n := by
  unfold pickS
  split
  · rw [Int.tmod_eq_emod_of_nonneg (by omega)]; exact ⟨Int.emod_nonneg _ (by omega), Int.emod_lt_of_pos _ h⟩
  · rw [Int.tmod_eq_emod_of_nonneg (by omega)]; exact ⟨Int.emod_nonneg _ (by omega), Int.emod_lt_of_pos _ h⟩
end Go.Proofs.YtdomenmfkbfakaaGreatDoor


set_option linter.unusedVariables false
set_option linter.unusedSimpArgs false
set_option maxRecDepth 20000
namespace Go.Proofs.YtdomenmfkbfakaaGreatDoor.Dq
open Go Sx Dc


end Go.Proofs.YtdomenmfkbfakaaGreatDoor.Dq

/- How a decimal's figures are shown: plain mathematics. -/
set_option linter.unusedVariables false
set_option linter.unusedSimpArgs false
namespace Go.Proofs.YtdomenmfkbfakaaGreatDoor.Dq
open Dc

def chB (d : Int) : UInt8 := UInt8.ofNat (48 + d).toNat
/-- The first figure that is shown, and the last one's end. -/
def fstGo (ds : List Int) : Nat → Nat → Nat
  | 0, k => k
  | f + 1, k => if k < 47 ∧ ds.getD k 0 = 0 then fstGo ds f (k + 1) else k
def lstGo (ds : List Int) : Nat → Nat → Nat
  | 0, k => k
  | f + 1, k => if 48 < k ∧ ds.getD (k - 1) 0 = 0 then lstGo ds f (k - 1) else k
def txt (ds : List Int) (a : Nat) : Nat → List UInt8
  | 0 => []
  | n + 1 => txt ds a n ++ ((if a + n = 48 then [46] else []) ++ [chB (ds.getD (a + n) 0)])
def textB (mx : Bool) (ds : List Int) : List UInt8 := (if mx = true then [45] else []) ++ txt ds (fstGo ds 47 0) (lstGo ds 40 88 - fstGo ds 47 0)
end Go.Proofs.YtdomenmfkbfakaaGreatDoor.Dq


set_option linter.unusedVariables false
set_option linter.unusedSimpArgs false
set_option maxRecDepth 20000
namespace Go.Proofs.YtdomenmfkbfakaaGreatDoor.Dq
open Go Sx Dc



















end Go.Proofs.YtdomenmfkbfakaaGreatDoor.Dq
