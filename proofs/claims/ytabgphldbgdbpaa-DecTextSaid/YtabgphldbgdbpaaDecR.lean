import Derived.Test.YtabgphldbgdbpaaDecQ
set_option linter.unusedVariables false
set_option linter.unusedSimpArgs false
set_option maxRecDepth 20000
namespace Go.Proofs.Ytabgphldbgdbpaa
open Go Sx Dc

def okDig (b : UInt8) : Prop := 48 ≤ b.toNat ∧ b.toNat ≤ 57
instance : DecidablePred okDig := fun b => inferInstanceAs (Decidable (48 ≤ b.toNat ∧ b.toNat ≤ 57))
def isDigs (s : List UInt8) : Bool := decide (s ≠ [] ∧ s.length ≤ 40 ∧ ∀ b ∈ s, okDig b)
def bytesD (s : List UInt8) : List Int := s.map fun b => (b.toNat : Int) - 48
theorem getD_mem {s : List UInt8} {k : Nat} (h : k < s.length) : s.getD k 0 ∈ s := by
  have : s.getD k 0 = s[k] := by simp [List.getD, h]
  rw [this]; exact List.getElem_mem h

def digs_inv (s : List UInt8) (k : Nat) : AState :=
  ⟨[none, none, sB false, none, none, none, none, none, none, none, none, none, none, some (AV.vec 0 s.length), sI ((s.length : Nat) : Int), sI ((k : Nat) : Int), none, none, none, none, none, none, none, none, none, none], [some (AObj.ro 0 (u8s s))]⟩

theorem digs_round (s : List UInt8) (k : Nat) (hs : s.length < 1000000) (h1 : k < s.length) (hd : okDig (s.getD k 0)) : Tri Try.prog (loopN (bodyOf Try.f65) 0) (digs_inv s k) .normal (digs_inv s (k + 1)) := by
  unfold okDig at hd
  exact tri_weak [rG [hhB 0 true], rG [hhV 0 (jP 0 k), hhV 1 (jU (((s.getD k 0).toNat : Nat) : Int))], rG [hhB 1 false, hhB 4 false], rG [hhI 0 ((k + 1 : Nat) : Int)]]
    (oA (oS (show AV.bool (decide (((k : Nat) : Int) < ((s.length : Nat) : Int))) = jB true from bT (by omega))) <| oA (oS (show 0 ≤ ((k : Nat) : Int) from by omega)) <| oA (oS (show ((k : Nat) : Int) < ((s.length : Nat) : Int) from by omega)) <| oA (oS (show AV.ptr 0 (Int.toNat ((k : Nat) : Int) * 1) = jP 0 k from ptrE (by omega))) <| oA (oLf (u8s s) (k) (jU (((s.getD k 0).toNat : Nat) : Int)) (u8s_get (by omega))) <| oA (oS (show AV.bool (decide ((((s.getD k 0).toNat : Nat) : Int) < 48)) = jB false from bF (by omega))) <| oA (oS (show AV.bool (decide ((((s.getD k 0).toNat : Nat) : Int) > 57)) = jB false from bF (by omega))) <| oW (((k : Nat) : Int) + 1) ((k + 1 : Nat) : Int) (by omega))
    (oA (oR [jB false, AV.vec 0 s.length, jI ((s.length : Nat) : Int), jI ((k + 1 : Nat) : Int)]) <| oQ [AObj.ro 0 (u8s s)]) (by kernel_rfl)

def digs_ret (s : List UInt8) : AState :=
  ⟨[none, none, sB false, none, none, none, none, none, none, none, none, none, none, none, none, none, none, none, none, none, none, none, none, none, none, none], [some (AObj.ro 0 (u8s s))]⟩

theorem digs_bad (s : List UInt8) (k : Nat) (hs : s.length < 1000000) (h1 : k < s.length) (hd : ¬ okDig (s.getD k 0)) : Tri Try.prog (loopN (bodyOf Try.f65) 0) (digs_inv s k) .ret (digs_ret s) := by
  unfold okDig at hd
  have o1 := oA (oS (show AV.bool (decide (((k : Nat) : Int) < ((s.length : Nat) : Int))) = jB true from bT (by omega))) <| oA (oS (show 0 ≤ ((k : Nat) : Int) from by omega)) <| oA (oS (show ((k : Nat) : Int) < ((s.length : Nat) : Int) from by omega)) <| oA (oS (show AV.ptr 0 (Int.toNat ((k : Nat) : Int) * 1) = jP 0 k from ptrE (by omega))) <| oLf (u8s s) (k) (jU (((s.getD k 0).toNat : Nat) : Int)) (u8s_get (by omega))
  let q1 : List Orc := [rG [hhB 0 true], rG [hhV 0 (jP 0 k), hhV 1 (jU (((s.getD k 0).toNat : Nat) : Int))]]
  by_cases c2 : (((s.getD k 0).toNat : Nat) : Int) < 48
  · exact tri_weak (q1 ++ [rG [hhB 1 true], rG []])
      (oA o1 <| oS (bT c2))
      (oA (oR [jB false]) <| oQ [AObj.ro 0 (u8s s)]) (by kernel_rfl)
  · by_cases c3 : (((s.getD k 0).toNat : Nat) : Int) > 57
    · exact tri_weak (q1 ++ [rG [hhB 1 false, hhB 4 true], rG []])
        (oA o1 <| oA (oS (bF c2)) <| oS (bT c3))
        (oA (oR [jB false]) <| oQ [AObj.ro 0 (u8s s)]) (by kernel_rfl)
    · omega

def digs_out (s : List UInt8) : AState :=
  ⟨[none, none, none, none, none, none, none, none, none, none, none, none, none, none, none, none, none, none, none, none, none, none, none, none, none, none], [some (AObj.ro 0 (u8s s))]⟩

theorem digs_last (s : List UInt8) (hs : s.length < 1000000) : Tri Try.prog (loopN (bodyOf Try.f65) 0) (digs_inv s s.length) (.exit 0) (digs_out s) := by
  exact tri_weak [rG [hhB 0 false]]
    (oS (show AV.bool (decide (((s.length : Nat) : Int) < ((s.length : Nat) : Int))) = jB false from bF (by omega)))
    (oQ [AObj.ro 0 (u8s s)]) (by kernel_rfl)

theorem digs_loop_ok (s : List UInt8) (hs : s.length < 1000000) (h : ∀ b ∈ s, okDig b) : Tri Try.prog (.loop (loopN (bodyOf Try.f65) 0)) (digs_inv s 0) (.exit 0) (digs_out s) :=
  tri_up (digs_inv s) (ne_normal_exit 0) s.length (fun k hk => digs_round s k hs hk (h _ (getD_mem hk))) (digs_last s hs) 0 (Nat.zero_le _)
theorem digs_loop_bad (s : List UInt8) (hs : s.length < 1000000) (h : ¬ ∀ b ∈ s, okDig b) : Tri Try.prog (.loop (loopN (bodyOf Try.f65) 0)) (digs_inv s 0) .ret (digs_ret s) :=
  tri_loop (ι := {k : Nat // k ≤ s.length ∧ ∀ j, j < k → okDig (s.getD j 0)}) (fun i => digs_inv s i.1) (fun i => s.length - i.1) ne_normal_ret (by
    rintro ⟨k, hk, hall⟩
    have h0 : k < s.length := by
      rcases Nat.lt_or_ge k s.length with g | g
      · exact g
      · exfalso
        apply h
        intro b hb
        obtain ⟨j, hj, rfl⟩ := List.getElem_of_mem hb
        have := hall j (by omega)
        simpa [List.getD, hj] using this
    by_cases hc : okDig (s.getD k 0)
    · refine .inl ⟨⟨k + 1, by omega, fun j hj => ?_⟩, by show s.length - (k + 1) < s.length - k; omega, digs_round s k hs h0 hc⟩
      by_cases e : j = k
      · subst e; exact hc
      · exact hall j (by omega)
    · exact .inr (digs_bad s k hs h0 hc)) ⟨0, Nat.zero_le _, fun j hj => by omega⟩

theorem areDigits_meets (s : List UInt8) (hs : s.length < 1000000) : Meets Try.prog 65 [jS s] [] (jB (isDigs s)) [] := by
  let q1 : List Orc := [rG []]
  by_cases c1 : s = []
  · exact meets_run (fn := Try.f65) 1 (q1 ++ [rG [hhB 1 true], rG []]) [{}] Try.func65 (by kernel_rfl) Try.call65
      (oS (eqT c1))
      (oS (show jB false = jB (isDigs s) from boolE (by first | (simp only [isDigs]; symm; simp only [decide_eq_false_iff_not, decide_eq_true_eq]; rintro ⟨g1, g2, g3⟩; first | exact g1 c1 | omega | exact c3 g3) | (simp only [isDigs]; symm; simp only [decide_eq_true_eq]; exact ⟨c1, by omega, c3⟩)))) (by kernel_rfl)
  · by_cases c2 : ((s.length : Nat) : Int) > 40
    · exact meets_run (fn := Try.f65) 1 (q1 ++ [rG [hhB 1 false, hhB 5 true], rG []]) [{}] Try.func65 (by kernel_rfl) Try.call65
        (oA (oS (eqF c1)) <| oS (bT c2))
        (oS (show jB false = jB (isDigs s) from boolE (by first | (simp only [isDigs]; symm; simp only [decide_eq_false_iff_not, decide_eq_true_eq]; rintro ⟨g1, g2, g3⟩; first | exact g1 c1 | omega | exact c3 g3) | (simp only [isDigs]; symm; simp only [decide_eq_true_eq]; exact ⟨c1, by omega, c3⟩)))) (by kernel_rfl)
    · have o1 := oA (oS (eqF c1)) <| oS (bF c2)
      let q2 : List Orc := [rG [hhB 1 false, hhB 5 false], rG [hhN 1 0]]
      by_cases c3 : ∀ b ∈ s, okDig b
      · exact meets_run (fn := Try.f65) 1 (q1 ++ (q2 ++ [.loop (⟨[none, none, sB false, none, none, none, none, none, none, none, none, none, none, some (AV.vec 0 s.length), sI ((s.length : Nat) : Int), sI 0, none, none, none, none, none, none, none, none, none, none], [some (AObj.ro 0 (u8s s))]⟩) (.exit 0) (⟨[none, none, none, none, none, none, none, none, none, none, none, none, none, none, none, none, none, none, none, none, none, none, none, none, none, none], [some (AObj.ro 0 (u8s s))]⟩), rG []])) [{}] Try.func65 (by kernel_rfl) Try.call65
          (oA o1 <| oA (oR [jB false, AV.vec 0 s.length, jI ((s.length : Nat) : Int), jI 0]) <| oA (oQ [AObj.ro 0 (u8s s)]) <| oS (show Tri Try.prog (.loop (loopN (bodyOf Try.f65) 0)) (⟨[none, none, sB false, none, none, none, none, none, none, none, none, none, none, some (AV.vec 0 s.length), sI ((s.length : Nat) : Int), sI 0, none, none, none, none, none, none, none, none, none, none], [some (AObj.ro 0 (u8s s))]⟩) (.exit 0) (⟨[none, none, none, none, none, none, none, none, none, none, none, none, none, none, none, none, none, none, none, none, none, none, none, none, none, none], [some (AObj.ro 0 (u8s s))]⟩) from digs_loop_ok s hs c3))
          (oS (show jB true = jB (isDigs s) from boolE (by first | (simp only [isDigs]; symm; simp only [decide_eq_false_iff_not, decide_eq_true_eq]; rintro ⟨g1, g2, g3⟩; first | exact g1 c1 | omega | exact c3 g3) | (simp only [isDigs]; symm; simp only [decide_eq_true_eq]; exact ⟨c1, by omega, c3⟩)))) (by kernel_rfl)
      · exact meets_run (fn := Try.f65) 1 (q1 ++ (q2 ++ [.loop (⟨[none, none, sB false, none, none, none, none, none, none, none, none, none, none, some (AV.vec 0 s.length), sI ((s.length : Nat) : Int), sI 0, none, none, none, none, none, none, none, none, none, none], [some (AObj.ro 0 (u8s s))]⟩) .ret (⟨[none, none, sB false, none, none, none, none, none, none, none, none, none, none, none, none, none, none, none, none, none, none, none, none, none, none, none], [some (AObj.ro 0 (u8s s))]⟩)])) [{}] Try.func65 (by kernel_rfl) Try.call65
          (oA o1 <| oA (oR [jB false, AV.vec 0 s.length, jI ((s.length : Nat) : Int), jI 0]) <| oA (oQ [AObj.ro 0 (u8s s)]) <| oS (show Tri Try.prog (.loop (loopN (bodyOf Try.f65) 0)) (⟨[none, none, sB false, none, none, none, none, none, none, none, none, none, none, some (AV.vec 0 s.length), sI ((s.length : Nat) : Int), sI 0, none, none, none, none, none, none, none, none, none, none], [some (AObj.ro 0 (u8s s))]⟩) .ret (⟨[none, none, sB false, none, none, none, none, none, none, none, none, none, none, none, none, none, none, none, none, none, none, none, none, none, none, none], [some (AObj.ro 0 (u8s s))]⟩) from digs_loop_bad s hs c3))
          (oS (show jB false = jB (isDigs s) from boolE (by first | (simp only [isDigs]; symm; simp only [decide_eq_false_iff_not, decide_eq_true_eq]; rintro ⟨g1, g2, g3⟩; first | exact g1 c1 | omega | exact c3 g3) | (simp only [isDigs]; symm; simp only [decide_eq_true_eq]; exact ⟨c1, by omega, c3⟩)))) (by kernel_rfl)

end Go.Proofs.Ytabgphldbgdbpaa
