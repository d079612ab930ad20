import Derived.Test.YtabgphldbgdbpaaDecQ
set_option linter.unusedVariables false
set_option linter.unusedSimpArgs false
set_option maxRecDepth 20000
namespace Go.Proofs.Ytabgphldbgdbpaa
open Go Sx Dc

def okDig (b : UInt8) : Prop := 48 ≤ b.toNat ∧ b.toNat ≤ 57
instance : DecidablePred okDig := fun b => inferInstanceAs (Decidable (48 ≤ b.toNat ∧ b.toNat ≤ 57))
def isDigs (s : List UInt8) : Bool := decide (s ≠ [] ∧ s.length ≤ 40 ∧ ∀ b ∈ s, okDig b)
def bytesD (s : List UInt8) : List Int := s.map fun b => (b.toNat : Int) - 48
theorem getD_mem {s : List UInt8} {k : Nat} (h : k < s.length) : s.getD k 0 ∈ s := by
  have : s.getD k 0 = s[k] := by simp [List.getD, h]
  rw [this]; exact List.getElem_mem h

def digs_inv (s : List UInt8) (k : Nat) : AState :=
  ⟨[none, none, some (AV.bool false), none, none, none, none, none, none, none, none, none, none, some (AV.vec 0 s.length), some (AV.int .i64 ((s.length : Nat) : Int)), some (AV.int .i64 ((k : Nat) : Int)), none, none, none, none, none, none, none, none, none, none], [some (AObj.ro 0 (u8s s))]⟩

theorem digs_round (s : List UInt8) (k : Nat) (hs : s.length < 1000000) (h1 : k < s.length) (hd : okDig (s.getD k 0)) : Tri Try.prog (loopN (bodyOf Try.f65) 0) (digs_inv s k) .normal (digs_inv s (k + 1)) := by
  unfold okDig at hd
  exact Tri.weak (ob := [AV.bool false = AV.bool false,
        AV.vec 0 s.length = AV.vec 0 s.length,
        AV.int .i64 ((s.length : Nat) : Int) = AV.int .i64 ((s.length : Nat) : Int),
        AV.int .i64 ((k + 1 : Nat) : Int) = AV.int .i64 ((k + 1 : Nat) : Int),
        AObj.ro 0 (u8s s) = AObj.ro 0 (u8s s)]) (exec_sound _ [.reg [(0, {val := some (AV.bool true)})], .reg [(0, {val := some (AV.ptr 0 k)}), (1, {val := some (AV.int .u8 (((s.getD k 0).toNat : Nat) : Int))})], .reg [(1, {val := some (AV.bool false)}), (4, {val := some (AV.bool false)})], .reg [(0, {val := some (AV.int .i64 ((k + 1 : Nat) : Int))})]] _
    ⟨[AV.bool (decide (((k : Nat) : Int) < ((s.length : Nat) : Int))) = AV.bool true,
        0 ≤ ((k : Nat) : Int),
        ((k : Nat) : Int) < ((s.length : Nat) : Int),
        AV.ptr 0 (Int.toNat ((k : Nat) : Int) * 1) = AV.ptr 0 k,
        0 ≤ k,
        (u8s s : List AV)[k - 0]? = some (AV.int .u8 (((s.getD k 0).toNat : Nat) : Int)),
        AV.bool (decide ((((s.getD k 0).toNat : Nat) : Int) < 48)) = AV.bool false,
        AV.bool (decide ((((s.getD k 0).toNat : Nat) : Int) > 57)) = AV.bool false,
        AV.int .i64 (IntKind.i64.wrap (((k : Nat) : Int) + 1)) = AV.int .i64 ((k + 1 : Nat) : Int)],
      .normal, ⟨[none, none, some (AV.bool false), none, some (AV.int .u8 (((s.getD k 0).toNat : Nat) : Int)), none, none, none, none, none, none, none, none, some (AV.vec 0 s.length), some (AV.int .i64 ((s.length : Nat) : Int)), some (AV.int .i64 ((k + 1 : Nat) : Int)), some (AV.bool true), some (AV.ptr 0 k), some (AV.int .u8 (((s.getD k 0).toNat : Nat) : Int)), some (AV.int .u8 (((s.getD k 0).toNat : Nat) : Int)), some (AV.bool false), some (AV.bool false), some (AV.int .u8 (((s.getD k 0).toNat : Nat) : Int)), some (AV.bool false), some (AV.bool false), some (AV.int .i64 ((k + 1 : Nat) : Int))], [some (AObj.ro 0 (u8s s))]⟩, []⟩ (by kernel_rfl)
    ⟨bT (by omega), by omega, by omega, ptrE (by omega), Nat.zero_le _, u8s_get (by omega), bF (by omega), bF (by omega), wI (by omega), trivial⟩) (by kernel_rfl)
    ⟨rfl, rfl, rfl, rfl, rfl, trivial⟩

def digs_ret (s : List UInt8) : AState :=
  ⟨[none, none, some (AV.bool false), none, none, none, none, none, none, none, none, none, none, none, none, none, none, none, none, none, none, none, none, none, none, none], [some (AObj.ro 0 (u8s s))]⟩

theorem digs_bad (s : List UInt8) (k : Nat) (hs : s.length < 1000000) (h1 : k < s.length) (hd : ¬ okDig (s.getD k 0)) : Tri Try.prog (loopN (bodyOf Try.f65) 0) (digs_inv s k) .ret (digs_ret s) := by
  unfold okDig at hd
  by_cases c2 : (((s.getD k 0).toNat : Nat) : Int) < 48
  · exact Tri.weak (ob := [AV.bool false = AV.bool false,
          AObj.ro 0 (u8s s) = AObj.ro 0 (u8s s)]) (exec_sound _ [.reg [(0, {val := some (AV.bool true)})], .reg [(0, {val := some (AV.ptr 0 k)}), (1, {val := some (AV.int .u8 (((s.getD k 0).toNat : Nat) : Int))})], .reg [(1, {val := some (AV.bool true)})], .reg []] _
      ⟨[AV.bool (decide (((k : Nat) : Int) < ((s.length : Nat) : Int))) = AV.bool true,
          0 ≤ ((k : Nat) : Int),
          ((k : Nat) : Int) < ((s.length : Nat) : Int),
          AV.ptr 0 (Int.toNat ((k : Nat) : Int) * 1) = AV.ptr 0 k,
          0 ≤ k,
          (u8s s : List AV)[k - 0]? = some (AV.int .u8 (((s.getD k 0).toNat : Nat) : Int)),
          AV.bool (decide ((((s.getD k 0).toNat : Nat) : Int) < 48)) = AV.bool true],
        .ret, ⟨[none, none, some (AV.bool false), none, some (AV.int .u8 (((s.getD k 0).toNat : Nat) : Int)), none, none, none, none, none, none, none, none, some (AV.vec 0 s.length), some (AV.int .i64 ((s.length : Nat) : Int)), some (AV.int .i64 ((k : Nat) : Int)), some (AV.bool true), some (AV.ptr 0 k), some (AV.int .u8 (((s.getD k 0).toNat : Nat) : Int)), some (AV.int .u8 (((s.getD k 0).toNat : Nat) : Int)), some (AV.bool true), some (AV.bool true), some (AV.tuple []), some (AV.tuple []), some (AV.bool true), none], [some (AObj.ro 0 (u8s s))]⟩, []⟩ (by kernel_rfl)
      ⟨bT (by omega), by omega, by omega, ptrE (by omega), Nat.zero_le _, u8s_get (by omega), bT c2, trivial⟩) (by kernel_rfl)
      ⟨rfl, rfl, trivial⟩
  · by_cases c3 : (((s.getD k 0).toNat : Nat) : Int) > 57
    · exact Tri.weak (ob := [AV.bool false = AV.bool false,
            AObj.ro 0 (u8s s) = AObj.ro 0 (u8s s)]) (exec_sound _ [.reg [(0, {val := some (AV.bool true)})], .reg [(0, {val := some (AV.ptr 0 k)}), (1, {val := some (AV.int .u8 (((s.getD k 0).toNat : Nat) : Int))})], .reg [(1, {val := some (AV.bool false)}), (4, {val := some (AV.bool true)})], .reg []] _
        ⟨[AV.bool (decide (((k : Nat) : Int) < ((s.length : Nat) : Int))) = AV.bool true,
            0 ≤ ((k : Nat) : Int),
            ((k : Nat) : Int) < ((s.length : Nat) : Int),
            AV.ptr 0 (Int.toNat ((k : Nat) : Int) * 1) = AV.ptr 0 k,
            0 ≤ k,
            (u8s s : List AV)[k - 0]? = some (AV.int .u8 (((s.getD k 0).toNat : Nat) : Int)),
            AV.bool (decide ((((s.getD k 0).toNat : Nat) : Int) < 48)) = AV.bool false,
            AV.bool (decide ((((s.getD k 0).toNat : Nat) : Int) > 57)) = AV.bool true],
          .ret, ⟨[none, none, some (AV.bool false), none, some (AV.int .u8 (((s.getD k 0).toNat : Nat) : Int)), none, none, none, none, none, none, none, none, some (AV.vec 0 s.length), some (AV.int .i64 ((s.length : Nat) : Int)), some (AV.int .i64 ((k : Nat) : Int)), some (AV.bool true), some (AV.ptr 0 k), some (AV.int .u8 (((s.getD k 0).toNat : Nat) : Int)), some (AV.int .u8 (((s.getD k 0).toNat : Nat) : Int)), some (AV.bool false), some (AV.bool false), some (AV.int .u8 (((s.getD k 0).toNat : Nat) : Int)), some (AV.bool true), some (AV.bool true), none], [some (AObj.ro 0 (u8s s))]⟩, []⟩ (by kernel_rfl)
        ⟨bT (by omega), by omega, by omega, ptrE (by omega), Nat.zero_le _, u8s_get (by omega), bF c2, bT c3, trivial⟩) (by kernel_rfl)
        ⟨rfl, rfl, trivial⟩
    · omega

def digs_out (s : List UInt8) : AState :=
  ⟨[none, none, none, none, none, none, none, none, none, none, none, none, none, none, none, none, none, none, none, none, none, none, none, none, none, none], [some (AObj.ro 0 (u8s s))]⟩

theorem digs_last (s : List UInt8) (hs : s.length < 1000000) : Tri Try.prog (loopN (bodyOf Try.f65) 0) (digs_inv s s.length) (.exit 0) (digs_out s) := by
  exact Tri.weak (ob := [AObj.ro 0 (u8s s) = AObj.ro 0 (u8s s)]) (exec_sound _ [.reg [(0, {val := some (AV.bool false)})]] _
    ⟨[AV.bool (decide (((s.length : Nat) : Int) < ((s.length : Nat) : Int))) = AV.bool false],
      .exit 0, ⟨[none, none, some (AV.bool false), none, none, none, none, none, none, none, none, none, none, some (AV.vec 0 s.length), some (AV.int .i64 ((s.length : Nat) : Int)), some (AV.int .i64 ((s.length : Nat) : Int)), some (AV.bool false), none, none, none, none, none, none, none, none, none], [some (AObj.ro 0 (u8s s))]⟩, []⟩ (by kernel_rfl)
    ⟨bF (by omega), trivial⟩) (by kernel_rfl)
    ⟨rfl, trivial⟩

theorem digs_loop_ok (s : List UInt8) (hs : s.length < 1000000) (h : ∀ b ∈ s, okDig b) : Tri Try.prog (.loop (loopN (bodyOf Try.f65) 0)) (digs_inv s 0) (.exit 0) (digs_out s) :=
  tri_up (digs_inv s) (ne_normal_exit 0) s.length (fun k hk => digs_round s k hs hk (h _ (getD_mem hk))) (digs_last s hs) 0 (Nat.zero_le _)
theorem digs_loop_bad (s : List UInt8) (hs : s.length < 1000000) (h : ¬ ∀ b ∈ s, okDig b) : Tri Try.prog (.loop (loopN (bodyOf Try.f65) 0)) (digs_inv s 0) .ret (digs_ret s) :=
  tri_loop (ι := {k : Nat // k ≤ s.length ∧ ∀ j, j < k → okDig (s.getD j 0)}) (fun i => digs_inv s i.1) (fun i => s.length - i.1) ne_normal_ret (by
    rintro ⟨k, hk, hall⟩
    have h0 : k < s.length := by
      rcases Nat.lt_or_ge k s.length with g | g
      · exact g
      · exfalso
        apply h
        intro b hb
        obtain ⟨j, hj, rfl⟩ := List.getElem_of_mem hb
        have := hall j (by omega)
        simpa [List.getD, hj] using this
    by_cases hc : okDig (s.getD k 0)
    · refine .inl ⟨⟨k + 1, by omega, fun j hj => ?_⟩, by show s.length - (k + 1) < s.length - k; omega, digs_round s k hs h0 hc⟩
      by_cases e : j = k
      · subst e; exact hc
      · exact hall j (by omega)
    · exact .inr (digs_bad s k hs h0 hc)) ⟨0, Nat.zero_le _, fun j hj => by omega⟩

theorem areDigits_meets (s : List UInt8) (hs : s.length < 1000000) : Meets Try.prog 65 [AV.str s] [] (AV.bool (isDigs s)) [] := by
  by_cases c1 : s = []
  · exact meets_of_exec (fn := Try.f65) 1 [.reg [], .reg [(1, {val := some (AV.bool true)})], .reg []] [{}]
      (r := ⟨[AV.bool (s == []) = AV.bool true],
        .ret, ⟨[some (AV.str s), none, some (AV.bool false), none, none, some (AV.str s), some (AV.bool true), some (AV.bool true), some (AV.tuple []), some (AV.tuple []), some (AV.tuple []), some (AV.bool true), none, none, none, none, none, none, none, none, none, none, none, none, none, none], [none]⟩, []⟩)
      (ob := [AV.bool false = AV.bool (isDigs s)])
      Try.func65 (by kernel_rfl) Try.call65 (by kernel_rfl)
      ⟨eqT c1, trivial⟩
      (.inl rfl) (by kernel_rfl) ⟨boolE (by first | (simp only [isDigs]; symm; simp only [decide_eq_false_iff_not, decide_eq_true_eq]; rintro ⟨g1, g2, g3⟩; first | exact g1 c1 | omega | exact c3 g3) | (simp only [isDigs]; symm; simp only [decide_eq_true_eq]; exact ⟨c1, by omega, c3⟩)), trivial⟩
  · by_cases c2 : ((s.length : Nat) : Int) > 40
    · exact meets_of_exec (fn := Try.f65) 1 [.reg [], .reg [(1, {val := some (AV.bool false)}), (5, {val := some (AV.bool true)})], .reg []] [{}]
        (r := ⟨[AV.bool (s == []) = AV.bool false,
            AV.bool (decide (((s.length : Nat) : Int) > 40)) = AV.bool true],
          .ret, ⟨[some (AV.str s), none, some (AV.bool false), none, none, some (AV.str s), some (AV.bool false), some (AV.bool false), some (AV.str s), some (AV.int .i64 ((s.length : Nat) : Int)), some (AV.bool true), some (AV.bool true), none, none, none, none, none, none, none, none, none, none, none, none, none, none], [none]⟩, []⟩)
        (ob := [AV.bool false = AV.bool (isDigs s)])
        Try.func65 (by kernel_rfl) Try.call65 (by kernel_rfl)
        ⟨eqF c1, bT c2, trivial⟩
        (.inl rfl) (by kernel_rfl) ⟨boolE (by first | (simp only [isDigs]; symm; simp only [decide_eq_false_iff_not, decide_eq_true_eq]; rintro ⟨g1, g2, g3⟩; first | exact g1 c1 | omega | exact c3 g3) | (simp only [isDigs]; symm; simp only [decide_eq_true_eq]; exact ⟨c1, by omega, c3⟩)), trivial⟩
    · by_cases c3 : ∀ b ∈ s, okDig b
      · exact meets_of_exec (fn := Try.f65) 1 [.reg [], .reg [(1, {val := some (AV.bool false)}), (5, {val := some (AV.bool false)})], .reg [(1, {nm := [0]})], .loop (⟨[none, none, some (AV.bool false), none, none, none, none, none, none, none, none, none, none, some (AV.vec 0 s.length), some (AV.int .i64 ((s.length : Nat) : Int)), some (AV.int .i64 0), none, none, none, none, none, none, none, none, none, none], [some (AObj.ro 0 (u8s s))]⟩) (.exit 0) (⟨[none, none, none, none, none, none, none, none, none, none, none, none, none, none, none, none, none, none, none, none, none, none, none, none, none, none], [some (AObj.ro 0 (u8s s))]⟩), .reg []] [{}]
          (r := ⟨[AV.bool (s == []) = AV.bool false,
              AV.bool (decide (((s.length : Nat) : Int) > 40)) = AV.bool false,
              AV.bool false = AV.bool false,
              AV.vec 0 s.length = AV.vec 0 s.length,
              AV.int .i64 ((s.length : Nat) : Int) = AV.int .i64 ((s.length : Nat) : Int),
              AV.int .i64 0 = AV.int .i64 0,
              AObj.ro 0 (u8s s) = AObj.ro 0 (u8s s),
              Tri Try.prog (.loop (loopN (bodyOf Try.f65) 0)) (⟨[none, none, some (AV.bool false), none, none, none, none, none, none, none, none, none, none, some (AV.vec 0 s.length), some (AV.int .i64 ((s.length : Nat) : Int)), some (AV.int .i64 0), none, none, none, none, none, none, none, none, none, none], [some (AObj.ro 0 (u8s s))]⟩) (.exit 0) (⟨[none, none, none, none, none, none, none, none, none, none, none, none, none, none, none, none, none, none, none, none, none, none, none, none, none, none], [some (AObj.ro 0 (u8s s))]⟩)],
            .ret, ⟨[none, none, some (AV.bool true), none, none, none, none, none, none, none, none, none, none, none, none, none, none, none, none, none, none, none, none, none, none, none], [some (AObj.ro 0 (u8s s))]⟩, []⟩)
          (ob := [AV.bool true = AV.bool (isDigs s)])
          Try.func65 (by kernel_rfl) Try.call65 (by kernel_rfl)
          ⟨eqF c1, bF c2, rfl, rfl, rfl, rfl, rfl, digs_loop_ok s hs c3, trivial⟩
          (.inl rfl) (by kernel_rfl) ⟨boolE (by first | (simp only [isDigs]; symm; simp only [decide_eq_false_iff_not, decide_eq_true_eq]; rintro ⟨g1, g2, g3⟩; first | exact g1 c1 | omega | exact c3 g3) | (simp only [isDigs]; symm; simp only [decide_eq_true_eq]; exact ⟨c1, by omega, c3⟩)), trivial⟩
      · exact meets_of_exec (fn := Try.f65) 1 [.reg [], .reg [(1, {val := some (AV.bool false)}), (5, {val := some (AV.bool false)})], .reg [(1, {nm := [0]})], .loop (⟨[none, none, some (AV.bool false), none, none, none, none, none, none, none, none, none, none, some (AV.vec 0 s.length), some (AV.int .i64 ((s.length : Nat) : Int)), some (AV.int .i64 0), none, none, none, none, none, none, none, none, none, none], [some (AObj.ro 0 (u8s s))]⟩) .ret (⟨[none, none, some (AV.bool false), none, none, none, none, none, none, none, none, none, none, none, none, none, none, none, none, none, none, none, none, none, none, none], [some (AObj.ro 0 (u8s s))]⟩)] [{}]
          (r := ⟨[AV.bool (s == []) = AV.bool false,
              AV.bool (decide (((s.length : Nat) : Int) > 40)) = AV.bool false,
              AV.bool false = AV.bool false,
              AV.vec 0 s.length = AV.vec 0 s.length,
              AV.int .i64 ((s.length : Nat) : Int) = AV.int .i64 ((s.length : Nat) : Int),
              AV.int .i64 0 = AV.int .i64 0,
              AObj.ro 0 (u8s s) = AObj.ro 0 (u8s s),
              Tri Try.prog (.loop (loopN (bodyOf Try.f65) 0)) (⟨[none, none, some (AV.bool false), none, none, none, none, none, none, none, none, none, none, some (AV.vec 0 s.length), some (AV.int .i64 ((s.length : Nat) : Int)), some (AV.int .i64 0), none, none, none, none, none, none, none, none, none, none], [some (AObj.ro 0 (u8s s))]⟩) .ret (⟨[none, none, some (AV.bool false), none, none, none, none, none, none, none, none, none, none, none, none, none, none, none, none, none, none, none, none, none, none, none], [some (AObj.ro 0 (u8s s))]⟩)],
            .ret, ⟨[none, none, some (AV.bool false), none, none, none, none, none, none, none, none, none, none, none, none, none, none, none, none, none, none, none, none, none, none, none], [some (AObj.ro 0 (u8s s))]⟩, []⟩)
          (ob := [AV.bool false = AV.bool (isDigs s)])
          Try.func65 (by kernel_rfl) Try.call65 (by kernel_rfl)
          ⟨eqF c1, bF c2, rfl, rfl, rfl, rfl, rfl, digs_loop_bad s hs c3, trivial⟩
          (.inl rfl) (by kernel_rfl) ⟨boolE (by first | (simp only [isDigs]; symm; simp only [decide_eq_false_iff_not, decide_eq_true_eq]; rintro ⟨g1, g2, g3⟩; first | exact g1 c1 | omega | exact c3 g3) | (simp only [isDigs]; symm; simp only [decide_eq_true_eq]; exact ⟨c1, by omega, c3⟩)), trivial⟩

end Go.Proofs.Ytabgphldbgdbpaa
