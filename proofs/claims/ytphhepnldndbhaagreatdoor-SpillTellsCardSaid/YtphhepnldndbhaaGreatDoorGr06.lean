import Derived.Test.YtphhepnldndbhaaGreatDoorGr05
import Derived.Test.YtphhepnldndbhaaGreatDoorRows
import Derived.Shelf.Lays
import Derived.Shelf.Unicode.ValidAny
import Derived.Lib.LaidU8T
import Derived.MakeChecks
import Derived.Lib.LaidTab
import Derived.Stop.LaidErr
import Derived.Shelf.Vars
import Derived.Lib.TrimU
set_option linter.unusedVariables false
set_option linter.unusedSimpArgs false
set_option linter.unusedSectionVars false
namespace Go.Proofs.YtphhepnldndbhaaGreatDoor
open Go Sx
def sqA : Code → Code
  | .seq a _ => a
  | c => c
def sqB : Code → Code
  | .seq _ b => b
  | c => c
def blB : Code → Code
  | .block _ b => b
  | c => c
noncomputable def tBk : Tab := [(26, eSats)]
theorem tBk_ok : TabOK Tryz.prog tBk := .cons eSats_ok .nil
noncomputable abbrev loopK : Code := (qyu (bodyOf Tryz.f11)).headD .skip
noncomputable def loK1 : Code := sqA loopK
noncomputable def loK6 : Code := sqA (blB (sqA (sqB loopK)))
noncomputable def loK7 : Code := sqB (blB (sqA (sqB loopK)))
noncomputable def loK5 : Code := sqB (sqB loopK)
theorem loK_shape : loopK = .seq loK1 (.seq (.block 1 (.seq loK6 loK7)) loK5) := by kernel_rfl
def shC : List CK := [.int .i64, .int .i64, .str]
abbrev vC (X : List (List CV)) : PObj := .vecR shC X 63
def mkC (r c : Int) : List CV := [.mk r [] false [], .mk c [] false [], .mk 0 [49] false []]
abbrev oB4 (s : AV) : PObj := .raw (.cells [s, .qzz, .qzz, .qzz] 35)
abbrev oSh (x y : AV) : PObj := .raw (.cells [.str [83], x, .str [84], y] 61)
section
variable (R A X Y : List (List CV)) (m p q : Nat) (i : Int) (x y : AV) (t : List (Option PObj))
def sB : qzw := ⟨none :: none :: some (.ptr 1 0) :: some (.ptr 2 0) :: some (.vec 3 m) :: some (.int .i64 i) :: nn 43, some (fA R) :: some (oB4 .qzz) :: some (oB4 (.slice 4 0 2 2)) :: some (vA A) :: some (oSh x y) :: (t ++ nn 64)⟩
def sB6 (s : Int) : qzw := ⟨none :: none :: some (.ptr 1 0) :: some (.ptr 2 0) :: some (.vec 3 m) :: some (.int .i64 i) :: some (.int .i64 s) :: nn 42, some (fA R) :: some (oB4 .qzz) :: some (oB4 (.slice 4 0 2 2)) :: some (vA A) :: some (oSh x y) :: (t ++ nn 64)⟩
def sBX : qzw := ⟨none :: none :: some (.ptr 1 0) :: some (.ptr 2 0) :: nn 45, some (fA R) :: some (oB4 .qzz) :: some (oB4 (.slice 3 0 2 2)) :: some (oSh x y) :: (t ++ nn 64)⟩
def ckB : List Bool := [ixN i m, inR i A]
def cellR : List CV := mkC (c1 (Sx.rowAt A i.toNat)) (c2 (Sx.rowAt A i.toNat))
theorem bk1 : code (ent Tryz.prog tBk nolv 64 1 20) Tryz.prog {} 1 64 1 loK1 (sB R A m i .qzz .qzz []) (endK 1 64 (fun n => hasN [2, 3, 4, 5] n) (fun n => hasN [2, 3] n)) = qyw (decide (i < (m : Int))) (some (.normal, sB R A m i .qzz .qzz [])) (some (.exit 0, sBX R .qzz .qzz [])) := by kernel_rfl
theorem bk1x : code (ent Tryz.prog tBk nolv 64 1 20) Tryz.prog {} 1 64 1 loK1 (sB R A m i (.vec 5 p) .qzz [some (vC X)]) (endK 1 64 (fun n => hasN [2, 3, 4, 5] n) (fun n => hasN [2, 3] n)) = qyw (decide (i < (m : Int))) (some (.normal, sB R A m i (.vec 5 p) .qzz [some (vC X)])) (some (.exit 0, sBX R (.vec 4 p) .qzz [some (vC X)])) := by kernel_rfl
theorem bk1y : code (ent Tryz.prog tBk nolv 64 1 20) Tryz.prog {} 1 64 1 loK1 (sB R A m i .qzz (.vec 5 q) [some (vC Y)]) (endK 1 64 (fun n => hasN [2, 3, 4, 5] n) (fun n => hasN [2, 3] n)) = qyw (decide (i < (m : Int))) (some (.normal, sB R A m i .qzz (.vec 5 q) [some (vC Y)])) (some (.exit 0, sBX R .qzz (.vec 4 q) [some (vC Y)])) := by kernel_rfl
theorem bk1b : code (ent Tryz.prog tBk nolv 64 1 20) Tryz.prog {} 1 64 1 loK1 (sB R A m i (.vec 5 p) (.vec 6 q) [some (vC X), some (vC Y)]) (endK 1 64 (fun n => hasN [2, 3, 4, 5] n) (fun n => hasN [2, 3] n)) = qyw (decide (i < (m : Int))) (some (.normal, sB R A m i (.vec 5 p) (.vec 6 q) [some (vC X), some (vC Y)])) (some (.exit 0, sBX R (.vec 4 p) (.vec 5 q) [some (vC X), some (vC Y)])) := by kernel_rfl
theorem bk6 : code (ent Tryz.prog tBk nolv 64 1 20) Tryz.prog {} 1 64 1 loK6 (sB R A m i .qzz .qzz []) (endK 1 64 (fun n => hasN [2, 3, 4, 5, 6] n) (fun n => hasN [2, 3] n)) = chks (some (.normal, sB6 R A m i .qzz .qzz [] (c0 (Sx.rowAt A i.toNat)))) (ckB A m i) := by kernel_rfl
theorem bk6x : code (ent Tryz.prog tBk nolv 64 1 20) Tryz.prog {} 1 64 1 loK6 (sB R A m i (.vec 5 p) .qzz [some (vC X)]) (endK 1 64 (fun n => hasN [2, 3, 4, 5, 6] n) (fun n => hasN [2, 3] n)) = chks (some (.normal, sB6 R A m i (.vec 5 p) .qzz [some (vC X)] (c0 (Sx.rowAt A i.toNat)))) (ckB A m i) := by kernel_rfl
theorem bk6y : code (ent Tryz.prog tBk nolv 64 1 20) Tryz.prog {} 1 64 1 loK6 (sB R A m i .qzz (.vec 5 q) [some (vC Y)]) (endK 1 64 (fun n => hasN [2, 3, 4, 5, 6] n) (fun n => hasN [2, 3] n)) = chks (some (.normal, sB6 R A m i .qzz (.vec 5 q) [some (vC Y)] (c0 (Sx.rowAt A i.toNat)))) (ckB A m i) := by kernel_rfl
theorem bk6b : code (ent Tryz.prog tBk nolv 64 1 20) Tryz.prog {} 1 64 1 loK6 (sB R A m i (.vec 5 p) (.vec 6 q) [some (vC X), some (vC Y)]) (endK 1 64 (fun n => hasN [2, 3, 4, 5, 6] n) (fun n => hasN [2, 3] n)) = chks (some (.normal, sB6 R A m i (.vec 5 p) (.vec 6 q) [some (vC X), some (vC Y)] (c0 (Sx.rowAt A i.toNat)))) (ckB A m i) := by kernel_rfl
def ckC (X : List (List CV)) (p : Nat) : List Bool := ckB A m i ++ ckB A m i ++ [decide ((vC X).len = p * 3) && roomB (p + 1) 32]
theorem bk70 : code (ent Tryz.prog tBk nolv 64 1 20) Tryz.prog {} 1 64 1 loK7 (sB6 R A m i .qzz .qzz [] 0) (endK 1 64 (fun n => hasN [2, 3, 4, 5] n) (fun n => hasN [2, 3] n)) = chks (some (.normal, sB R A m i (.vec 5 1) .qzz [some (vC [cellR A i])])) (ckB A m i ++ ckB A m i) := by kernel_rfl
theorem bk71 : code (ent Tryz.prog tBk nolv 64 1 20) Tryz.prog {} 1 64 1 loK7 (sB6 R A m i .qzz .qzz [] 1) (endK 1 64 (fun n => hasN [2, 3, 4, 5] n) (fun n => hasN [2, 3] n)) = chks (some (.normal, sB R A m i .qzz (.vec 5 1) [some (vC [cellR A i])])) (ckB A m i ++ ckB A m i) := by kernel_rfl
theorem bk7x0 : code (ent Tryz.prog tBk nolv 64 1 20) Tryz.prog {} 1 64 1 loK7 (sB6 R A m i (.vec 5 p) .qzz [some (vC X)] 0) (endK 1 64 (fun n => hasN [2, 3, 4, 5] n) (fun n => hasN [2, 3] n)) = chks (some (.normal, sB R A m i (.vec 5 (p + 1)) .qzz [some (vC (X ++ [cellR A i]))])) (ckC A m i X p) := by kernel_rfl
theorem bk7x1 : code (ent Tryz.prog tBk nolv 64 1 20) Tryz.prog {} 1 64 1 loK7 (sB6 R A m i (.vec 5 p) .qzz [some (vC X)] 1) (endK 1 64 (fun n => hasN [2, 3, 4, 5] n) (fun n => hasN [2, 3] n)) = chks (some (.normal, sB R A m i (.vec 5 p) (.vec 6 1) [some (vC X), some (vC [cellR A i])])) (ckB A m i ++ ckB A m i) := by kernel_rfl
theorem bk7y0 : code (ent Tryz.prog tBk nolv 64 1 20) Tryz.prog {} 1 64 1 loK7 (sB6 R A m i .qzz (.vec 5 q) [some (vC Y)] 0) (endK 1 64 (fun n => hasN [2, 3, 4, 5] n) (fun n => hasN [2, 3] n)) = chks (some (.normal, sB R A m i (.vec 5 1) (.vec 6 q) [some (vC [cellR A i]), some (vC Y)])) (ckB A m i ++ ckB A m i) := by kernel_rfl
theorem bk7y1 : code (ent Tryz.prog tBk nolv 64 1 20) Tryz.prog {} 1 64 1 loK7 (sB6 R A m i .qzz (.vec 5 q) [some (vC Y)] 1) (endK 1 64 (fun n => hasN [2, 3, 4, 5] n) (fun n => hasN [2, 3] n)) = chks (some (.normal, sB R A m i .qzz (.vec 5 (q + 1)) [some (vC (Y ++ [cellR A i]))])) (ckC A m i Y q) := by kernel_rfl
theorem bk7b0 : code (ent Tryz.prog tBk nolv 64 1 20) Tryz.prog {} 1 64 1 loK7 (sB6 R A m i (.vec 5 p) (.vec 6 q) [some (vC X), some (vC Y)] 0) (endK 1 64 (fun n => hasN [2, 3, 4, 5] n) (fun n => hasN [2, 3] n)) = chks (some (.normal, sB R A m i (.vec 5 (p + 1)) (.vec 6 q) [some (vC (X ++ [cellR A i])), some (vC Y)])) (ckC A m i X p) := by kernel_rfl
theorem bk7b1 : code (ent Tryz.prog tBk nolv 64 1 20) Tryz.prog {} 1 64 1 loK7 (sB6 R A m i (.vec 5 p) (.vec 6 q) [some (vC X), some (vC Y)] 1) (endK 1 64 (fun n => hasN [2, 3, 4, 5] n) (fun n => hasN [2, 3] n)) = chks (some (.normal, sB R A m i (.vec 5 p) (.vec 6 (q + 1)) [some (vC X), some (vC (Y ++ [cellR A i]))])) (ckC A m i Y q) := by kernel_rfl
theorem bk5x : code (ent Tryz.prog tBk nolv 64 1 20) Tryz.prog {} 1 64 1 loK5 (sB R A m i (.vec 5 p) .qzz [some (vC X)]) (endK 1 64 (fun n => hasN [2, 3, 4, 5] n) (fun n => hasN [2, 3] n)) = some (.normal, sB R A m (up1 i) (.vec 5 p) .qzz [some (vC X)]) := by kernel_rfl
theorem bk5y : code (ent Tryz.prog tBk nolv 64 1 20) Tryz.prog {} 1 64 1 loK5 (sB R A m i .qzz (.vec 5 q) [some (vC Y)]) (endK 1 64 (fun n => hasN [2, 3, 4, 5] n) (fun n => hasN [2, 3] n)) = some (.normal, sB R A m (up1 i) .qzz (.vec 5 q) [some (vC Y)]) := by kernel_rfl
theorem bk5b : code (ent Tryz.prog tBk nolv 64 1 20) Tryz.prog {} 1 64 1 loK5 (sB R A m i (.vec 5 p) (.vec 6 q) [some (vC X), some (vC Y)]) (endK 1 64 (fun n => hasN [2, 3, 4, 5] n) (fun n => hasN [2, 3] n)) = some (.normal, sB R A m (up1 i) (.vec 5 p) (.vec 6 q) [some (vC X), some (vC Y)]) := by kernel_rfl
end
end Go.Proofs.YtphhepnldndbhaaGreatDoor
namespace Go.Proofs.YtphhepnldndbhaaGreatDoor
open Go Sx
theorem tri_blockN {x : Code} {s s1 : AState} {id K : Nat} (h : Tri Tryz.prog x s .normal s1 K) : Tri Tryz.prog (.block id x) s .normal s1 K := fun ro w0 M E a w hro hR => by
  refine wpIn_block (wpIn_mono (h ro w0 M E a w hro hR) ?_)
  rintro e a' w' ⟨rfl, E', hle, h'⟩
  exact ⟨rfl, E', hle, h'⟩
theorem bkS {x : Code} {S S' : qzw} {kn kx : Nat → Bool} {ex : Ex} (h : code (ent Tryz.prog tBk nolv 64 1 20) Tryz.prog {} 1 64 1 x S (endK 1 64 kn kx) = some (ex, S')) : Tri Tryz.prog x S.toA ex S'.toA 1 :=
  qyy (qzv tBk_ok host qyz (NF := 64) (m := 1) 20) qyt h
theorem tri_seqX {a b : Code} {s s1 : AState} {ex : Ex} {K : Nat} (hne : ex ≠ .normal) (h : Tri Tryz.prog a s ex s1 K) : Tri Tryz.prog (.seq a b) s ex s1 K := fun ro w0 M E ac w hro hR => by
  refine wpIn_seq (wpIn_mono (h ro w0 M E ac w (no_left hro) hR) ?_)
  rintro e a' w' ⟨rfl, E', hle, h'⟩
  cases ex with
  | normal => exact absurd rfl hne
  | exit id => exact ⟨rfl, E', hle, h'⟩
  | ret => exact ⟨rfl, E', hle, h'⟩
abbrev kB : Nat → Bool := fun n => hasN [2, 3, 4, 5] n
abbrev kB6 : Nat → Bool := fun n => hasN [2, 3, 4, 5, 6] n
abbrev kBX : Nat → Bool := fun n => hasN [2, 3] n
theorem bk_round {S S6 S7 S' : qzw} (h1 : code (ent Tryz.prog tBk nolv 64 1 20) Tryz.prog {} 1 64 1 loK1 S (endK 1 64 kB kBX) = some (.normal, S)) (h6 : code (ent Tryz.prog tBk nolv 64 1 20) Tryz.prog {} 1 64 1 loK6 S (endK 1 64 kB6 kBX) = some (.normal, S6))
    (h7 : code (ent Tryz.prog tBk nolv 64 1 20) Tryz.prog {} 1 64 1 loK7 S6 (endK 1 64 kB kBX) = some (.normal, S7)) (h5 : code (ent Tryz.prog tBk nolv 64 1 20) Tryz.prog {} 1 64 1 loK5 S7 (endK 1 64 kB kBX) = some (.normal, S')) : Tri Tryz.prog loopK S.toA .normal S'.toA 1 := by
  rw [loK_shape]
  exact tri_seq (bkS h1) (tri_seq (tri_blockN (tri_seq (bkS h6) (bkS h7))) (bkS h5))
theorem bk_end {S S' : qzw} (h1 : code (ent Tryz.prog tBk nolv 64 1 20) Tryz.prog {} 1 64 1 loK1 S (endK 1 64 kB kBX) = some (.exit 0, S')) : Tri Tryz.prog loopK S.toA (.exit 0) S'.toA 1 := by
  rw [loK_shape]
  exact tri_seqX (fun e => by cases e) (bkS h1)
def bkL (A : List (List CV)) (s : Int) : Nat → List (List CV)
  | 0 => []
  | j + 1 => qyw (c0 (Sx.rowAt A j) == s) (bkL A s j ++ [mkC (c1 (Sx.rowAt A j)) (c2 (Sx.rowAt A j))]) (bkL A s j)
theorem bkL_le (A : List (List CV)) (s : Int) : ∀ j, (bkL A s j).length ≤ j
  | 0 => Nat.le_refl _
  | j + 1 => by
    have := bkL_le A s j
    rw [bkL]
    cases c0 (Sx.rowAt A j) == s <;> simp only [qyw, List.length_append, List.length_singleton] <;> omega
section
variable (R A : List (List CV)) (m : Nat)
def sBof (i : Int) : List (List CV) → List (List CV) → qzw
  | [], [] => sB R A m i .qzz .qzz []
  | X, [] => sB R A m i (.vec 5 X.length) .qzz [some (vC X)]
  | [], Y => sB R A m i .qzz (.vec 5 Y.length) [some (vC Y)]
  | X, Y => sB R A m i (.vec 5 X.length) (.vec 6 Y.length) [some (vC X), some (vC Y)]
def sBXof : List (List CV) → List (List CV) → qzw
  | [], [] => sBX R .qzz .qzz []
  | X, [] => sBX R (.vec 4 X.length) .qzz [some (vC X)]
  | [], Y => sBX R .qzz (.vec 4 Y.length) [some (vC Y)]
  | X, Y => sBX R (.vec 4 X.length) (.vec 5 Y.length) [some (vC X), some (vC Y)]
end
section
variable {R A : List (List CV)} {m : Nat}
theorem sB_app0 (i : Int) (X Y : List (List CV)) (r : List CV) : sBof R A m i (X ++ [r]) Y = match Y with
  | [] => sB R A m i (.vec 5 (X.length + 1)) .qzz [some (vC (X ++ [r]))]
  | Y => sB R A m i (.vec 5 (X.length + 1)) (.vec 6 Y.length) [some (vC (X ++ [r])), some (vC Y)] := by
  have : (X ++ [r]).length = X.length + 1 := by simp
  rw [← this]
  cases X <;> cases Y <;> rfl
theorem sB_app1 (i : Int) (X Y : List (List CV)) (r : List CV) : sBof R A m i X (Y ++ [r]) = match X with
  | [] => sB R A m i .qzz (.vec 5 (Y.length + 1)) [some (vC (Y ++ [r]))]
  | X => sB R A m i (.vec 5 X.length) (.vec 6 (Y.length + 1)) [some (vC X), some (vC (Y ++ [r]))] := by
  have : (Y ++ [r]).length = Y.length + 1 := by simp
  rw [← this]
  cases X <;> cases Y <;> rfl
theorem ckC_ok {X : List (List CV)} {i : Nat} (hk : ∀ b ∈ ckB A m (i : Int), b = true) (hX : X.length ≤ 12) : ∀ b ∈ ckC A m (i : Int) X X.length, b = true := by
  intro b hb
  unfold ckC at hb
  rw [List.mem_append, List.mem_append, List.mem_singleton] at hb
  rcases hb with (hb | hb) | rfl
  · exact hk b hb
  · exact hk b hb
  · rw [decide_eq_true (show (vC X).len = X.length * 3 from rfl)]; unfold roomB; exact decide_eq_true ⟨by omega, by omega⟩
theorem roundK (hA : ∀ i, i < m → c0 (Sx.rowAt A i) = 0 ∨ c0 (Sx.rowAt A i) = 1) (hm : m = A.length) (hs : m ≤ 12) {j : Nat} (hj : j < m) :
    Tri Tryz.prog loopK (sBof R A m (j : Int) (bkL A 0 j) (bkL A 1 j)).toA .normal (sBof R A m ((j + 1 : Nat) : Int) (bkL A 0 (j + 1)) (bkL A 1 (j + 1))).toA 1 := by
  have hk : ∀ b ∈ ckB A m (j : Int), b = true := all2 (ixN_nat hj) (inR_nat (by omega))
  have hk2 : ∀ b ∈ ckB A m (j : Int) ++ ckB A m (j : Int), b = true := fun b hb => (List.mem_append.1 hb).elim (hk b) (hk b)
  have hlt : decide ((j : Int) < (m : Int)) = true := decide_eq_true (by omega)
  have hu : up1 (j : Int) = ((j + 1 : Nat) : Int) := up1_nat (by omega)
  have l0 := bkL_le A 0 j
  have l1 := bkL_le A 1 j
  have hc : cellR A (j : Int) = mkC (c1 (Sx.rowAt A j)) (c2 (Sx.rowAt A j)) := by unfold cellR; rw [Int.toNat_natCast]
  rw [← hu]
  rcases hA j hj with e | e
  · have e0 : bkL A 0 (j + 1) = bkL A 0 j ++ [cellR A (j : Int)] := by rw [bkL, e, hc]; rfl
    have e1 : bkL A 1 (j + 1) = bkL A 1 j := by rw [bkL, e]; rfl
    rw [e0, e1, sB_app0]
    generalize bkL A 0 j = X at *
    generalize bkL A 1 j = Y at *
    have ec : c0 (Sx.rowAt A ((j : Int)).toNat) = 0 := by rw [Int.toNat_natCast]; exact e
    cases X with
    | nil => cases Y with
      | nil => exact bk_round ((bk1 ..).trans (bcT hlt)) ((bk6 ..).trans ((qzy hk).trans (by rw [ec]))) ((bk70 ..).trans (qzy hk2)) ((bk5x ..).trans rfl)
      | cons y Y => exact bk_round ((bk1y ..).trans (bcT hlt)) ((bk6y ..).trans ((qzy hk).trans (by rw [ec]))) ((bk7y0 ..).trans (qzy hk2)) ((bk5b ..).trans rfl)
    | cons x X => cases Y with
      | nil => exact bk_round ((bk1x ..).trans (bcT hlt)) ((bk6x ..).trans ((qzy hk).trans (by rw [ec]))) ((bk7x0 ..).trans (qzy (ckC_ok hk (by omega)))) ((bk5x ..).trans rfl)
      | cons y Y => exact bk_round ((bk1b ..).trans (bcT hlt)) ((bk6b ..).trans ((qzy hk).trans (by rw [ec]))) ((bk7b0 ..).trans (qzy (ckC_ok hk (by omega)))) ((bk5b ..).trans rfl)
  · have e0 : bkL A 0 (j + 1) = bkL A 0 j := by rw [bkL, e]; rfl
    have e1 : bkL A 1 (j + 1) = bkL A 1 j ++ [cellR A (j : Int)] := by rw [bkL, e, hc]; rfl
    rw [e0, e1, sB_app1]
    generalize bkL A 0 j = X at *
    generalize bkL A 1 j = Y at *
    have ec : c0 (Sx.rowAt A ((j : Int)).toNat) = 1 := by rw [Int.toNat_natCast]; exact e
    cases X with
    | nil => cases Y with
      | nil => exact bk_round ((bk1 ..).trans (bcT hlt)) ((bk6 ..).trans ((qzy hk).trans (by rw [ec]))) ((bk71 ..).trans (qzy hk2)) ((bk5y ..).trans rfl)
      | cons y Y => exact bk_round ((bk1y ..).trans (bcT hlt)) ((bk6y ..).trans ((qzy hk).trans (by rw [ec]))) ((bk7y1 ..).trans (qzy (ckC_ok hk (by omega)))) ((bk5y ..).trans rfl)
    | cons x X => cases Y with
      | nil => exact bk_round ((bk1x ..).trans (bcT hlt)) ((bk6x ..).trans ((qzy hk).trans (by rw [ec]))) ((bk7x1 ..).trans (qzy hk2)) ((bk5b ..).trans rfl)
      | cons y Y => exact bk_round ((bk1b ..).trans (bcT hlt)) ((bk6b ..).trans ((qzy hk).trans (by rw [ec]))) ((bk7b1 ..).trans (qzy (ckC_ok hk (by omega)))) ((bk5b ..).trans rfl)
theorem lastK : Tri Tryz.prog loopK (sBof R A m (m : Int) (bkL A 0 m) (bkL A 1 m)).toA (.exit 0) (sBXof R (bkL A 0 m) (bkL A 1 m)).toA 1 := by
  have hlt : decide ((m : Int) < (m : Int)) = false := decide_eq_false (by omega)
  generalize bkL A 0 m = X
  generalize bkL A 1 m = Y
  cases X with
  | nil => cases Y with
    | nil => exact bk_end ((bk1 ..).trans (bcF hlt))
    | cons y Y => exact bk_end ((bk1y ..).trans (bcF hlt))
  | cons x X => cases Y with
    | nil => exact bk_end ((bk1x ..).trans (bcF hlt))
    | cons y Y => exact bk_end ((bk1b ..).trans (bcF hlt))
theorem loopKK (hA : ∀ i, i < m → c0 (Sx.rowAt A i) = 0 ∨ c0 (Sx.rowAt A i) = 1) (hm : m = A.length) (hs : m ≤ 12) :
    Tri Tryz.prog (.loop loopK) (sB R A m 0 .qzz .qzz []).toA (.exit 0) (sBXof R (bkL A 0 m) (bkL A 1 m)).toA 1 :=
  tri_up (body := loopK) (fun j => (sBof R A m (j : Int) (bkL A 0 j) (bkL A 1 j)).toA) (fun e => by cases e) m (fun k hk => roundK hA hm hs hk) lastK 0 (Nat.zero_le _)
end
end Go.Proofs.YtphhepnldndbhaaGreatDoor
namespace Go.Proofs.YtphhepnldndbhaaGreatDoor
open Go Sx
section
variable (R A X Y : List (List CV)) (a m p q : Nat) (bx by' c : Bool)
def sBz : qzw := ⟨none :: none :: some (.ptr 1 0) :: some (.ptr 2 0) :: some .qzz :: some (.int .i64 0) :: nn 43, some (fA R) :: some (oB4 .qzz) :: some (oB4 (.slice 3 0 2 2)) :: some (oSh .qzz .qzz) :: nn 64⟩
theorem rBz : code (ent Tryz.prog tBk nolv 64 1 20) Tryz.prog {} 1 64 1 loopK (sBz R) (endK 1 64 kB kBX) = some (.exit 0, sBX R .qzz .qzz []) := by kernel_rfl
def outK : LAns := .chk c (.br bx (.br by' (.out (.exit 0) (sBX R .qzz .qzz [])) (.out (.exit 0) (sBX R .qzz (.vec 4 q) [some (vC Y)]))) (.br by' (.out (.exit 0) (sBX R (.vec 4 p) .qzz [some (vC X)])) (.out (.exit 0) (sBX R (.vec 4 p) (.vec 5 q) [some (vC X), some (vC Y)]))))
noncomputable def eK (x : LAns) : Nat → qzw → LAns := fun K st => match st.slots with
  | _ :: _ :: _ :: _ :: some .qzz :: _ => eAt 1 (sBz R) (.out (.exit 0) (sBX R .qzz .qzz [])) K st
  | _ => eAt 1 (sB R A m 0 .qzz .qzz []) x K st
noncomputable def lvK (x : LAns) : FuncId → Lv := lvOf 11 (fun _ => some [2, 3, 4, 5]) (oneL 4 (eK R A m x))
theorem lvK_ok {R A : List (List CV)} {m : Nat} {x : LAns} (hx : LAnsOK Tryz.prog loopK 1 (sB R A m 0 .qzz .qzz []) x) : LvOK Tryz.prog (lvK R A m x) := lvOne_ok (x := loopK) Tryz.func11 (by kernel_rfl) fun K t => by
  unfold eK
  split
  · refine eAt_ok (x := loopK) ?_ K t
    have key := loop_rounds (qzv (T := tBk) tBk_ok host qyz (NF := 64) (m := 1) 20) (NF := 64) (m := 1) (x := loopK) (K := 1) qyt kB kBX (ι := Unit) (fun _ => sBz R) (fun _ => 0) (fun _ => (.exit 0, sBX R .qzz .qzz [])) (fun _ => .inr (rBz R)) (fun _ => fun e => by cases e) ()
    exact key
  · exact eAt_ok hx K t
abbrev bkV : AV := .agg [.slice 1 0 2 2, .qzz, .qzz, .qzz]
def bkM : List PObj := [fA R, oSh .qzz .qzz]
def bkMx : List PObj := [fA R, oSh (.vec 2 p) .qzz, vC X]
def bkMy : List PObj := [fA R, oSh .qzz (.vec 2 q), vC Y]
def bkMb : List PObj := [fA R, oSh (.vec 2 p) (.vec 3 q), vC X, vC Y]
open Classical in
theorem bk_comes : Comes tBk (lvK R (atsL R (m12 a)) (atsL R (m12 a)).length (outK R X Y p q bx by' c)) 11 [.dsl 0 a] [fA R]
  (.chk (decide (okA a R)) (.br (Nat.beq a 0) (.chk (eqSt (sBz R) (sBz R)) (.ret bkV (bkM R))) (.chk (eqSt (sB R (atsL R (m12 a)) (atsL R (m12 a)).length 0 .qzz .qzz []) (sB R (atsL R (m12 a)) (atsL R (m12 a)).length 0 .qzz .qzz [])) (.chk c (.br bx (.br by' (.ret bkV (bkM R)) (.ret bkV (bkMy R Y q))) (.br by' (.ret bkV (bkMx R X p)) (.ret bkV (bkMb R X Y p q)))))))) := by unfold Comes; kernel_rfl
end
theorem pickS_in {c n : Int} (h : 0 < n) : 0 ≤ qyv c n ∧ qyv c n < n := by
  unfold qyv
  split
  · exact ⟨Int.tmod_nonneg n (by omega), Int.tmod_lt_of_pos _ h⟩
  · exact ⟨Int.tmod_nonneg n (by omega), Int.tmod_lt_of_pos _ h⟩
theorem insA_mem {O : List (List CV)} {p : List CV} {x : List CV} (h : x ∈ insA O p) : x ∈ O ∨ x = p := by
  unfold insA at h
  cases hb : scB O p O.length with
  | true => rw [hb] at h; exact .inl h
  | false =>
    rw [hb] at h
    simp only [qyw, List.mem_append, List.mem_singleton] at h
    rcases h with (h | h) | h
    · exact .inl (List.mem_of_mem_take h)
    · exact .inr h
    · exact .inl (List.mem_of_mem_drop h)
theorem atsL_mem {R : List (List CV)} {x : List CV} : ∀ k, x ∈ atsL R k → ∃ i, i < k ∧ x = plA (Sx.rowAt R i)
  | 0, h => nomatch h
  | k + 1, h => by
    rw [atsL] at h
    rcases insA_mem h with h | h
    · obtain ⟨i, hi, e⟩ := atsL_mem k h
      exact ⟨i, by omega, e⟩
    · exact ⟨k, by omega, h⟩
theorem plA_in (x : List CV) : 0 ≤ c0 (plA x) ∧ c0 (plA x) < 2 ∧ 0 ≤ c1 (plA x) ∧ c1 (plA x) < 200 ∧ 0 ≤ c2 (plA x) ∧ c2 (plA x) < 52 := by
  obtain ⟨a1, a2⟩ := pickS_in (c := c0 x) (n := 2) (by decide)
  obtain ⟨b1, b2⟩ := pickS_in (c := c1 x) (n := 8) (by decide)
  obtain ⟨d1, d2⟩ := pickS_in (c := c2 x) (n := 6) (by decide)
  unfold plA
  cases qyv (c1 x) 17 == 16 with
  | true =>
    have e1 : farR x = 199 - Int.tmod (qyv (c1 x) 8) 3 := by
      unfold farR w64; rw [i64_in] <;> have := Int.tmod_lt_of_pos (qyv (c1 x) 8) (b := 3) (by decide) <;> have := Int.tmod_nonneg 3 b1 <;> omega
    have e2 : farC x = 51 - Int.tmod (qyv (c2 x) 6) 3 := by
      unfold farC w64; rw [i64_in] <;> have := Int.tmod_lt_of_pos (qyv (c2 x) 6) (b := 3) (by decide) <;> have := Int.tmod_nonneg 3 d1 <;> omega
    have := Int.tmod_lt_of_pos (qyv (c1 x) 8) (b := 3) (by decide)
    have := Int.tmod_nonneg 3 b1
    have := Int.tmod_lt_of_pos (qyv (c2 x) 6) (b := 3) (by decide)
    have := Int.tmod_nonneg 3 d1
    show 0 ≤ qyv (c0 x) 2 ∧ qyv (c0 x) 2 < 2 ∧ 0 ≤ farR x ∧ farR x < 200 ∧ 0 ≤ farC x ∧ farC x < 52
    omega
  | false =>
    show 0 ≤ qyv (c0 x) 2 ∧ qyv (c0 x) 2 < 2 ∧ 0 ≤ qyv (c1 x) 8 ∧ qyv (c1 x) 8 < 200 ∧ 0 ≤ qyv (c2 x) 6 ∧ qyv (c2 x) 6 < 52
    omega
theorem atsL_in (R : List (List CV)) (k : Nat) {i : Nat} (hi : i < (atsL R k).length) : ∃ x, Sx.rowAt (atsL R k) i = plA x := by
  have : Sx.rowAt (atsL R k) i ∈ atsL R k := by
    have e : Sx.rowAt (atsL R k) i = (atsL R k)[i] := by unfold Sx.rowAt; simp [hi]
    rw [e]; exact List.getElem_mem hi
  obtain ⟨n, _, e⟩ := atsL_mem k this
  exact ⟨_, e⟩
theorem ats01 (R : List (List CV)) (k : Nat) (i : Nat) (hi : i < (atsL R k).length) : c0 (Sx.rowAt (atsL R k) i) = 0 ∨ c0 (Sx.rowAt (atsL R k) i) = 1 := by
  obtain ⟨x, e⟩ := atsL_in R k hi
  have := plA_in x
  rw [e]; omega
def bkX (R : List (List CV)) (a : Nat) (s : Int) : List (List CV) := bkL (atsL R (m12 a)) s (atsL R (m12 a)).length
open Classical in
noncomputable def eBk : Ent := fun args pre => match args, pre with
  | [.dsl j a], [.raw (.flatR f sh R)] => .chk (Nat.beq j 0 && shEq sh shA && !f) (.chk (decide (okA a R)) (.br (isNil (bkX R a 0)) (.br (isNil (bkX R a 1)) (.ret bkV [.raw (.flatR f sh R), oSh .qzz .qzz]) (.ret bkV [.raw (.flatR f sh R), oSh .qzz (.vec 2 (bkX R a 1).length), vC (bkX R a 1)]))
      (.br (isNil (bkX R a 1)) (.ret bkV [.raw (.flatR f sh R), oSh (.vec 2 (bkX R a 0).length) .qzz, vC (bkX R a 0)]) (.ret bkV [.raw (.flatR f sh R), oSh (.vec 2 (bkX R a 0).length) (.vec 3 (bkX R a 1).length), vC (bkX R a 0), vC (bkX R a 1)]))))
  | _, _ => .fail
theorem bk_lv {R : List (List CV)} {a : Nat} : LvOK Tryz.prog (lvK R (atsL R (m12 a)) (atsL R (m12 a)).length (outK R (bkX R a 0) (bkX R a 1) (bkX R a 0).length (bkX R a 1).length (isNil (bkX R a 0)) (isNil (bkX R a 1)) true)) := lvK_ok (by
  have hl := atsL_le R (m12 a)
  have key := loopKK (R := R) (A := atsL R (m12 a)) (m := (atsL R (m12 a)).length) (ats01 R (m12 a)) rfl (by have : m12 a ≤ 12 := Nat.min_le_right ..; omega)
  have e0 : bkL (atsL R (m12 a)) 0 (atsL R (m12 a)).length = bkX R a 0 := rfl
  have e1 : bkL (atsL R (m12 a)) 1 (atsL R (m12 a)).length = bkX R a 1 := rfl
  rw [e0, e1] at key
  refine ⟨fun _ => ⟨fun h => ⟨fun h' => ?_, fun h' => ?_⟩, fun h => ⟨fun h' => ?_, fun h' => ?_⟩⟩, fun _ => trivial⟩ <;> cases hx : bkX R a 0 <;> cases hy : bkX R a 1 <;> rw [hx, hy] at key <;> rw [hx] at h <;> rw [hy] at h' <;> first | exact key | (cases h; done) | (cases h'; done))
open Classical in
theorem eBk_ok : EntOK Tryz.prog 11 eBk := fun args pre => by
  unfold eBk
  split
  · rename_i j a f sh R
    refine ⟨fun g0 => ⟨fun g1 => ?_, fun _ => trivial⟩, fun _ => trivial⟩
    simp only [Bool.and_eq_true, beqT, Bool.not_eq_true'] at g0
    obtain ⟨⟨rfl, g⟩, rfl⟩ := g0
    obtain rfl := shEq_of g
    have key := bk_comes R (bkX R a 0) (bkX R a 1) a (bkX R a 0).length (bkX R a 1).length (isNil (bkX R a 0)) (isNil (bkX R a 1)) true
    have k0 : ∀ hx : isNil (bkX R a 0) = false, Nat.beq a 0 = false := fun hx => by
      rw [Bool.eq_false_iff]; intro e
      obtain rfl := beqT.1 e
      cases hx
    have k1 : ∀ hx : isNil (bkX R a 1) = false, Nat.beq a 0 = false := fun hx => by
      rw [Bool.eq_false_iff]; intro e
      obtain rfl := beqT.1 e
      cases hx
    refine ⟨fun h => ⟨fun h' => ?_, fun h' => ?_⟩, fun h => ⟨fun h' => ?_, fun h' => ?_⟩⟩
    · refine qyx (pre := [fA R]) (post := bkM R) tBk_ok host (key.trans ?_) bk_lv
      rw [chkT g1]
      cases Nat.beq a 0 with
      | true => rw [brT rfl, chkT (qzt _)]; rfl
      | false => rw [brF rfl, chkT (qzt _), chkT rfl, brT h, brT h']; rfl
    · refine qyx (pre := [fA R]) (post := bkMy R _ _) tBk_ok host (key.trans ?_) bk_lv
      rw [chkT g1, brF (k1 h'), chkT (qzt _), chkT rfl, brT h, brF h']; rfl
    · refine qyx (pre := [fA R]) (post := bkMx R _ _) tBk_ok host (key.trans ?_) bk_lv
      rw [chkT g1, brF (k0 h), chkT (qzt _), chkT rfl, brF h, brT h']; rfl
    · refine qyx (pre := [fA R]) (post := bkMb R _ _ _ _) tBk_ok host (key.trans ?_) bk_lv
      rw [chkT g1, brF (k0 h), chkT (qzt _), chkT rfl, brF h, brF h']; rfl
  · trivial
end Go.Proofs.YtphhepnldndbhaaGreatDoor
namespace Go.Proofs.YtphhepnldndbhaaGreatDoor
open Go Sx Go.Shelf
def layRen : Ren := ⟨fun | 196 => 153 | 259 => 188 | n => n, fun | 9 => 9 | 4 => 4 | 3 => 3 | 5 => 5 | 12 => 12 | 119 => 230 | 0 => 0 | 46 => 167 | 139 => 233 | 138 => 232 | 53 => 267 | n => n, fun | 3 => 1 | 4 => 2 | n => n⟩
theorem layValid : Lays.n196 Tryz.prog layRen := {
  mixed := by kernel_rfl,
  f196 := Tryz.func153.trans (congrArg some (by kernel_rfl)),
  f259 := Tryz.func188.trans (congrArg some (by kernel_rfl)),
  t0 := Tryz.underlying0,
  a0 := Tryz.isAgg0,
  z0 := Tryz.sizeOf0,
  v0 := Tryz.zeroValue0,
  t3 := Tryz.underlying3,
  a3 := Tryz.isAgg3,
  z3 := Tryz.sizeOf3,
  v3 := Tryz.zeroValue3,
  t4 := Tryz.underlying4,
  a4 := Tryz.isAgg4,
  z4 := Tryz.sizeOf4,
  v4 := Tryz.zeroValue4,
  t5 := Tryz.underlying5,
  a5 := Tryz.isAgg5,
  z5 := Tryz.sizeOf5,
  v5 := Tryz.zeroValue5,
  t9 := Tryz.underlying9,
  a9 := Tryz.isAgg9,
  z9 := Tryz.sizeOf9,
  v9 := Tryz.zeroValue9,
  t12 := Tryz.underlying12,
  a12 := Tryz.isAgg12,
  z12 := Tryz.sizeOf12,
  v12 := Tryz.zeroValue12,
  t46 := Tryz.underlying167,
  a46 := Tryz.isAgg167,
  z46 := Tryz.sizeOf167,
  v46 := Tryz.zeroValue167,
  t53 := Tryz.underlying267,
  a53 := Tryz.isAgg267,
  z53 := Tryz.sizeOf267,
  v53 := Tryz.zeroValue267,
  t119 := Tryz.underlying230,
  a119 := Tryz.isAgg230,
  z119 := Tryz.sizeOf230,
  t138 := Tryz.underlying232,
  a138 := Tryz.isAgg232,
  z138 := Tryz.sizeOf232,
  v138 := Tryz.zeroValue232,
  t139 := Tryz.underlying233,
  a139 := Tryz.isAgg233,
  z139 := Tryz.sizeOf233,
  v139 := Tryz.zeroValue233,
  g3 := by kernel_rfl,
  g4 := by kernel_rfl }
theorem layExtra : U8Extra Tryz.prog layRen := { n3 := by kernel_rfl, n4 := by kernel_rfl, y3 := by kernel_rfl, y4 := by kernel_rfl, c5 := by kernel_rfl, c119 := by kernel_rfl, c138 := by kernel_rfl }
theorem tabs_of_glob {w : World} {M : Nat → Prop} (h : GlobOK w M) : Lib.Utf8Tabs 1 2 w := by
  obtain ⟨_, _, h0⟩ := h.tab (g := 1) rfl
  obtain ⟨_, _, h1⟩ := h.tab (g := 2) rfl
  refine ⟨fun c hc => h0 c _ (by simp [gvals, List.getElem?_range hc]), fun i hi => ⟨h1 (2 * i) _ ?_, h1 (2 * i + 1) _ ?_⟩⟩
  · simp only [gvals, List.getElem?_map, List.getElem?_range (show 2 * i < 32 by omega), Option.map_some]
    simp
  · simp only [gvals, List.getElem?_map, List.getElem?_range (show 2 * i + 1 < 32 by omega), Option.map_some]
    rw [if_neg (by omega), show (2 * i + 1) / 2 = i by omega]
theorem tabs_part {w : World} (h : Lib.Utf8Tabs 1 2 w) : ∀ g l, gtab g = some l → g < w.heap.size ∧ ¬ (fun _ : Nat => False) g ∧ ∀ (i : Nat) x, (gvals l)[i]? = some x → w.cell? ⟨g, i, none⟩ = some x := by
  intro g l hg
  have big : ∀ {b i : Nat} {x : Value}, w.cell? ⟨b, i, none⟩ = some x → b < w.heap.size := fun {b i x} e => by
    rcases Nat.lt_or_ge b w.heap.size with h' | h'
    · exact h'
    · simp [World.cell?, Array.getElem?_eq_none h'] at e
  unfold gtab at hg
  split at hg
  · cases hg
    refine ⟨big (h.1 0 (by omega)), fun e => e, fun i x hx => ?_⟩
    have hi : i < 256 := by have := (List.getElem?_eq_some_iff.1 hx).1; simpa [gvals] using this
    simp only [gvals, List.getElem?_map, List.getElem?_range hi, Option.map_some, Option.some.injEq] at hx
    rw [← hx]; exact h.1 i hi
  · cases hg
    refine ⟨big (h.2 0 (by omega)).1, fun e => e, fun i x hx => ?_⟩
    have hi : i < 32 := by have := (List.getElem?_eq_some_iff.1 hx).1; simpa [gvals] using this
    simp only [gvals, List.getElem?_map, List.getElem?_range hi, Option.map_some, Option.some.injEq] at hx
    rw [← hx]
    by_cases c : i % 2 = 0
    · rw [if_pos c]
      have := (h.2 (i / 2) (by omega)).1
      rwa [show 2 * (i / 2) = i by omega] at this
    · rw [if_neg c]
      have := (h.2 (i / 2) (by omega)).2
      rwa [show 2 * (i / 2) + 1 = i by omega] at this
  · cases hg
theorem strs_part {w : World} (hf : ∀ (i : Nat) x, (gvalsS ((gstr 0).getD []))[i]? = some x → w.cell? ⟨0, i, none⟩ = some x) : ∀ g l, gtab g = none → gstr g = some l → g < w.heap.size ∧ ∀ (i : Nat) x, (gvalsS l)[i]? = some x → w.cell? ⟨g, i, none⟩ = some x := by
  intro g l _ hg
  unfold gstr at hg
  split at hg
  · cases hg
    refine ⟨?_, hf⟩
    have e := hf 0 _ rfl
    rcases Nat.lt_or_ge 0 w.heap.size with h' | h'
    · exact h'
    · simp [World.cell?, Array.getElem?_eq_none h'] at e
  · cases hg
theorem glob_of_tabs {w : World} (h : Lib.Utf8Tabs 1 2 w)
    (hf : ∀ (i : Nat) x, (gvalsS ((gstr 0).getD []))[i]? = some x → w.cell? ⟨0, i, none⟩ = some x) (hm : ∃ n, w.cell? ⟨4, 0, none⟩ = some (.int .i64 n)) : GlobOK w fun _ => False := by
  intro g hg
  have big : ∀ {b : Nat} {x : Value}, w.cell? ⟨b, 0, none⟩ = some x → b < w.heap.size := fun {b x} e => by
    rcases Nat.lt_or_ge b w.heap.size with h' | h'
    · exact h'
    · simp [World.cell?, Array.getElem?_eq_none h'] at e
  have her : gerr g = true → g < w.heap.size ∧ ∃ t v, w.cell? ⟨g, 0, none⟩ = some (.iface t v) := fun he => by cases he
  have hin : gint g = true → g < w.heap.size ∧ ∃ n, w.cell? ⟨g, 0, none⟩ = some (.int .i64 n) := fun he => by
    have : g = 4 := by
      unfold gint at he
      split at he
      · rfl
      · cases he
    subst this
    obtain ⟨n, e⟩ := hm; exact ⟨big e, n, e⟩
  have hal : ∀ p, gAll g = some p → g < w.heap.size ∧ ∀ (i : Nat) x, p.2[i]? = some x → w.cell? ⟨g, i, none⟩ = some x := fun p hp => by
    unfold gAll at hp
    split at hp
    · rename_i l hl; cases hp; have := tabs_part h g l hl; exact ⟨this.1, this.2.2⟩
    · rename_i hn
      split at hp
      · rename_i l hl; cases hp; exact strs_part hf g l hn hl
      · cases hp
  refine ⟨?_, fun e => e, fun p hp => (hal p hp).2, fun he => (her he).2, fun he => (hin he).2⟩
  cases hgt : gAll g with
  | some p => exact (hal p hgt).1
  | none =>
    unfold gAny at hg
    rw [hgt] at hg
    cases he : gerr g with
    | true => exact (her he).1
    | false => rw [he] at hg; exact (hin (by simpa using hg)).1
theorem cells_of_strs {H : Type} {enc : TypeId × Value → H} {P : Program} {w : World} {base : Nat} {sp : Nat → Bool} {held : Bool} {fuel : Nat} {t e : TypeId} {n : Nat} {cs : List Value} {zs : List (List UInt8)} {p : List MemPlace}
    (ht : P.underlying t = some (.array n e)) (he : P.underlying e = some .string) (hce : P.cellsOf e = 1) (hct : P.cellsOf t = n)
    (h : DataW.trod enc P w base sp held fuel t cs = some (.agg (zs.map fun z => .lit (.string z)), p)) : cs = gvalsS zs := by
  cases fuel with
  | zero => simp [DataW.trod] at h
  | succ fuel =>
    simp only [DataW.trod, ht, hce, hct, Nat.mul_one] at h
    split at h
    · rename_i hl
      obtain ⟨xs, hm, hx⟩ := Option.map_eq_some_iff.1 h
      have hxs : xs.map (·.1) = zs.map fun z => (DataW.lit (.string z) : DataW H) := by
        have := congrArg Prod.fst hx
        simpa using this
      have hxl : xs.length = n := by simpa using Lib.mapM_length hm
      have hzl : zs.length = n := by
        have := congrArg List.length hxs
        simp at this
        omega
      apply List.ext_getElem?
      intro i
      by_cases hi : i < n
      · obtain ⟨b, hb, hf⟩ := Lib.mapM_at hm i i (by simp [hi])
        obtain ⟨z, hc, rfl, _⟩ := DataW.trod_string he hf
        have h1 : cs[i]? = some (.string z) := by
          have := congrArg (·[0]?) hc
          simpa [List.getElem?_take, List.getElem?_drop] using this
        have h2 : (xs.map (·.1))[i]? = some (DataW.lit (.string z.data.toList) : DataW H) := by simp [hb]
        rw [hxs] at h2
        simp only [List.getElem?_map, Option.map_eq_some_iff, DataW.lit.injEq, Lit.string.injEq] at h2
        obtain ⟨z', hz', rfl⟩ := h2
        simp [h1, gvalsS, hz']
      · rw [List.getElem?_eq_none (by omega), List.getElem?_eq_none (by simp [gvalsS]; omega)]
    · cases h
theorem faults_of_laid {rest : List (String × DataW Unit)} {W : World} (h : laidMet Tryz.prog (("tabula/val.faults", Rows.laid_tabula_val_faults) :: rest) W) : ∀ (i : Nat) x, (gvalsS ((gstr 0).getD []))[i]? = some x → W.cell? ⟨0, i, none⟩ = some x := by
  have hg : Tryz.prog.globalNamed "tabula/val.faults" = some 0 := by kernel_rfl
  have hty : (Tryz.prog.globals[0]?).map (·.type) = some 164 := by kernel_rfl
  obtain ⟨ps, ⟨g', t', cs, fuel, p, q, hg', ht', hvar, hd, _, _⟩, _⟩ := h
  obtain rfl := Option.some.inj (hg.symm.trans hg')
  obtain rfl := Option.some.inj (hty.symm.trans ht')
  have he : (Rows.laid_tabula_val_faults : DataW Unit) = .agg (((gstr 0).getD []).map fun z => .lit (.string z)) := by kernel_rfl
  rw [he] at hd
  have hc := cells_of_strs Tryz.underlying164 Tryz.underlying9 (by kernel_rfl) (by kernel_rfl) hd
  intro i x hx
  have := World.var?_cell hg hvar i
  rw [this, ← hx, ← hc]
  simp
theorem maxlen_of_shape {W : World} (h : W.ShapedOpen Tryz.prog) : ∃ n, W.cell? ⟨4, 0, none⟩ = some (.int .i64 n) :=
  cell_of_shapedOpen_int (t := 3) (zero := #[.int .i64 0]) h (of_decide_eq_true (by kernel_rfl)) (by kernel_rfl) rfl (by kernel_rfl) (by kernel_rfl) Tryz.underlying3
theorem glob_of_laid {W : World} (h : laidMetH Tryz.prog Rows.spillMoreRow.laid W) (hs : W.ShapedOpen Tryz.prog) : GlobOK W fun _ => False := by
  rw [MakeChecks.laidMetH_plain _ _ _ (by kernel_rfl)] at h
  have hall := h
  obtain ⟨ps, hv, _⟩ := h
  have h3 := Lib.LaidVars_reads hv "unicode/utf8.first" Pinned.utf8First (by simp [Rows.spillMoreRow, Rows.laid_unicode_utf8_first])
  have h4 := Lib.LaidVars_reads hv "unicode/utf8.acceptRanges" Rows.laid_unicode_utf8_acceptRanges (by simp [Rows.spillMoreRow])
  have e3 : (Pinned.utf8First : DataW Unit) = Lib.firstData := by kernel_rfl
  rw [e3] at h3
  have e4 : (Rows.laid_unicode_utf8_acceptRanges : DataW Unit) = Lib.acceptData := by kernel_rfl
  rw [e4] at h4
  exact glob_of_tabs (utf8Tabs_of_readsT (U8Types.of196 layValid) layExtra h3 h4) (faults_of_laid (rest := Rows.spillMoreRow.laid.drop 8) hall.tail.tail.tail.tail.tail.tail.tail) (maxlen_of_shape hs)
def eValid : Ent := fun args pre => match args, pre with
  | [.str l], [] => .chk (decide (l.length ≤ 9223372036854775807)) (.ret (.bool (Lib.validD l)) [])
  | _, _ => .fail
theorem valid_ok : EntOK Tryz.prog 153 eValid := fun args pre => by
  unfold eValid
  split
  · rename_i l
    refine ⟨fun hb => ?_, fun _ => trivial⟩
    have hl : l.length ≤ 9223372036854775807 := by simpa using hb
    intro w E vs hvs hp
    obtain ⟨x, zs, hx, hz, rfl⟩ := qxz.1 hvs
    simp only [denL, Option.some.injEq] at hz
    subst hz
    have hx : x = .string ⟨l.toArray⟩ := by simpa [den] using hx.symm
    subst hx
    have hc := Any.utf8_ValidString layValid ⟨l.toArray⟩ w (by simpa [ByteArray.size] using hl) (tabs_of_glob hp.glob)
    refine .inl ⟨153, _, Tryz.call153 _ _, hc.mono ?_⟩
    rintro e w' ⟨rfl, hb'⟩
    refine ⟨E, _, rfl, rfl, ⟨.refl _, hp.fresh, fun n o h => by simp at h, fun n b c o _ h => by simp at h, fun n b c hn he => (by rw [hp.fresh n hn] at he; cases he), fun k hk _ => hb'.block k hk, fun n m o o' b c b' c' _ _ h => by simp at h, hb'.size, hb'.os, hb'.tape, hb'.output⟩⟩
  · trivial
end Go.Proofs.YtphhepnldndbhaaGreatDoor
namespace Go.Proofs.YtphhepnldndbhaaGreatDoor.Sx
open Go
def nonesB : Nat → List (Option PObj) → Bool
  | 0, [] => true
  | n + 1, none :: r => nonesB n r
  | _, _ => false
theorem nonesB_eq : ∀ (n : Nat) (l : List (Option PObj)), nonesB n l = true → l = List.replicate n none
  | 0, [], _ => rfl
  | 0, _ :: _, h => by cases h
  | n + 1, [], h => by cases h
  | n + 1, none :: r, h => by rw [List.replicate_succ, ← nonesB_eq n r h]
  | n + 1, some _ :: r, h => by cases h
end Go.Proofs.YtphhepnldndbhaaGreatDoor.Sx
namespace Go.Proofs.YtphhepnldndbhaaGreatDoor
open Go Sx
abbrev tab1 : Tab := tab0
theorem tab1_ok : TabOK Tryz.prog tab1 := tab0_ok
end Go.Proofs.YtphhepnldndbhaaGreatDoor
namespace Go.Proofs.YtphhepnldndbhaaGreatDoor
open Go Sx
def ctlB (l : List UInt8) : Nat → Nat → Bool
  | 0, _ => true
  | n + 1, p => qyw (decide (p < l.length)) (qyw (decide (((Utf8.decode ⟨l.toArray⟩ p).1 : Int) < 32)) false (qyw (((Utf8.decode ⟨l.toArray⟩ p).1 : Int) == 127) false (ctlB l n (p + (Utf8.decode ⟨l.toArray⟩ p).2)))) true
def st56 (u l : List UInt8) (p : Nat) : qzw :=
  ⟨[some (.str u), none, some (.bool false), none, none, none, some (.ptr 0 0), none, none, none, none, none, none, none, none, none, none, none], some (.raw (.iter l p)) :: List.replicate 64 none⟩
def fin56 (u : List UInt8) : qzw :=
  ⟨[some (.str u), none, some (.bool false), none, none, none, none, none, none, none, none, none, none, none, none, none, none, none], List.replicate 64 none⟩
theorem round56 (u l : List UInt8) (p : Nat) : code noH Tryz.prog {} 0 64 1 ((qyu (bodyOf Tryz.f131)).headD .skip) (st56 u l p) (endK 0 64 (fun n => hasN [0, 2, 6] n) (fun n => hasN [0, 2] n)) =
    qyw (decide (p < l.length)) (qyw (decide (((Utf8.decode ⟨l.toArray⟩ p).1 : Int) < 32)) (some (.ret, fin56 u)) (qyw (((Utf8.decode ⟨l.toArray⟩ p).1 : Int) == 127) (some (.ret, fin56 u)) (some (.normal, st56 u l (p + (Utf8.decode ⟨l.toArray⟩ p).2))))) (some (.exit 0, fin56 u)) := by kernel_rfl
theorem loop56 (u l : List UInt8) : Tri Tryz.prog (.loop ((qyu (bodyOf Tryz.f131)).headD .skip)) (st56 u l 0).toA (qyw (ctlB l l.length 0) (.exit 0) .ret) (fin56 u).toA 0 := by
  refine loop_rounds (ι := { q : Nat × Nat // l.length ≤ q.1 + q.2 }) noH_ok (lv := {}) (NF := 64) (m := 1) (fun x hx id e h1 h2 => by cases h2) (fun n => hasN [0, 2, 6] n) (fun n => hasN [0, 2] n) (fun q => st56 u l q.1.1) (fun q => q.1.2) (fun q => (qyw (ctlB l q.1.2 q.1.1) (.exit 0) .ret, fin56 u)) ?_ (fun q => by simp only; cases ctlB l q.1.2 q.1.1 <;> simp [qyw]) ⟨(0, l.length), by simp⟩
  rintro ⟨⟨p, n⟩, hq⟩
  simp only at hq ⊢
  rw [round56]
  cases n with
  | zero => exact .inr (by rw [bcF (by simp; omega)]; rfl)
  | succ n =>
    simp only [ctlB]
    by_cases h1 : p < l.length
    · have e1 : decide (p < l.length) = true := by simpa using h1
      rw [e1]
      cases e2 : decide (((Utf8.decode ⟨l.toArray⟩ p).1 : Int) < 32) with
      | true => exact .inr rfl
      | false =>
        cases e3 : (((Utf8.decode ⟨l.toArray⟩ p).1 : Int) == 127) with
        | true => exact .inr rfl
        | false =>
          have hd : 1 ≤ (Utf8.decode ⟨l.toArray⟩ p).2 := Lib.width_pos _ _
          exact .inl ⟨⟨(p + (Utf8.decode ⟨l.toArray⟩ p).2, n), by simp only; omega⟩, by simp, rfl, rfl⟩
    · have e1 : decide (p < l.length) = false := by simpa using h1
      rw [e1]; exact .inr rfl
def e56 : Nat → qzw → LAns := fun K t => match K, t with
  | 0, ⟨[some (.str u), none, some (.bool false), none, none, none, some (.ptr 0 0), none, none, none, none, none, none, none, none, none, none, none], some (.raw (.iter l 0)) :: rest⟩ =>
    .chk (nonesB 64 rest) (.br (ctlB l l.length 0) (.out (.exit 0) (fin56 u)) (.out .ret (fin56 u)))
  | _, _ => .fail
def lv56 : FuncId → Lv := fun f => match f with
  | 131 => { keep := fun _ => some [0, 2, 6], ent := fun i => match i with | 2 => some e56 | _ => none }
  | _ => {}
theorem lv56_ok : LvOK Tryz.prog lv56 := by
  intro f fn body hf hb K x hx id e hid he t
  by_cases h : f = 131
  · subst h
    obtain rfl : fn = Tryz.f131 := (Option.some.inj (Tryz.func131.symm.trans hf)).symm
    have hbody : body = bodyOf Tryz.f131 := by unfold bodyOf; rw [hb]; rfl
    subst hbody
    have h1 : qyu (bodyOf Tryz.f131) = [(qyu (bodyOf Tryz.f131)).headD .skip] := by kernel_rfl
    rw [h1] at hx
    have hx' := List.mem_singleton.1 hx
    have h2 : id = 2 := by
      have h3 : headReg ((qyu (bodyOf Tryz.f131)).headD .skip) = some 2 := by kernel_rfl
      rw [hx', h3] at hid; exact (Option.some.inj hid).symm
    subst h2
    have he' : e56 = e := Option.some.inj he
    subst he'
    rw [hx']
    clear hx hx' hid he hb hf h1
    unfold e56
    split
    · rename_i u l rest
      refine ⟨fun hn => ?_, fun _ => trivial⟩
      rw [nonesB_eq _ _ hn]
      have := loop56 u l
      refine ⟨fun hc => ?_, fun hc => ?_⟩
      · rw [bcT hc] at this; exact this
      · rw [bcF hc] at this; exact this
    · trivial
  · exfalso
    have : (lv56 f).ent id = none := by
      unfold lv56
      split
      · exact absurd rfl h
      · rfl
    rw [this] at he; cases he
def textB (l : List UInt8) : Bool := ctlB l l.length 0 && Lib.validD l
def eIsText : Ent := fun args pre => match args, pre with
  | [.str l], [] => .chk (decide (l.length ≤ 9223372036854775807)) (.ret (.bool (textB l)) [])
  | _, _ => .fail
def tab4 : Tab := (153, eValid) :: tab1
theorem tab4_ok : TabOK Tryz.prog tab4 := .cons valid_ok tab1_ok
theorem isText_ok : EntOK Tryz.prog 131 eIsText := fun args pre => by
  unfold eIsText
  split
  · rename_i l
    have e : Comes tab4 lv56 131 [.str l] [] (.br (ctlB l l.length 0) (.chk (decide (l.length ≤ 9223372036854775807)) (.ret (.bool (Lib.validD l)) [])) (.ret (.bool false) [])) := by unfold Comes; kernel_rfl
    refine of_run (ans_comes tab4_ok e lv56_ok) fun r h => ?_
    obtain ⟨h1, h⟩ := chk_run h
    rw [← h]
    simp only [Ans.run, Ans.chk, h1, textB]
    cases ctlB l l.length 0 with
    | true => rfl
    | false => rfl
  · trivial
def tab5 : Tab := (131, eIsText) :: tab4
theorem tab5_ok : TabOK Tryz.prog tab5 := .cons isText_ok tab4_ok
def eCount : Ent := fun args pre => match args with
  | [.str s, .int .u8 c] => .ret (.int .i64 (Lib.countByte s c.toNat.toUInt8)) pre
  | _ => .fail
theorem eCount_ok : EntOK Tryz.prog 223 eCount := by
  intro args pre
  unfold eCount
  split
  · rename_i s c
    intro w E vs hvs hp
    obtain ⟨x, zs, hx, hz, rfl⟩ := qxz.1 hvs
    obtain ⟨y, us, hy, hu, rfl⟩ := qxz.1 hz
    simp only [denL, Option.some.injEq] at hu
    subst hu
    have hx : x = .string ⟨s.toArray⟩ := by simpa [den] using hx.symm
    have hy : y = .int .u8 c := by simpa [den] using hy.symm
    subst hx; subst hy
    refine Does.of (by decide) (.inr ⟨_, w, ?_, E, _, rfl, rfl, PostR.same hp⟩)
    rw [run_callFunc_extern Tryz.func223 (by kernel_rfl) (by kernel_rfl) (by kernel_rfl) (e := Extern.BytealgCount.count) (by kernel_rfl)]
    rw [Lib.run_countString]; rfl
  · trivial
def tAw : Tab := (223, eCount) :: tab5
theorem tAw_ok : TabOK Tryz.prog tAw := .cons eCount_ok tab5_ok
theorem memo1 {T : Tab} {f : FuncId} {a : List AV} {r : AV} (hT : TabOK Tryz.prog T) (h : Comes T nolv f a [] (.ret r [])) : Meets Tryz.prog f a [] r [] := qyx (pre := []) (post := []) hT host h qyz
theorem rsS : Comes [] nolv 88 [.str [83]] [] (.ret (.bool true) []) := by unfold Comes; kernel_rfl
theorem rsT : Comes [] nolv 88 [.str [84]] [] (.ret (.bool true) []) := by unfold Comes; kernel_rfl
theorem rI1 : Comes tAw nolv 40 [.str [49]] [] (.ret (.bool true) []) := by unfold Comes; kernel_rfl
theorem rAl : Comes [] nolv 90 [.str [83], .str [84]] [] (.ret (.bool false) []) := by unfold Comes; kernel_rfl
def eRsh : Ent := fun args pre => match args, pre with
  | [.str s], [] => .br (s == [83]) (.ret (.bool true) []) (.chk (s == [84]) (.ret (.bool true) []))
  | _, _ => .fail
theorem eRsh_ok : EntOK Tryz.prog 88 eRsh := fun args pre => by
  unfold eRsh
  split
  · rename_i s
    refine ⟨fun h => ?_, fun _ => ⟨fun h => ?_, fun _ => trivial⟩⟩
    · obtain rfl := eq_of_beq h
      exact memo1 .nil rsS
    · obtain rfl := eq_of_beq h
      exact memo1 .nil rsT
  · trivial
def eInp : Ent := fun args pre => match args, pre with
  | [.str s], [] => .chk (s == [49]) (.ret (.bool true) [])
  | _, _ => .fail
theorem eInp_ok : EntOK Tryz.prog 40 eInp := fun args pre => by
  unfold eInp
  split
  · refine ⟨fun h => ?_, fun _ => trivial⟩
    obtain rfl := eq_of_beq h
    exact memo1 tAw_ok rI1
  · trivial
def eRplC : Ent := fun args pre => match args, pre with
  | [.agg [.int .i64 s, .int .i64 r, .int .i64 c]], [] => .chk (hasB s 0 0 200 52 s r c) (.ret (.bool true) [])
  | _, _ => .fail
theorem eRplC_ok : EntOK Tryz.prog 67 eRplC := fun args pre => by
  unfold eRplC
  split
  · rename_i s r c
    refine ⟨fun h => ?_, fun _ => trivial⟩
    have := memo1 tMt_ok (rpl_comes s r c)
    rw [h] at this; exact this
  · trivial
def eCmpL : Ent := fun args pre => match args, pre with
  | [.agg [.int .i64 s, .int .i64 r, .int .i64 c], .agg [.int .i64 s', .int .i64 r', .int .i64 c']], [] => .chk (cmP s r c s' r' c' == -1) (.ret (.int .i64 (-1)) [])
  | _, _ => .fail
theorem eCmpL_ok : EntOK Tryz.prog 46 eCmpL := fun args pre => by
  unfold eCmpL
  split
  · rename_i s r c s' r' c'
    refine ⟨fun h => ?_, fun _ => trivial⟩
    have := eCmp_ok [.agg [.int .i64 s, .int .i64 r, .int .i64 c], .agg [.int .i64 s', .int .i64 r', .int .i64 c']] []
    have this : Meets _ _ _ _ (.int .i64 (cmP s r c s' r' c')) _ := this
    rw [eq_of_beq h] at this; exact this
  · trivial
def tWc : Tab := [(67, eRplC), (46, eCmpL), (40, eInp)]
theorem tWc_ok : TabOK Tryz.prog tWc := .cons eRplC_ok (.cons eCmpL_ok (.cons eInp_ok .nil))
end Go.Proofs.YtphhepnldndbhaaGreatDoor
namespace Go.Proofs.YtphhepnldndbhaaGreatDoor
open Go Sx
noncomputable abbrev loopW : Code := (qyu (bodyOf Tryz.f56)).headD .skip
abbrev oC0 : PObj := .raw (.cells [.int .i64 0, .int .i64 0, .str []] 63)
section
variable (X : List (List CV)) (p : Nat) (i : Int)
def sW : qzw := ⟨some (.vec 0 p) :: none :: some (.ptr 1 0) :: none :: none :: none :: none :: some (.vec 0 p) :: some (.int .i64 (p : Int)) :: some (.int .i64 i) :: nn 33, some (vC X) :: some oC0 :: nn 64⟩
def sWX : qzw := ⟨none :: none :: some (.ptr 1 0) :: nn 40, some (vC X) :: some oC0 :: nn 64⟩
abbrev kW : Nat → Bool := fun n => hasN [0, 2, 7, 8, 9] n
abbrev kWX : Nat → Bool := fun n => hasN [2] n
def ckW1 : List Bool := [ixN i p, inR i X, hasB 0 0 0 200 52 0 (c0 (Sx.rowAt X i.toNat)) (c1 (Sx.rowAt X i.toNat))]
def ckW2 : List Bool := [ixN (w64 (i - 1)) p, inR (w64 (i - 1)) X, cmP 0 (c0 (Sx.rowAt X (w64 (i - 1)).toNat)) (c1 (Sx.rowAt X (w64 (i - 1)).toNat)) 0 (c0 (Sx.rowAt X i.toNat)) (c1 (Sx.rowAt X i.toNat)) == -1, (rowCV (Sx.rowAt X i.toNat) 2).s == [49]]
theorem rW : code (ent Tryz.prog tWc nolv 64 1 20) Tryz.prog {} 1 64 1 loopW (sW X p i) (endK 1 64 kW kWX) = qyw (decide (i < (p : Int))) (chks (qyw (decide (i > 0)) (chks (some (.normal, sW X p (up1 i))) (ckW2 X p i)) (chks (some (.normal, sW X p (up1 i))) [(rowCV (Sx.rowAt X i.toNat) 2).s == [49]])) (ckW1 X p i)) (some (.exit 0, sWX X)) := by kernel_rfl
end
def okW (X : List (List CV)) : Prop := X.length ≤ 400 ∧ ∀ j, j < X.length → hasB 0 0 0 200 52 0 (c0 (Sx.rowAt X j)) (c1 (Sx.rowAt X j)) = true ∧ (rowCV (Sx.rowAt X j) 2).s = [49] ∧ ∀ k, j = k + 1 → cmP 0 (c0 (Sx.rowAt X k)) (c1 (Sx.rowAt X k)) 0 (c0 (Sx.rowAt X j)) (c1 (Sx.rowAt X j)) = -1
theorem loopWW {X : List (List CV)} (h : okW X) : Tri Tryz.prog (.loop loopW) (sW X X.length 0).toA (.exit 0) (sWX X).toA 1 := by
  obtain ⟨hl, h⟩ := h
  have key := loop_rounds (qzv (T := tWc) tWc_ok host qyz (NF := 64) (m := 1) 20) (NF := 64) (m := 1) (x := loopW) (K := 1) qyt kW kWX (ι := { j : Nat // j ≤ X.length }) (fun j => sW X X.length (j.1 : Int)) (fun j => X.length - j.1) (fun _ => (.exit 0, sWX X)) ?_ (fun _ => fun e => by cases e) ⟨0, Nat.zero_le _⟩
  · exact key
  rintro ⟨j, hj⟩
  simp only
  by_cases hlt : j < X.length
  · left
    refine ⟨⟨j + 1, hlt⟩, by simp only; omega, trivial, ?_⟩
    obtain ⟨h1, h2, h3⟩ := h j hlt
    rw [rW, bcT (decide_eq_true (by omega)), qzy (by
      intro b hb
      unfold ckW1 at hb
      rw [Int.toNat_natCast] at hb
      simp only [List.mem_cons, List.not_mem_nil, or_false] at hb
      rcases hb with rfl | rfl | rfl
      · exact ixN_nat hlt
      · exact inR_nat hlt
      · exact h1), up1_nat (by omega)]
    cases j with
    | zero => rw [bcF (decide_eq_false (by omega)), qzy (all1 (by rw [Int.toNat_natCast, h2]; rfl))]
    | succ k =>
      have hw : w64 (((k + 1 : Nat) : Int) - 1) = (k : Int) := by unfold w64; rw [i64_in (by omega) (by omega)]; omega
      rw [bcT (decide_eq_true (by omega)), qzy (by
        intro b hb
        unfold ckW2 at hb
        rw [hw, Int.toNat_natCast, Int.toNat_natCast] at hb
        simp only [List.mem_cons, List.not_mem_nil, or_false] at hb
        rcases hb with rfl | rfl | rfl | rfl
        · exact ixN_nat (by omega)
        · exact inR_nat (by omega)
        · rw [h3 k rfl]; rfl
        · rw [h2]; rfl)]
  · right
    rw [rW, bcF (decide_eq_false (by omega))]
noncomputable def lvW (X : List (List CV)) (c : Bool) : FuncId → Lv := lvOf 56 (fun _ => some [0, 2, 7, 8, 9]) (oneL 2 (eAt 1 (sW X X.length 0) (.chk c (.out (.exit 0) (sWX X)))))
theorem lvW_ok {X : List (List CV)} (h : okW X) : LvOK Tryz.prog (lvW X true) := lvOne_ok (x := loopW) Tryz.func56 (by kernel_rfl) fun K t => eAt_ok (a := .chk true (.out (.exit 0) (sWX X))) ⟨fun _ => loopWW h, fun _ => trivial⟩ K t
abbrev wcV : AV := .tuple [.agg [.int .i64 0, .int .i64 0, .str []], .bool false]
theorem wc_nil : Comes tWc nolv 56 [.qzz] [] (.ret wcV []) := by unfold Comes; kernel_rfl
theorem wc_vec (X : List (List CV)) (c : Bool) : Comes tWc (lvW X c) 56 [.vec 0 X.length] [vC X] (.chk (eqSt (sW X X.length 0) (sW X X.length 0)) (.chk c (.ret wcV [vC X]))) := by unfold Comes; kernel_rfl
open Classical in
noncomputable def eWc : Ent := fun args pre => match args, pre with
  | [.qzz], [] => .ret wcV []
  | [.vec j p], [.vecR sh X ty] => .chk (Nat.beq j 0 && shEq sh shC && Nat.beq ty 63) (.chk (Nat.beq p X.length) (.chk (decide (okW X)) (.ret wcV [.vecR sh X ty])))
  | _, _ => .fail
open Classical in
theorem eWc_ok : EntOK Tryz.prog 56 eWc := fun args pre => by
  unfold eWc
  split
  · exact qyx (pre := []) (post := []) tWc_ok host wc_nil qyz
  · rename_i j p sh X ty
    refine ⟨fun g0 => ⟨fun g1 => ⟨fun g2 => ?_, fun _ => trivial⟩, fun _ => trivial⟩, fun _ => trivial⟩
    simp only [Bool.and_eq_true, beqT] at g0
    obtain ⟨⟨rfl, g⟩, rfl⟩ := g0
    obtain rfl := shEq_of g
    obtain rfl := beqT.1 g1
    refine qyx (pre := [vC X]) (post := [vC X]) tWc_ok host ((wc_vec X true).trans ?_) (lvW_ok (of_decide_eq_true g2))
    rw [chkT (qzt _), chkT rfl]; rfl
  · trivial
end Go.Proofs.YtphhepnldndbhaaGreatDoor
namespace Go.Proofs.YtphhepnldndbhaaGreatDoor
open Go Sx
def eAlk : Ent := fun args pre => match args, pre with
  | [.str s, .str t], [] => .chk (s == [83] && t == [84]) (.ret (.bool false) [])
  | _, _ => .fail
theorem eAlk_ok : EntOK Tryz.prog 90 eAlk := fun args pre => by
  unfold eAlk
  split
  · refine ⟨fun h => ?_, fun _ => trivial⟩
    rw [Bool.and_eq_true] at h
    obtain rfl := eq_of_beq h.1
    obtain rfl := eq_of_beq h.2
    exact memo1 .nil rAl
  · trivial
noncomputable def tCk : Tab := [(88, eRsh), (90, eAlk), (56, eWc)]
theorem tCk_ok : TabOK Tryz.prog tCk := .cons eRsh_ok (.cons eAlk_ok (.cons eWc_ok .nil))
abbrev bkW : AV := .agg [.slice 0 0 2 2, .qzz, .qzz, .qzz]
noncomputable abbrev loopC1 : Code := (qyu (bodyOf Tryz.f20)).headD .skip
noncomputable abbrev loopC : Code := ((qyu (bodyOf Tryz.f20)).drop 1).headD .skip
def sC (pre : List (Option PObj)) (l : AV) (s : Int) (src : AV) (n i : Int) (t : List (Option PObj)) : qzw := ⟨nn 6 ++ (some l :: some (.int .i64 s) :: nn 12) ++ (some (.slice 0 0 2 2) :: some (.int .i64 2) :: some (.int .i64 s) :: nn 5) ++ (some src :: some (.int .i64 n) :: some (.int .i64 i) :: nn 12), pre ++ (t ++ nn 64)⟩
def sCX (pre : List (Option PObj)) (l : AV) (s : Int) (t : List (Option PObj)) : qzw := ⟨nn 6 ++ (some l :: nn 13) ++ (some (.slice 0 0 2 2) :: some (.int .i64 2) :: some (.int .i64 s) :: nn 20), pre ++ (t ++ nn 64)⟩
abbrev kC : Nat → Bool := fun n => hasN [6, 7, 20, 21, 22, 28, 29, 30] n
abbrev kCX : Nat → Bool := fun n => hasN [6, 20, 21, 22] n
section
variable (X Y L : List (List CV)) (p q n k : Nat) (s i : Int)
def pX : List (Option PObj) := [some (oSh (.vec 1 p) .qzz), some (vC X)]
def pY : List (Option PObj) := [some (oSh .qzz (.vec 1 q)), some (vC Y)]
def pXY : List (Option PObj) := [some (oSh (.vec 1 p) (.vec 2 q)), some (vC X), some (vC Y)]
def atC (X : List (List CV)) (s i : Int) : List CV := mkA s (c0 (Sx.rowAt X i.toNat)) (c1 (Sx.rowAt X i.toNat))
def ckR : List Bool := [ixN i n, inR i X]
def ckV : List Bool := [ixN i n, inR i X, decide ((vA L).len = k * 3) && roomB (k + 1) 24]
theorem rAn : code (ent Tryz.prog tCk nolv 64 1 20) Tryz.prog {} 2 64 1 loopC (sC (pX X p) .qzz s (.vec 1 n) n i []) (endK 2 64 kC kCX) = qyw (decide (i < (n : Int))) (chks (some (.normal, sC (pX X p) (.vec 2 1) s (.vec 1 n) n (up1 i) [some (vA [atC X s i])])) (ckR X n i)) (some (.exit 2, sCX (pX X p) .qzz s [])) := by kernel_rfl
theorem rAv : code (ent Tryz.prog tCk nolv 64 1 20) Tryz.prog {} 2 64 1 loopC (sC (pX X p) (.vec 2 k) s (.vec 1 n) n i [some (vA L)]) (endK 2 64 kC kCX) = qyw (decide (i < (n : Int))) (chks (some (.normal, sC (pX X p) (.vec 2 (k + 1)) s (.vec 1 n) n (up1 i) [some (vA (L ++ [atC X s i]))])) (ckV X L n k i)) (some (.exit 2, sCX (pX X p) (.vec 2 k) s [some (vA L)])) := by kernel_rfl
theorem rBn : code (ent Tryz.prog tCk nolv 64 1 20) Tryz.prog {} 2 64 1 loopC (sC (pY Y q) .qzz s (.vec 1 n) n i []) (endK 2 64 kC kCX) = qyw (decide (i < (n : Int))) (chks (some (.normal, sC (pY Y q) (.vec 2 1) s (.vec 1 n) n (up1 i) [some (vA [atC Y s i])])) (ckR Y n i)) (some (.exit 2, sCX (pY Y q) .qzz s [])) := by kernel_rfl
theorem rBv : code (ent Tryz.prog tCk nolv 64 1 20) Tryz.prog {} 2 64 1 loopC (sC (pY Y q) (.vec 2 k) s (.vec 1 n) n i [some (vA L)]) (endK 2 64 kC kCX) = qyw (decide (i < (n : Int))) (chks (some (.normal, sC (pY Y q) (.vec 2 (k + 1)) s (.vec 1 n) n (up1 i) [some (vA (L ++ [atC Y s i]))])) (ckV Y L n k i)) (some (.exit 2, sCX (pY Y q) (.vec 2 k) s [some (vA L)])) := by kernel_rfl
theorem rCn : code (ent Tryz.prog tCk nolv 64 1 20) Tryz.prog {} 3 64 1 loopC (sC (pXY X Y p q) .qzz s (.vec 1 n) n i []) (endK 3 64 kC kCX) = qyw (decide (i < (n : Int))) (chks (some (.normal, sC (pXY X Y p q) (.vec 3 1) s (.vec 1 n) n (up1 i) [some (vA [atC X s i])])) (ckR X n i)) (some (.exit 2, sCX (pXY X Y p q) .qzz s [])) := by kernel_rfl
theorem rCv : code (ent Tryz.prog tCk nolv 64 1 20) Tryz.prog {} 3 64 1 loopC (sC (pXY X Y p q) (.vec 3 k) s (.vec 1 n) n i [some (vA L)]) (endK 3 64 kC kCX) = qyw (decide (i < (n : Int))) (chks (some (.normal, sC (pXY X Y p q) (.vec 3 (k + 1)) s (.vec 1 n) n (up1 i) [some (vA (L ++ [atC X s i]))])) (ckV X L n k i)) (some (.exit 2, sCX (pXY X Y p q) (.vec 3 k) s [some (vA L)])) := by kernel_rfl
theorem rDv : code (ent Tryz.prog tCk nolv 64 1 20) Tryz.prog {} 3 64 1 loopC (sC (pXY X Y p q) (.vec 3 k) s (.vec 2 n) n i [some (vA L)]) (endK 3 64 kC kCX) = qyw (decide (i < (n : Int))) (chks (some (.normal, sC (pXY X Y p q) (.vec 3 (k + 1)) s (.vec 2 n) n (up1 i) [some (vA (L ++ [atC Y s i]))])) (ckV Y L n k i)) (some (.exit 2, sCX (pXY X Y p q) (.vec 3 k) s [some (vA L)])) := by kernel_rfl
end
end Go.Proofs.YtphhepnldndbhaaGreatDoor
namespace Go.Proofs.YtphhepnldndbhaaGreatDoor
open Go Sx
def colL (s : Int) (X : List (List CV)) : Nat → List (List CV)
  | 0 => []
  | j + 1 => colL s X j ++ [mkA s (c0 (Sx.rowAt X j)) (c1 (Sx.rowAt X j))]
theorem colL_len (s : Int) (X : List (List CV)) : ∀ j, (colL s X j).length = j
  | 0 => rfl
  | j + 1 => by rw [colL, List.length_append, colL_len s X j]; rfl
theorem atC_nat (X : List (List CV)) (s : Int) (j : Nat) : atC X s (j : Int) = mkA s (c0 (Sx.rowAt X j)) (c1 (Sx.rowAt X j)) := by unfold atC; rw [Int.toNat_natCast]
theorem loops_c {K n : Nat} (S : Nat → qzw) (E : qzw) (step : ∀ j, j < n → code (ent Tryz.prog tCk nolv 64 1 20) Tryz.prog {} K 64 1 loopC (S j) (endK K 64 kC kCX) = some (.normal, S (j + 1))) (last : code (ent Tryz.prog tCk nolv 64 1 20) Tryz.prog {} K 64 1 loopC (S n) (endK K 64 kC kCX) = some (.exit 2, E)) : Tri Tryz.prog (.loop loopC) (S 0).toA (.exit 2) E.toA K := by
  have key := loop_rounds (qzv (T := tCk) tCk_ok host qyz (NF := 64) (m := 1) 20) (NF := 64) (m := 1) (x := loopC) (K := K) qyt kC kCX (ι := { j : Nat // j ≤ n }) (fun j => S j.1) (fun j => n - j.1) (fun _ => (.exit 2, E)) ?_ (fun _ => fun e => by cases e) ⟨0, Nat.zero_le _⟩
  · exact key
  rintro ⟨j, hj⟩
  simp only
  by_cases hlt : j < n
  · exact .inl ⟨⟨j + 1, hlt⟩, by simp only; omega, trivial, step j hlt⟩
  · obtain rfl : j = n := by omega
    exact .inr last
section
variable {X Y L : List (List CV)} {p q n k : Nat} {s : Int}
theorem ckR_ok {X : List (List CV)} {j : Nat} (hj : j < X.length) : ∀ b ∈ ckR X X.length (j : Int), b = true := all2 (ixN_nat hj) (inR_nat hj)
theorem ckV_ok {X L : List (List CV)} {j : Nat} (hj : j < X.length) (hl : L.length ≤ 1000) : ∀ b ∈ ckV X L X.length L.length (j : Int), b = true := by
  intro b hb
  unfold ckV at hb
  simp only [List.mem_cons, List.not_mem_nil, or_false] at hb
  rcases hb with rfl | rfl | rfl
  · exact ixN_nat hj
  · exact inR_nat hj
  · rw [decide_eq_true (show (vA L).len = L.length * 3 from rfl)]; unfold roomB; exact decide_eq_true ⟨by omega, by omega⟩
def SN (pre : List (Option PObj)) (s : Int) (m : Nat) (X : List (List CV)) (src : AV) : Nat → qzw
  | 0 => sC pre .qzz s src X.length 0 []
  | j + 1 => sC pre (.vec m (j + 1)) s src X.length ((j + 1 : Nat) : Int) [some (vA (colL s X (j + 1)))]
theorem loopCA (h0 : 0 < X.length) (hn : X.length ≤ 400) : Tri Tryz.prog (.loop loopC) (sC (pX X p) .qzz s (.vec 1 X.length) X.length 0 []).toA (.exit 2) (sCX (pX X p) (.vec 2 X.length) s [some (vA (colL s X X.length))]).toA 2 := by
  refine loops_c (n := X.length) (SN (pX X p) s 2 X (.vec 1 X.length)) _ (fun j hj => ?_) ?_
  · have hu : up1 (j : Int) = ((j + 1 : Nat) : Int) := up1_nat (by omega)
    cases j with
    | zero => exact (rAn X p X.length s 0).trans ((bcT (decide_eq_true (by omega))).trans (qzy (ckR_ok hj)))
    | succ j =>
      have hl := colL_len s X (j + 1)
      have rd := rAv X (colL s X (j + 1)) p X.length (j + 1) s ((j + 1 : Nat) : Int)
      have ck := ckV_ok (L := colL s X (j + 1)) hj (by omega)
      rw [hl] at ck
      rw [bcT (decide_eq_true (by omega)), qzy ck, hu, atC_nat] at rd
      exact rd
  · cases hn' : X.length with
    | zero => omega
    | succ j =>
      have rd := rAv X (colL s X (j + 1)) p X.length (j + 1) s ((j + 1 : Nat) : Int)
      rw [bcF (decide_eq_false (by omega)), hn'] at rd
      unfold SN
      rw [hn']
      exact rd
theorem loopCB (h0 : 0 < Y.length) (hn : Y.length ≤ 400) : Tri Tryz.prog (.loop loopC) (sC (pY Y q) .qzz s (.vec 1 Y.length) Y.length 0 []).toA (.exit 2) (sCX (pY Y q) (.vec 2 Y.length) s [some (vA (colL s Y Y.length))]).toA 2 := by
  refine loops_c (n := Y.length) (SN (pY Y q) s 2 Y (.vec 1 Y.length)) _ (fun j hj => ?_) ?_
  · have hu : up1 (j : Int) = ((j + 1 : Nat) : Int) := up1_nat (by omega)
    cases j with
    | zero => exact (rBn Y q Y.length s 0).trans ((bcT (decide_eq_true (by omega))).trans (qzy (ckR_ok hj)))
    | succ j =>
      have hl := colL_len s Y (j + 1)
      have rd := rBv Y (colL s Y (j + 1)) q Y.length (j + 1) s ((j + 1 : Nat) : Int)
      have ck := ckV_ok (L := colL s Y (j + 1)) hj (by omega)
      rw [hl] at ck
      rw [bcT (decide_eq_true (by omega)), qzy ck, hu, atC_nat] at rd
      exact rd
  · cases hn' : Y.length with
    | zero => omega
    | succ j =>
      have rd := rBv Y (colL s Y (j + 1)) q Y.length (j + 1) s ((j + 1 : Nat) : Int)
      rw [bcF (decide_eq_false (by omega)), hn'] at rd
      unfold SN
      rw [hn']
      exact rd
theorem loopCC (h0 : 0 < X.length) (hn : X.length ≤ 400) : Tri Tryz.prog (.loop loopC) (sC (pXY X Y p q) .qzz s (.vec 1 X.length) X.length 0 []).toA (.exit 2) (sCX (pXY X Y p q) (.vec 3 X.length) s [some (vA (colL s X X.length))]).toA 3 := by
  refine loops_c (n := X.length) (SN (pXY X Y p q) s 3 X (.vec 1 X.length)) _ (fun j hj => ?_) ?_
  · have hu : up1 (j : Int) = ((j + 1 : Nat) : Int) := up1_nat (by omega)
    cases j with
    | zero => exact (rCn X Y p q X.length s 0).trans ((bcT (decide_eq_true (by omega))).trans (qzy (ckR_ok hj)))
    | succ j =>
      have hl := colL_len s X (j + 1)
      have rd := rCv X Y (colL s X (j + 1)) p q X.length (j + 1) s ((j + 1 : Nat) : Int)
      have ck := ckV_ok (L := colL s X (j + 1)) hj (by omega)
      rw [hl] at ck
      rw [bcT (decide_eq_true (by omega)), qzy ck, hu, atC_nat] at rd
      exact rd
  · cases hn' : X.length with
    | zero => omega
    | succ j =>
      have rd := rCv X Y (colL s X (j + 1)) p q X.length (j + 1) s ((j + 1 : Nat) : Int)
      rw [bcF (decide_eq_false (by omega)), hn'] at rd
      unfold SN
      rw [hn']
      exact rd
theorem loopCD (hL : L.length ≤ 400) (hn : Y.length ≤ 400) : Tri Tryz.prog (.loop loopC) (sC (pXY X Y p q) (.vec 3 L.length) s (.vec 2 Y.length) Y.length 0 [some (vA L)]).toA (.exit 2) (sCX (pXY X Y p q) (.vec 3 (L ++ colL s Y Y.length).length) s [some (vA (L ++ colL s Y Y.length))]).toA 3 := by
  have key := loops_c (K := 3) (n := Y.length) (fun j => sC (pXY X Y p q) (.vec 3 (L ++ colL s Y j).length) s (.vec 2 Y.length) Y.length (j : Int) [some (vA (L ++ colL s Y j))]) (sCX (pXY X Y p q) (.vec 3 (L ++ colL s Y Y.length).length) s [some (vA (L ++ colL s Y Y.length))]) (fun j hj => ?_) ?_
  · simp only [colL, List.append_nil] at key; exact key
  · have hu : up1 (j : Int) = ((j + 1 : Nat) : Int) := up1_nat (by omega)
    have hl := colL_len s Y j
    have hll : (L ++ colL s Y j).length ≤ 1000 := by rw [List.length_append, hl]; omega
    have rd := rDv X Y (L ++ colL s Y j) p q Y.length (L ++ colL s Y j).length s (j : Int)
    rw [bcT (decide_eq_true (by omega)), qzy (ckV_ok hj hll), hu, atC_nat] at rd
    have e : L ++ colL s Y (j + 1) = L ++ colL s Y j ++ [mkA s (c0 (Sx.rowAt Y j)) (c1 (Sx.rowAt Y j))] := by rw [colL, List.append_assoc]
    have e2 : (L ++ colL s Y (j + 1)).length = (L ++ colL s Y j).length + 1 := by rw [e, List.length_append]; rfl
    rw [e2, e]; exact rd
  · have rd := rDv X Y (L ++ colL s Y Y.length) p q Y.length (L ++ colL s Y Y.length).length s (Y.length : Int)
    rw [bcF (decide_eq_false (by omega))] at rd
    exact rd
end
theorem rAz (X L : List (List CV)) (p k : Nat) : code (ent Tryz.prog tCk nolv 64 1 20) Tryz.prog {} 2 64 1 loopC (sC (pX X p) (.vec 2 k) 1 .qzz 0 0 [some (vA L)]) (endK 2 64 kC kCX) = some (.exit 2, sCX (pX X p) (.vec 2 k) 1 [some (vA L)]) := by kernel_rfl
theorem rYz (Y : List (List CV)) (q : Nat) : code (ent Tryz.prog tCk nolv 64 1 20) Tryz.prog {} 2 64 1 loopC (sC (pY Y q) .qzz 0 .qzz 0 0 []) (endK 2 64 kC kCX) = some (.exit 2, sCX (pY Y q) .qzz 0 []) := by kernel_rfl
theorem tri_z {K : Nat} {S E : qzw} (h : code (ent Tryz.prog tCk nolv 64 1 20) Tryz.prog {} K 64 1 loopC S (endK K 64 kC kCX) = some (.exit 2, E)) : Tri Tryz.prog (.loop loopC) S.toA (.exit 2) E.toA K := loops_c (n := 0) (fun _ => S) E (fun j hj => absurd hj (Nat.not_lt_zero j)) h
noncomputable def eC1 (X L : List (List CV)) (c : Bool) : Nat → qzw → LAns := fun K st => match (st.slots.getD 28 none : Option AV) with
  | some AV.qzz => eAt 2 (sC (pX X X.length) (.vec 2 X.length) 1 .qzz 0 0 [some (vA L)]) (.out (.exit 2) (sCX (pX X X.length) (.vec 2 X.length) 1 [some (vA L)])) K st
  | _ => eAt 2 (sC (pX X X.length) .qzz 0 (.vec 1 X.length) X.length 0 []) (.chk c (.out (.exit 2) (sCX (pX X X.length) (.vec 2 X.length) 0 [some (vA L)]))) K st
noncomputable def eC2 (Y L : List (List CV)) (c : Bool) : Nat → qzw → LAns := fun K st => match (st.slots.getD 28 none : Option AV) with
  | some AV.qzz => eAt 2 (sC (pY Y Y.length) .qzz 0 .qzz 0 0 []) (.out (.exit 2) (sCX (pY Y Y.length) .qzz 0 [])) K st
  | _ => eAt 2 (sC (pY Y Y.length) .qzz 1 (.vec 1 Y.length) Y.length 0 []) (.chk c (.out (.exit 2) (sCX (pY Y Y.length) (.vec 2 Y.length) 1 [some (vA L)]))) K st
noncomputable def eC3 (X Y L L2 : List (List CV)) (k : Nat) (c : Bool) : Nat → qzw → LAns := fun K st => match (st.slots.getD 6 none : Option AV) with
  | some AV.qzz => eAt 3 (sC (pXY X Y X.length Y.length) .qzz 0 (.vec 1 X.length) X.length 0 []) (.chk c (.out (.exit 2) (sCX (pXY X Y X.length Y.length) (.vec 3 X.length) 0 [some (vA L)]))) K st
  | _ => eAt 3 (sC (pXY X Y X.length Y.length) (.vec 3 X.length) 1 (.vec 2 Y.length) Y.length 0 [some (vA L)]) (.chk c (.out (.exit 2) (sCX (pXY X Y X.length Y.length) (.vec 3 k) 1 [some (vA L2)]))) K st
def kpC : Nat → Option (List Nat) := fun i => if i = 9 then some [6, 7, 20, 21, 22, 28, 29, 30] else none
noncomputable abbrev lvC (e : Nat → qzw → LAns) : FuncId → Lv := lvOf 20 kpC (oneL 9 e)
abbrev clV (l : AV) : AV := .tuple [l, .int .i64 0]
abbrev clE : AV := .tuple [.qzz, .int .i64 96]
theorem cl_0 : Comes tCk nolv 20 [bkW] [oSh .qzz .qzz] (.ret (clV .qzz) [oSh .qzz .qzz]) := by unfold Comes; kernel_rfl
open Classical in
theorem cl_1 (X L : List (List CV)) (c : Bool) : Comes tCk (lvC (eC1 X L c)) 20 [bkW] [oSh (.vec 1 X.length) .qzz, vC X]
  (.br (decide (w64 (w64 (0 + (X.length : Int)) + 0) ≤ 400)) (.chk (Nat.beq X.length X.length) (.chk (decide (okW X)) (.chk (eqSt (sC (pX X X.length) .qzz 0 (.vec 1 X.length) X.length 0 []) (sC (pX X X.length) .qzz 0 (.vec 1 X.length) X.length 0 [])) (.chk c (.chk (eqSt (sC (pX X X.length) (.vec 2 X.length) 1 .qzz 0 0 [some (vA L)]) (sC (pX X X.length) (.vec 2 X.length) 1 .qzz 0 0 [some (vA L)])) (.ret (clV (.vec 2 X.length)) [oSh (.vec 1 X.length) .qzz, vC X, vA L])))))) (.ret clE [oSh (.vec 1 X.length) .qzz, vC X])) := by unfold Comes; kernel_rfl
end Go.Proofs.YtphhepnldndbhaaGreatDoor
namespace Go.Proofs.YtphhepnldndbhaaGreatDoor
open Go Sx
open Classical in
theorem cl_2 (Y L : List (List CV)) (c : Bool) : Comes tCk (lvC (eC2 Y L c)) 20 [bkW] [oSh .qzz (.vec 1 Y.length), vC Y]
  (.br (decide (w64 (w64 (0 + 0) + (Y.length : Int)) ≤ 400)) (.chk (Nat.beq Y.length Y.length) (.chk (decide (okW Y)) (.chk (eqSt (sC (pY Y Y.length) .qzz 0 .qzz 0 0 []) (sC (pY Y Y.length) .qzz 0 .qzz 0 0 [])) (.chk (eqSt (sC (pY Y Y.length) .qzz 1 (.vec 1 Y.length) Y.length 0 []) (sC (pY Y Y.length) .qzz 1 (.vec 1 Y.length) Y.length 0 [])) (.chk c (.ret (clV (.vec 2 Y.length)) [oSh .qzz (.vec 1 Y.length), vC Y, vA L])))))) (.ret clE [oSh .qzz (.vec 1 Y.length), vC Y])) := by unfold Comes; kernel_rfl
open Classical in
theorem cl_3 (X Y L L2 : List (List CV)) (k : Nat) (c : Bool) : Comes tCk (lvC (eC3 X Y L L2 k c)) 20 [bkW] [oSh (.vec 1 X.length) (.vec 2 Y.length), vC X, vC Y]
  (.br (decide (w64 (w64 (0 + (X.length : Int)) + (Y.length : Int)) ≤ 400)) (.chk (Nat.beq X.length X.length) (.chk (decide (okW X)) (.chk (Nat.beq Y.length Y.length) (.chk (decide (okW Y)) (.chk (eqSt (sC (pXY X Y X.length Y.length) .qzz 0 (.vec 1 X.length) X.length 0 []) (sC (pXY X Y X.length Y.length) .qzz 0 (.vec 1 X.length) X.length 0 [])) (.chk c (.chk (eqSt (sC (pXY X Y X.length Y.length) (.vec 3 X.length) 1 (.vec 2 Y.length) Y.length 0 [some (vA L)]) (sC (pXY X Y X.length Y.length) (.vec 3 X.length) 1 (.vec 2 Y.length) Y.length 0 [some (vA L)])) (.chk c (.ret (clV (.vec 3 k)) [oSh (.vec 1 X.length) (.vec 2 Y.length), vC X, vC Y, vA L2]))))))))) (.ret clE [oSh (.vec 1 X.length) (.vec 2 Y.length), vC X, vC Y])) := by unfold Comes; kernel_rfl
end Go.Proofs.YtphhepnldndbhaaGreatDoor
namespace Go.Proofs.YtphhepnldndbhaaGreatDoor
open Go Sx
def bkP : List (List CV) → List (List CV) → List PObj
  | [], [] => [oSh .qzz .qzz]
  | X, [] => [oSh (.vec 1 X.length) .qzz, vC X]
  | [], Y => [oSh .qzz (.vec 1 Y.length), vC Y]
  | X, Y => [oSh (.vec 1 X.length) (.vec 2 Y.length), vC X, vC Y]
def clL (X Y : List (List CV)) : List (List CV) := colL 0 X X.length ++ colL 1 Y Y.length
def okBk (X Y : List (List CV)) : Prop := okW X ∧ okW Y ∧ X.length + Y.length ≤ 400
def clR (n : Nat) : List (List CV) → AV
  | [] => .qzz
  | L => .vec n L.length
def clO : List (List CV) → List PObj
  | [] => []
  | L => [vA L]
theorem cl_pos {L : List (List CV)} {n : Nat} (h : 0 < L.length) : clR n L = .vec n L.length ∧ clO L = [vA L] := by
  cases L with
  | nil => exact absurd h (Nat.lt_irrefl _)
  | cons x L => exact ⟨rfl, rfl⟩
theorem lvC_ok {e : Nat → qzw → LAns} (h : ∀ K t, LAnsOK Tryz.prog loopC K t (e K t)) : LvOK Tryz.prog (lvC e) := lvOf_ok Tryz.func20 fun x hx id en hid he => by
  obtain ⟨rfl, rfl⟩ := oneL_some he
  have e2 : qyu (bodyOf Tryz.f20) = [loopC1, loopC] := by kernel_rfl
  rw [e2] at hx
  rcases List.mem_cons.1 hx with rfl | hx
  · have h9 : (headReg loopC1 == some 9) = false := by kernel_rfl
    exact absurd hid (fun e => by rw [e] at h9; exact absurd h9 (by decide))
  · obtain rfl := List.mem_singleton.1 hx
    exact h
open Classical in
theorem cells_meets {X Y : List (List CV)} (h : okBk X Y) : Meets Tryz.prog 20 [bkW] ((bkP X Y).map PObj.toA) (clV (clR (bkP X Y).length (clL X Y))) ((bkP X Y ++ clO (clL X Y)).map PObj.toA) := by
  obtain ⟨hX, hY, hs⟩ := h
  have hw : ∀ {n : Nat}, n ≤ 400 → w64 (n : Int) = (n : Int) := fun hn => w64_of (inI_iff.2 ⟨by omega, by omega⟩)
  cases X with
  | nil => cases Y with
    | nil => exact qyx (pre := [oSh .qzz .qzz]) (post := [oSh .qzz .qzz]) tCk_ok host cl_0 qyz
    | cons y Y =>
      have hn : (y :: Y).length ≤ 400 := hY.1
      have e : clL [] (y :: Y) = colL 1 (y :: Y) (y :: Y).length := by show [] ++ _ = _; rw [List.nil_append]
      have el := colL_len 1 (y :: Y) (y :: Y).length
      have er : clR (bkP [] (y :: Y)).length (clL [] (y :: Y)) = .vec 2 (y :: Y).length := by
        rw [e, (cl_pos (by rw [el]; exact Nat.succ_pos _)).1, el]; rfl
      have eo : clO (clL [] (y :: Y)) = [vA (colL 1 (y :: Y) (y :: Y).length)] := by rw [e, (cl_pos (n := 0) (by rw [el]; exact Nat.succ_pos _)).2]
      rw [er, eo]
      have key := cl_2 (y :: Y) (colL 1 (y :: Y) (y :: Y).length) true
      refine qyx (pre := bkP [] (y :: Y)) (post := bkP [] (y :: Y) ++ [vA (colL 1 (y :: Y) (y :: Y).length)]) tCk_ok host (key.trans ?_) (lvC_ok fun K t => ?_)
      · rw [brT (decide_eq_true (by
          rw [show w64 (0 + 0) = 0 from rfl, Int.zero_add, hw hn]; omega)), chkT (Nat.beq_refl _), chkT (decide_eq_true hY), chkT (qzt _), chkT (qzt _), chkT rfl]; rfl
      · unfold eC2
        split
        · exact eAt_ok (a := .out (.exit 2) _) (tri_z (rYz _ _)) K t
        · exact eAt_ok (a := .chk true (.out (.exit 2) _)) ⟨fun _ => loopCB (by simp only [List.length_cons]; omega) hn, fun _ => trivial⟩ K t
  | cons x X => cases Y with
    | nil =>
      have hn : (x :: X).length ≤ 400 := hX.1
      have e : clL (x :: X) [] = colL 0 (x :: X) (x :: X).length := by show _ ++ [] = _; rw [List.append_nil]
      have el := colL_len 0 (x :: X) (x :: X).length
      have er : clR (bkP (x :: X) []).length (clL (x :: X) []) = .vec 2 (x :: X).length := by
        rw [e, (cl_pos (by rw [el]; exact Nat.succ_pos _)).1, el]; rfl
      have eo : clO (clL (x :: X) []) = [vA (colL 0 (x :: X) (x :: X).length)] := by rw [e, (cl_pos (n := 0) (by rw [el]; exact Nat.succ_pos _)).2]
      rw [er, eo]
      have key := cl_1 (x :: X) (colL 0 (x :: X) (x :: X).length) true
      refine qyx (pre := bkP (x :: X) []) (post := bkP (x :: X) [] ++ [vA (colL 0 (x :: X) (x :: X).length)]) tCk_ok host (key.trans ?_) (lvC_ok fun K t => ?_)
      · rw [brT (decide_eq_true (by
          rw [Int.zero_add, hw hn, Int.add_zero, hw hn]; omega)), chkT (Nat.beq_refl _), chkT (decide_eq_true hX), chkT (qzt _), chkT rfl, chkT (qzt _)]; rfl
      · unfold eC1
        split
        · exact eAt_ok (a := .out (.exit 2) _) (tri_z (rAz _ _ _ _)) K t
        · exact eAt_ok (a := .chk true (.out (.exit 2) _)) ⟨fun _ => loopCA (by simp only [List.length_cons]; omega) hn, fun _ => trivial⟩ K t
    | cons y Y =>
      have hn : (x :: X).length ≤ 400 := hX.1
      have hm : (y :: Y).length ≤ 400 := hY.1
      have el := colL_len 0 (x :: X) (x :: X).length
      have er : clR (bkP (x :: X) (y :: Y)).length (clL (x :: X) (y :: Y)) = .vec 3 (clL (x :: X) (y :: Y)).length := (cl_pos (by unfold clL; rw [List.length_append, el]; simp only [List.length_cons]; omega)).1
      have eo : clO (clL (x :: X) (y :: Y)) = [vA (clL (x :: X) (y :: Y))] := (cl_pos (n := 0) (by unfold clL; rw [List.length_append, el]; simp only [List.length_cons]; omega)).2
      rw [er, eo]
      have key := cl_3 (x :: X) (y :: Y) (colL 0 (x :: X) (x :: X).length) (clL (x :: X) (y :: Y)) (clL (x :: X) (y :: Y)).length true
      refine qyx (pre := bkP (x :: X) (y :: Y)) (post := bkP (x :: X) (y :: Y) ++ [vA (clL (x :: X) (y :: Y))]) tCk_ok host (key.trans ?_) (lvC_ok fun K t => ?_)
      · rw [brT (decide_eq_true (by
          rw [Int.zero_add, hw hn, show (((x :: X).length : Nat) : Int) + ((y :: Y).length : Nat) = (((x :: X).length + (y :: Y).length : Nat) : Int) by omega, hw hs]; omega)), chkT (Nat.beq_refl _), chkT (decide_eq_true hX), chkT (Nat.beq_refl _), chkT (decide_eq_true hY), chkT (qzt _), chkT rfl, chkT (qzt _), chkT rfl]; rfl
      · unfold eC3
        split
        · exact eAt_ok (a := .chk true (.out (.exit 2) _)) ⟨fun _ => loopCC (by simp only [List.length_cons]; omega) hn, fun _ => trivial⟩ K t
        · have kd := loopCD (X := x :: X) (Y := y :: Y) (L := colL 0 (x :: X) (x :: X).length) (p := (x :: X).length) (q := (y :: Y).length) (s := 1) (by rw [el]; exact hn) hm
          have eL : colL 0 (x :: X) (x :: X).length ++ colL 1 (y :: Y) (y :: Y).length = clL (x :: X) (y :: Y) := rfl
          rw [eL, el] at kd
          exact eAt_ok (a := .chk true (.out (.exit 2) _)) ⟨fun _ => kd, fun _ => trivial⟩ K t
end Go.Proofs.YtphhepnldndbhaaGreatDoor
namespace Go.Proofs.YtphhepnldndbhaaGreatDoor
open Go Sx
noncomputable abbrev loopR : Code := (qyu (bodyOf Tryz.f27)).headD .skip
abbrev oM (ks : List (List Int)) : PObj := .raw (.mapS 3 ks)
section
variable (L : List (List CV)) (ks : List (List Int)) (n : Nat) (i : Int)
abbrev kR : Nat → Bool := fun n => hasN [0, 1, 7, 8, 9] n
abbrev kRX : Nat → Bool := fun n => hasN [4] n
end
end Go.Proofs.YtphhepnldndbhaaGreatDoor
namespace Go.Proofs.YtphhepnldndbhaaGreatDoor
open Go Sx
def rfs : Code → List (List Tmp × Code × Code)
  | .seq a b => rfs a ++ rfs b
  | .cond _ a b => rfs a ++ rfs b
  | .block _ c => rfs c
  | .loop c => rfs c
  | .scope c => rfs c
  | .rangeFunc _ ps asg body => [(ps.toList, asg, body)]
  | _ => []
noncomputable abbrev rf1 : List Tmp × Code × Code := (rfs (bodyOf Tryz.f14)).headD ([], .skip, .skip)
noncomputable abbrev rf2 : List Tmp × Code × Code := ((rfs (bodyOf Tryz.f14)).drop 1).headD ([], .skip, .skip)
abbrev oA3 (s r c : Int) : PObj := .raw (.cells [.int .i64 s, .int .i64 r, .int .i64 c] 25)
abbrev oA5 (s r c h w : Int) : PObj := .raw (.cells [.int .i64 s, .int .i64 r, .int .i64 c, .int .i64 h, .int .i64 w] 51)
abbrev oS5 (s r c h w : Int) : PObj := .raw (.cells [.int .i64 s, .int .i64 r, .int .i64 c, .int .i64 h, .int .i64 w] 27)
noncomputable abbrev oL1 (st : LSt) : PObj := .raw (.loopR st 86 [9, 13, 15] [.ptr 2 0, .ptr 3 0, .ptr 4 0] rf1.1 rf1.2.1 rf1.2.2)
noncomputable abbrev oL2 (st : LSt) : PObj := .raw (.loopR st 86 [9] [.ptr 2 0] rf2.1 rf2.2.1 rf2.2.2)
abbrev oP1 (v : AV) (t : Nat) : PObj := .raw (.cells [v] t)
noncomputable abbrev loopN1 : Code := (qyu (bodyOf Tryz.f47)).headD .skip
noncomputable abbrev loopN2 : Code := ((qyu (bodyOf Tryz.f47)).drop 1).headD .skip
abbrev aY : List (Option AV) := [some (.func yF [.ptr 0 0] []), some (.ptr 1 0)]
section
variable (M : List (Option PObj)) (h w i j : Int)
def sN (i : Int) : qzw := ⟨aY ++ (nn 4 ++ (some (.int .i64 h) :: some (.int .i64 i) :: nn 23)), M ++ nn 64⟩
def sNi (i j : Int) : qzw := ⟨aY ++ (none :: some (.int .i64 i) :: nn 2 ++ (some (.int .i64 h) :: some (.int .i64 i) :: nn 3 ++ (some (.int .i64 w) :: some (.int .i64 j) :: nn 18))), M ++ nn 64⟩
def sNX : qzw := ⟨nn 31, M ++ nn 64⟩
end
abbrev kN1 : Nat → Bool := fun n => hasN [0, 1, 6, 7] n
abbrev kN2 : Nat → Bool := fun n => hasN [0, 1, 6, 7, 3, 11, 12] n
abbrev kNX : Nat → Bool := fun n => hasN [] n
section
variable (ks : List (List Int)) (A : List (List CV)) (k : Nat) (s r c h w i j s' r' c' h' w' : Int)
noncomputable def m1n (st : LSt) : List (Option PObj) := [some (oL1 st), some (oA5 s r c h w), some (oP1 (.mapp 5) 71), some (oP1 .qzz 22), some (oS5 s' r' c' h' w'), some (oM ks)]
noncomputable def m1v (st : LSt) : List (Option PObj) := [some (oL1 st), some (oA5 s r c h w), some (oP1 (.mapp 5) 71), some (oP1 (.vec 6 k) 22), some (oS5 s' r' c' h' w'), some (oM ks), some (vA A)]
noncomputable def m1w (st : LSt) : List (Option PObj) := [some (oL1 st), some (oA5 s r c h w), some (oP1 (.mapp 5) 71), some (oP1 (.vec 7 k) 22), some (oS5 s' r' c' h' w'), some (oM ks), some (.raw .dead), some (vA A)]
noncomputable def m2 (st : LSt) : List (Option PObj) := [some (oL2 st), some (oA5 s r c h w), some (oP1 (.mapp 3) 71), some (oM ks)]
def keyI : List Int := [s, w64 (r + i), w64 (c + j)]
def ownB : Bool := s == s' && (w64 (r + i) == r' && (w64 (c + j) == c' && true))
abbrev stE : LSt := LSt.of (.exit 3)
theorem n2n : code (ent Tryz.prog [] nolv 64 1 20) Tryz.prog {} 6 64 1 loopN2 (sNi (m1n ks s r c h w s' r' c' h' w' .ready) h w i j) (endK 6 64 kN2 kN1)
  = qyw (decide (j < w)) (qyw (memK ks (keyI s r c i j)) (qyw (!ownB s r c i j s' r' c') (some (.ret, sN (m1v ks [mkA s' r' c'] 1 s r c h w s' r' c' h' w' stE) h i)) (some (.normal, sNi (m1n ks s r c h w s' r' c' h' w' .ready) h w i (up1 j)))) (some (.normal, sNi (m1n ks s r c h w s' r' c' h' w' .ready) h w i (up1 j)))) (some (.exit 2, sN (m1n ks s r c h w s' r' c' h' w' .ready) h i)) := by kernel_rfl
theorem n2v : code (ent Tryz.prog [] nolv 64 1 20) Tryz.prog {} 7 64 1 loopN2 (sNi (m1v ks A k s r c h w s' r' c' h' w' .ready) h w i j) (endK 7 64 kN2 kN1)
  = qyw (decide (j < w)) (qyw (memK ks (keyI s r c i j)) (qyw (!ownB s r c i j s' r' c') (chks (some (.ret, sN (m1w ks (A ++ [mkA s' r' c']) (k + 1) s r c h w s' r' c' h' w' stE) h i)) [decide ((vA A).len = k * 3) && roomB (k + 1) 24]) (some (.normal, sNi (m1v ks A k s r c h w s' r' c' h' w' .ready) h w i (up1 j)))) (some (.normal, sNi (m1v ks A k s r c h w s' r' c' h' w' .ready) h w i (up1 j)))) (some (.exit 2, sN (m1v ks A k s r c h w s' r' c' h' w' .ready) h i)) := by kernel_rfl
theorem n2m : code (ent Tryz.prog [] nolv 64 1 20) Tryz.prog {} 4 64 1 loopN2 (sNi (m2 ks s r c h w .ready) h w i j) (endK 4 64 kN2 kN1)
  = qyw (decide (j < w)) (some (.normal, sNi (m2 (addK ks (keyI s r c i j)) s r c h w .ready) h w i (up1 j))) (some (.exit 2, sN (m2 ks s r c h w .ready) h i)) := by kernel_rfl
end
def outI (c b : Bool) (F E : qzw) : LAns := .chk c (.br b (.out .ret F) (.out (.exit 2) E))
noncomputable def lvI (K : Nat) (S : qzw) (x : LAns) : FuncId → Lv := lvOf 47 (fun i => if i = 1 then some [0, 1, 6, 7] else some [0, 1, 6, 7, 3, 11, 12]) (oneL 4 (eAt K S x))
section
variable (ks ks' : List (List Int)) (A A' : List (List CV)) (k k' : Nat) (s r c h w i s' r' c' h' w' : Int) (ok b : Bool)
theorem n1n : code (ent Tryz.prog [] (lvI 6 (sNi (m1n ks s r c h w s' r' c' h' w' .ready) h w i 0) (outI ok b (sN (m1v ks A 1 s r c h w s' r' c' h' w' stE) h i) (sN (m1n ks s r c h w s' r' c' h' w' .ready) h i))) 64 1 20) Tryz.prog (lvI 6 (sNi (m1n ks s r c h w s' r' c' h' w' .ready) h w i 0) (outI ok b (sN (m1v ks A 1 s r c h w s' r' c' h' w' stE) h i) (sN (m1n ks s r c h w s' r' c' h' w' .ready) h i)) 47) 6 64 1 loopN1 (sN (m1n ks s r c h w s' r' c' h' w' .ready) h i) (endK 6 64 kN1 kNX)
  = qyw (decide (i < h)) (chks (qyw b (some (.ret, sNX (m1v ks A 1 s r c h w s' r' c' h' w' stE))) (some (.normal, sN (m1n ks s r c h w s' r' c' h' w' .ready) h (up1 i)))) [eqSt (sNi (m1n ks s r c h w s' r' c' h' w' .ready) h w i 0) (sNi (m1n ks s r c h w s' r' c' h' w' .ready) h w i 0), ok]) (some (.exit 0, sNX (m1n ks s r c h w s' r' c' h' w' .ready))) := by kernel_rfl
theorem n1v : code (ent Tryz.prog [] (lvI 7 (sNi (m1v ks A k s r c h w s' r' c' h' w' .ready) h w i 0) (outI ok b (sN (m1w ks A' k' s r c h w s' r' c' h' w' stE) h i) (sN (m1v ks A k s r c h w s' r' c' h' w' .ready) h i))) 64 1 20) Tryz.prog (lvI 7 (sNi (m1v ks A k s r c h w s' r' c' h' w' .ready) h w i 0) (outI ok b (sN (m1w ks A' k' s r c h w s' r' c' h' w' stE) h i) (sN (m1v ks A k s r c h w s' r' c' h' w' .ready) h i)) 47) 7 64 1 loopN1 (sN (m1v ks A k s r c h w s' r' c' h' w' .ready) h i) (endK 7 64 kN1 kNX)
  = qyw (decide (i < h)) (chks (qyw b (some (.ret, sNX (m1w ks A' k' s r c h w s' r' c' h' w' stE))) (some (.normal, sN (m1v ks A k s r c h w s' r' c' h' w' .ready) h (up1 i)))) [eqSt (sNi (m1v ks A k s r c h w s' r' c' h' w' .ready) h w i 0) (sNi (m1v ks A k s r c h w s' r' c' h' w' .ready) h w i 0), ok]) (some (.exit 0, sNX (m1v ks A k s r c h w s' r' c' h' w' .ready))) := by kernel_rfl
theorem n1m : code (ent Tryz.prog [] (lvI 4 (sNi (m2 ks s r c h w .ready) h w i 0) (.chk ok (.out (.exit 2) (sN (m2 ks' s r c h w .ready) h i)))) 64 1 20) Tryz.prog (lvI 4 (sNi (m2 ks s r c h w .ready) h w i 0) (.chk ok (.out (.exit 2) (sN (m2 ks' s r c h w .ready) h i))) 47) 4 64 1 loopN1 (sN (m2 ks s r c h w .ready) h i) (endK 4 64 kN1 kNX)
  = qyw (decide (i < h)) (chks (some (.normal, sN (m2 ks' s r c h w .ready) h (up1 i))) [eqSt (sNi (m2 ks s r c h w .ready) h w i 0) (sNi (m2 ks s r c h w .ready) h w i 0), ok]) (some (.exit 0, sNX (m2 ks s r c h w .ready))) := by kernel_rfl
end
end Go.Proofs.YtphhepnldndbhaaGreatDoor
namespace Go.Proofs.YtphhepnldndbhaaGreatDoor
open Go Sx
def anyN (f : Nat → Bool) : Nat → Bool
  | 0 => false
  | n + 1 => anyN f n || f n
theorem anyN_none {f : Nat → Bool} : ∀ {n : Nat}, anyN f n = false → ∀ j, j < n → f j = false
  | 0, _, j, hj => absurd hj (Nat.not_lt_zero j)
  | n + 1, h, j, hj => by
    simp only [anyN, Bool.or_eq_false_iff] at h
    by_cases e : j = n
    · rw [e]; exact h.2
    · exact anyN_none h.1 j (by omega)
theorem anyN_first {f : Nat → Bool} : ∀ {n : Nat}, anyN f n = true → ∃ j, j < n ∧ f j = true ∧ ∀ i, i < j → f i = false
  | 0, h => by cases h
  | n + 1, h => by
    by_cases e : anyN f n = true
    · obtain ⟨j, h1, h2, h3⟩ := anyN_first e
      exact ⟨j, by omega, h2, h3⟩
    · have e := Bool.eq_false_iff.2 e
      simp only [anyN, e, Bool.false_or] at h
      exact ⟨n, by omega, h, fun i hi => anyN_none e i hi⟩
theorem tri_any {x : Code} {K W : Nat} (hit : Nat → Bool) (S : Nat → AState) {exF exE : Ex} {F E : AState} (hF : exF ≠ .normal) (hE : exE ≠ .normal)
    (next : ∀ j, j < W → hit j = false → Tri Tryz.prog x (S j) .normal (S (j + 1)) K) (hits : ∀ j, j < W → hit j = true → Tri Tryz.prog x (S j) exF F K) (last : Tri Tryz.prog x (S W) exE E K) :
    (anyN hit W = true → Tri Tryz.prog (.loop x) (S 0) exF F K) ∧ (anyN hit W = false → Tri Tryz.prog (.loop x) (S 0) exE E K) := by
  refine ⟨fun h => ?_, fun h => ?_⟩
  · obtain ⟨j, hj, h1, h2⟩ := anyN_first h
    exact tri_up S hF j (fun k hk => next k (by omega) (h2 k hk)) (hits j hj h1) 0 (Nat.zero_le _)
  · have h' := anyN_none h
    exact tri_up S hE W (fun k hk => next k hk (h' k hk)) last 0 (Nat.zero_le _)
theorem qzx {T : Tab} (hT : TabOK Tryz.prog T) {K : Nat} {x : Code} {S S' : qzw} {kn kx : Nat → Bool} {ex : Ex} (h : code (ent Tryz.prog T nolv 64 1 20) Tryz.prog {} K 64 1 x S (endK K 64 kn kx) = some (ex, S')) : Tri Tryz.prog x S.toA ex S'.toA K :=
  qyy (qzv hT host qyz (NF := 64) (m := 1) 20) qyt h
theorem lvI_ok {K : Nat} {S : qzw} {x : LAns} (h : LAnsOK Tryz.prog loopN2 K S x) : LvOK Tryz.prog (lvI K S x) := lvOf_ok Tryz.func47 fun y hy id en hid he => by
  obtain ⟨rfl, rfl⟩ := oneL_some he
  have e2 : qyu (bodyOf Tryz.f47) = [loopN1, loopN2] := by kernel_rfl
  rw [e2] at hy
  rcases List.mem_cons.1 hy with rfl | hy
  · have h9 : (headReg loopN1 == some 4) = false := by kernel_rfl
    exact absurd hid (fun e => by rw [e] at h9; exact absurd h9 (by decide))
  · obtain rfl := List.mem_singleton.1 hy
    exact fun K' t => eAt_ok h K' t
theorem loopsI {lv : FuncId → Lv} (hL : LvOK Tryz.prog lv) {K : Nat} : LoopsOK Tryz.prog (lv 47) K loopN1 := fun x hx id e hid he t => by
  have e1 : qyu loopN1 = [loopN2] := by kernel_rfl
  have e2 : qyu (bodyOf Tryz.f47) = [loopN1, loopN2] := by kernel_rfl
  rw [e1] at hx
  exact hL 47 Tryz.f47 (bodyOf Tryz.f47) Tryz.func47 (by kernel_rfl) K x (by rw [e2]; exact List.mem_cons_of_mem _ hx) id e hid he t
theorem i_sound {K : Nat} {S0 : qzw} {x : LAns} (hx : LAnsOK Tryz.prog loopN2 K S0 x) {S S' : qzw} {kn kx : Nat → Bool} {ex : Ex} (h : code (ent Tryz.prog [] (lvI K S0 x) 64 1 20) Tryz.prog (lvI K S0 x 47) K 64 1 loopN1 S (endK K 64 kn kx) = some (ex, S')) : Tri Tryz.prog loopN1 S.toA ex S'.toA K :=
  qyy (qzv .nil host (lvI_ok hx) (NF := 64) (m := 1) 20) (loopsI (lvI_ok hx)) h
section
variable (ks : List (List Int)) (A : List (List CV)) (s r c : Int) (H W : Nat) (s' r' c' h' w' : Int)
def hitI (i j : Nat) : Bool := memK ks (keyI s r c (i : Int) (j : Int)) && !ownB s r c (i : Int) (j : Int) s' r' c'
def hitR (i : Nat) : Bool := anyN (hitI ks s r c s' r' c' i) W
def hitA : Bool := anyN (hitR ks s r c W s' r' c') H
theorem inner_n (hW : W ≤ 1000) (i : Nat) :
    (hitR ks s r c W s' r' c' i = true → Tri Tryz.prog (.loop loopN2) (sNi (m1n ks s r c (H : Int) (W : Int) s' r' c' h' w' .ready) (H : Int) (W : Int) (i : Int) 0).toA .ret (sN (m1v ks [mkA s' r' c'] 1 s r c (H : Int) (W : Int) s' r' c' h' w' stE) (H : Int) (i : Int)).toA 6) ∧
    (hitR ks s r c W s' r' c' i = false → Tri Tryz.prog (.loop loopN2) (sNi (m1n ks s r c (H : Int) (W : Int) s' r' c' h' w' .ready) (H : Int) (W : Int) (i : Int) 0).toA (.exit 2) (sN (m1n ks s r c (H : Int) (W : Int) s' r' c' h' w' .ready) (H : Int) (i : Int)).toA 6) := by
  refine tri_any (W := W) (hitI ks s r c s' r' c' i) (fun j => (sNi (m1n ks s r c (H : Int) (W : Int) s' r' c' h' w' .ready) (H : Int) (W : Int) (i : Int) (j : Int)).toA) (fun e => by cases e) (fun e => by cases e) (fun j hj hh => ?_) (fun j hj hh => ?_) ?_
  · refine qzx (T := []) .nil ((n2n ks s r c (H : Int) (W : Int) (i : Int) (j : Int) s' r' c' h' w').trans ?_)
    rw [bcT (decide_eq_true (by omega)), up1_nat (by omega)]
    unfold hitI at hh
    cases hm : memK ks (keyI s r c (i : Int) (j : Int)) with
    | false => rfl
    | true =>
      rw [hm, Bool.true_and] at hh
      rw [hh]; rfl
  · refine qzx (T := []) .nil ((n2n ks s r c (H : Int) (W : Int) (i : Int) (j : Int) s' r' c' h' w').trans ?_)
    unfold hitI at hh
    rw [Bool.and_eq_true] at hh
    rw [bcT (decide_eq_true (by omega)), bcT hh.1, bcT hh.2]
  · refine qzx (T := []) .nil ((n2n ks s r c (H : Int) (W : Int) (i : Int) (W : Int) s' r' c' h' w').trans ?_)
    rw [bcF (decide_eq_false (by omega))]
theorem inner_v (hA : A.length ≤ 1000) (hW : W ≤ 1000) (i : Nat) :
    (hitR ks s r c W s' r' c' i = true → Tri Tryz.prog (.loop loopN2) (sNi (m1v ks A A.length s r c (H : Int) (W : Int) s' r' c' h' w' .ready) (H : Int) (W : Int) (i : Int) 0).toA .ret (sN (m1w ks (A ++ [mkA s' r' c']) (A.length + 1) s r c (H : Int) (W : Int) s' r' c' h' w' stE) (H : Int) (i : Int)).toA 7) ∧
    (hitR ks s r c W s' r' c' i = false → Tri Tryz.prog (.loop loopN2) (sNi (m1v ks A A.length s r c (H : Int) (W : Int) s' r' c' h' w' .ready) (H : Int) (W : Int) (i : Int) 0).toA (.exit 2) (sN (m1v ks A A.length s r c (H : Int) (W : Int) s' r' c' h' w' .ready) (H : Int) (i : Int)).toA 7) := by
  refine tri_any (W := W) (hitI ks s r c s' r' c' i) (fun j => (sNi (m1v ks A A.length s r c (H : Int) (W : Int) s' r' c' h' w' .ready) (H : Int) (W : Int) (i : Int) (j : Int)).toA) (fun e => by cases e) (fun e => by cases e) (fun j hj hh => ?_) (fun j hj hh => ?_) ?_
  · refine qzx (T := []) .nil ((n2v ks A A.length s r c (H : Int) (W : Int) (i : Int) (j : Int) s' r' c' h' w').trans ?_)
    rw [bcT (decide_eq_true (by omega)), up1_nat (by omega)]
    unfold hitI at hh
    cases hm : memK ks (keyI s r c (i : Int) (j : Int)) with
    | false => rfl
    | true =>
      rw [hm, Bool.true_and] at hh
      rw [hh]; rfl
  · refine qzx (T := []) .nil ((n2v ks A A.length s r c (H : Int) (W : Int) (i : Int) (j : Int) s' r' c' h' w').trans ?_)
    unfold hitI at hh
    rw [Bool.and_eq_true] at hh
    rw [bcT (decide_eq_true (by omega)), bcT hh.1, bcT hh.2, qzy (all1 (by rw [decide_eq_true (show (vA A).len = A.length * 3 from rfl)]; unfold roomB; exact decide_eq_true ⟨by omega, by omega⟩))]
  · refine qzx (T := []) .nil ((n2v ks A A.length s r c (H : Int) (W : Int) (i : Int) (W : Int) s' r' c' h' w').trans ?_)
    rw [bcF (decide_eq_false (by omega))]
def addR (i : Nat) : List (List Int) → Nat → List (List Int)
  | ks, 0 => ks
  | ks, j + 1 => addK (addR i ks j) (keyI s r c (i : Int) (j : Int))
def addA (W : Nat) : List (List Int) → Nat → List (List Int)
  | ks, 0 => ks
  | ks, i + 1 => addR s r c i (addA W ks i) W
theorem inner_m (hW : W ≤ 1000) (i : Nat) : Tri Tryz.prog (.loop loopN2) (sNi (m2 ks s r c (H : Int) (W : Int) .ready) (H : Int) (W : Int) (i : Int) 0).toA (.exit 2) (sN (m2 (addR s r c i ks W) s r c (H : Int) (W : Int) .ready) (H : Int) (i : Int)).toA 4 := by
  refine tri_up (body := loopN2) (fun j => (sNi (m2 (addR s r c i ks j) s r c (H : Int) (W : Int) .ready) (H : Int) (W : Int) (i : Int) (j : Int)).toA) (fun e => by cases e) W (fun j hj => ?_) ?_ 0 (Nat.zero_le _)
  · refine qzx (T := []) .nil ((n2m _ s r c (H : Int) (W : Int) (i : Int) (j : Int)).trans ?_)
    rw [bcT (decide_eq_true (by omega)), up1_nat (by omega)]; rfl
  · refine qzx (T := []) .nil ((n2m _ s r c (H : Int) (W : Int) (i : Int) (W : Int)).trans ?_)
    rw [bcF (decide_eq_false (by omega))]
theorem outer_n (hH : H ≤ 1000) (hW : W ≤ 1000) :
    (hitA ks s r c H W s' r' c' = true → Tri Tryz.prog (.loop loopN1) (sN (m1n ks s r c (H : Int) (W : Int) s' r' c' h' w' .ready) (H : Int) 0).toA .ret (sNX (m1v ks [mkA s' r' c'] 1 s r c (H : Int) (W : Int) s' r' c' h' w' stE)).toA 6) ∧
    (hitA ks s r c H W s' r' c' = false → Tri Tryz.prog (.loop loopN1) (sN (m1n ks s r c (H : Int) (W : Int) s' r' c' h' w' .ready) (H : Int) 0).toA (.exit 0) (sNX (m1n ks s r c (H : Int) (W : Int) s' r' c' h' w' .ready)).toA 6) := by
  have hx : ∀ i : Nat, LAnsOK Tryz.prog loopN2 6 (sNi (m1n ks s r c (H : Int) (W : Int) s' r' c' h' w' .ready) (H : Int) (W : Int) (i : Int) 0) (outI true (hitR ks s r c W s' r' c' i) (sN (m1v ks [mkA s' r' c'] 1 s r c (H : Int) (W : Int) s' r' c' h' w' stE) (H : Int) (i : Int)) (sN (m1n ks s r c (H : Int) (W : Int) s' r' c' h' w' .ready) (H : Int) (i : Int))) := fun i =>
    ⟨fun _ => ⟨fun h => (inner_n ks s r c H W s' r' c' h' w' hW i).1 h, fun h => (inner_n ks s r c H W s' r' c' h' w' hW i).2 h⟩, fun _ => trivial⟩
  have ck : ∀ i : Nat, ∀ b ∈ [eqSt (sNi (m1n ks s r c (H : Int) (W : Int) s' r' c' h' w' .ready) (H : Int) (W : Int) (i : Int) 0) (sNi (m1n ks s r c (H : Int) (W : Int) s' r' c' h' w' .ready) (H : Int) (W : Int) (i : Int) 0), true], b = true := fun i => all2 (qzt _) rfl
  refine tri_any (W := H) (hitR ks s r c W s' r' c') (fun i => (sN (m1n ks s r c (H : Int) (W : Int) s' r' c' h' w' .ready) (H : Int) (i : Int)).toA) (fun e => by cases e) (fun e => by cases e) (fun i hi hh => ?_) (fun i hi hh => ?_) ?_
  · refine i_sound (hx i) ((n1n ks [mkA s' r' c'] s r c (H : Int) (W : Int) (i : Int) s' r' c' h' w' true (hitR ks s r c W s' r' c' i)).trans ?_)
    rw [bcT (decide_eq_true (by omega)), qzy (ck i), bcF hh, up1_nat (by omega)]
  · refine i_sound (hx i) ((n1n ks [mkA s' r' c'] s r c (H : Int) (W : Int) (i : Int) s' r' c' h' w' true (hitR ks s r c W s' r' c' i)).trans ?_)
    rw [bcT (decide_eq_true (by omega)), qzy (ck i), bcT hh]
  · refine i_sound (hx H) ((n1n ks [mkA s' r' c'] s r c (H : Int) (W : Int) (H : Int) s' r' c' h' w' true (hitR ks s r c W s' r' c' H)).trans ?_)
    rw [bcF (decide_eq_false (by omega))]
theorem outer_v (hA : A.length ≤ 1000) (hH : H ≤ 1000) (hW : W ≤ 1000) :
    (hitA ks s r c H W s' r' c' = true → Tri Tryz.prog (.loop loopN1) (sN (m1v ks A A.length s r c (H : Int) (W : Int) s' r' c' h' w' .ready) (H : Int) 0).toA .ret (sNX (m1w ks (A ++ [mkA s' r' c']) (A.length + 1) s r c (H : Int) (W : Int) s' r' c' h' w' stE)).toA 7) ∧
    (hitA ks s r c H W s' r' c' = false → Tri Tryz.prog (.loop loopN1) (sN (m1v ks A A.length s r c (H : Int) (W : Int) s' r' c' h' w' .ready) (H : Int) 0).toA (.exit 0) (sNX (m1v ks A A.length s r c (H : Int) (W : Int) s' r' c' h' w' .ready)).toA 7) := by
  have hx : ∀ i : Nat, LAnsOK Tryz.prog loopN2 7 (sNi (m1v ks A A.length s r c (H : Int) (W : Int) s' r' c' h' w' .ready) (H : Int) (W : Int) (i : Int) 0) (outI true (hitR ks s r c W s' r' c' i) (sN (m1w ks (A ++ [mkA s' r' c']) (A.length + 1) s r c (H : Int) (W : Int) s' r' c' h' w' stE) (H : Int) (i : Int)) (sN (m1v ks A A.length s r c (H : Int) (W : Int) s' r' c' h' w' .ready) (H : Int) (i : Int))) := fun i =>
    ⟨fun _ => ⟨fun h => (inner_v ks A s r c H W s' r' c' h' w' hA hW i).1 h, fun h => (inner_v ks A s r c H W s' r' c' h' w' hA hW i).2 h⟩, fun _ => trivial⟩
  have ck : ∀ i : Nat, ∀ b ∈ [eqSt (sNi (m1v ks A A.length s r c (H : Int) (W : Int) s' r' c' h' w' .ready) (H : Int) (W : Int) (i : Int) 0) (sNi (m1v ks A A.length s r c (H : Int) (W : Int) s' r' c' h' w' .ready) (H : Int) (W : Int) (i : Int) 0), true], b = true := fun i => all2 (qzt _) rfl
  refine tri_any (W := H) (hitR ks s r c W s' r' c') (fun i => (sN (m1v ks A A.length s r c (H : Int) (W : Int) s' r' c' h' w' .ready) (H : Int) (i : Int)).toA) (fun e => by cases e) (fun e => by cases e) (fun i hi hh => ?_) (fun i hi hh => ?_) ?_
  · refine i_sound (hx i) ((n1v ks A (A ++ [mkA s' r' c']) A.length (A.length + 1) s r c (H : Int) (W : Int) (i : Int) s' r' c' h' w' true (hitR ks s r c W s' r' c' i)).trans ?_)
    rw [bcT (decide_eq_true (by omega)), qzy (ck i), bcF hh, up1_nat (by omega)]
  · refine i_sound (hx i) ((n1v ks A (A ++ [mkA s' r' c']) A.length (A.length + 1) s r c (H : Int) (W : Int) (i : Int) s' r' c' h' w' true (hitR ks s r c W s' r' c' i)).trans ?_)
    rw [bcT (decide_eq_true (by omega)), qzy (ck i), bcT hh]
  · refine i_sound (hx H) ((n1v ks A (A ++ [mkA s' r' c']) A.length (A.length + 1) s r c (H : Int) (W : Int) (H : Int) s' r' c' h' w' true (hitR ks s r c W s' r' c' H)).trans ?_)
    rw [bcF (decide_eq_false (by omega))]
theorem outer_m (hH : H ≤ 1000) (hW : W ≤ 1000) : Tri Tryz.prog (.loop loopN1) (sN (m2 ks s r c (H : Int) (W : Int) .ready) (H : Int) 0).toA (.exit 0) (sNX (m2 (addA s r c W ks H) s r c (H : Int) (W : Int) .ready)).toA 4 := by
  refine tri_up (body := loopN1) (fun i => (sN (m2 (addA s r c W ks i) s r c (H : Int) (W : Int) .ready) (H : Int) (i : Int)).toA) (fun e => by cases e) H (fun i hi => ?_) ?_ 0 (Nat.zero_le _)
  · refine i_sound (x := .chk true (.out (.exit 2) (sN (m2 (addR s r c i (addA s r c W ks i) W) s r c (H : Int) (W : Int) .ready) (H : Int) (i : Int)))) ⟨fun _ => inner_m (addA s r c W ks i) s r c H W hW i, fun _ => trivial⟩ ((n1m (addA s r c W ks i) (addR s r c i (addA s r c W ks i) W) s r c (H : Int) (W : Int) (i : Int) true).trans ?_)
    rw [bcT (decide_eq_true (by omega)), qzy (all2 (qzt _) rfl), up1_nat (by omega)]; rfl
  · refine i_sound (x := .chk true (.out (.exit 2) (sN (m2 (addR s r c H (addA s r c W ks H) W) s r c (H : Int) (W : Int) .ready) (H : Int) (H : Int)))) ⟨fun _ => inner_m (addA s r c W ks H) s r c H W hW H, fun _ => trivial⟩ ((n1m (addA s r c W ks H) (addR s r c H (addA s r c W ks H) W) s r c (H : Int) (W : Int) (H : Int) true).trans ?_)
    rw [bcF (decide_eq_false (by omega))]
end
end Go.Proofs.YtphhepnldndbhaaGreatDoor
namespace Go.Proofs.YtphhepnldndbhaaGreatDoor
open Go Sx
abbrev aYf : List AV := [.func yF [.ptr 0 0] [], .ptr 1 0]
noncomputable def lvO1 (K : Nat) (S : qzw) (x : LAns) : FuncId → Lv := lvOf 47 (fun i => if i = 1 then some [0, 1, 6, 7] else some [0, 1, 6, 7, 3, 11, 12]) (oneL 1 (eAt K S x))
theorem lvO1_ok {K : Nat} {S : qzw} {x : LAns} (h : LAnsOK Tryz.prog loopN1 K S x) : LvOK Tryz.prog (lvO1 K S x) := lvOf_ok Tryz.func47 fun y hy id en hid he => by
  obtain ⟨rfl, rfl⟩ := oneL_some he
  have e2 : qyu (bodyOf Tryz.f47) = [loopN1, loopN2] := by kernel_rfl
  rw [e2] at hy
  rcases List.mem_cons.1 hy with rfl | hy
  · exact fun K' t => eAt_ok h K' t
  · obtain rfl := List.mem_singleton.1 hy
    have h9 : (headReg loopN2 == some 1) = false := by kernel_rfl
    exact absurd hid (fun e => by rw [e] at h9; exact absurd h9 (by decide))
def outO (c b : Bool) (F E : qzw) : LAns := .chk c (.br b (.out .ret F) (.out (.exit 0) E))
section
variable (ks ks' : List (List Int)) (A A' : List (List CV)) (k k' : Nat) (s r c h w s' r' c' h' w' : Int) (ok b : Bool)
noncomputable def q1n (st : LSt) : List PObj := [oL1 st, oA5 s r c h w, oP1 (.mapp 5) 71, oP1 .qzz 22, oS5 s' r' c' h' w', oM ks]
noncomputable def q1v (st : LSt) : List PObj := [oL1 st, oA5 s r c h w, oP1 (.mapp 5) 71, oP1 (.vec 6 k) 22, oS5 s' r' c' h' w', oM ks, vA A]
noncomputable def q1w (st : LSt) : List PObj := [oL1 st, oA5 s r c h w, oP1 (.mapp 5) 71, oP1 (.vec 7 k) 22, oS5 s' r' c' h' w', oM ks, .raw .dead, vA A]
noncomputable def q2 (st : LSt) : List PObj := [oL2 st, oA5 s r c h w, oP1 (.mapp 3) 71, oM ks]
theorem in_n : Comes [] (lvO1 6 (sN (m1n ks s r c h w s' r' c' h' w' .ready) h 0) (outO ok b (sNX (m1v ks A k s r c h w s' r' c' h' w' stE)) (sNX (m1n ks s r c h w s' r' c' h' w' .ready)))) 47 aYf (q1n ks s r c h w s' r' c' h' w' .ready)
  (.chk (eqSt (sN (m1n ks s r c h w s' r' c' h' w' .ready) h 0) (sN (m1n ks s r c h w s' r' c' h' w' .ready) h 0)) (.chk ok (.br b (.ret (.tuple []) (q1v ks A k s r c h w s' r' c' h' w' stE)) (.ret (.tuple []) (q1n ks s r c h w s' r' c' h' w' .ready))))) := by unfold Comes; kernel_rfl
theorem in_v : Comes [] (lvO1 7 (sN (m1v ks A k s r c h w s' r' c' h' w' .ready) h 0) (outO ok b (sNX (m1w ks A' k' s r c h w s' r' c' h' w' stE)) (sNX (m1v ks A k s r c h w s' r' c' h' w' .ready)))) 47 aYf (q1v ks A k s r c h w s' r' c' h' w' .ready)
  (.chk (eqSt (sN (m1v ks A k s r c h w s' r' c' h' w' .ready) h 0) (sN (m1v ks A k s r c h w s' r' c' h' w' .ready) h 0)) (.chk ok (.br b (.ret (.tuple []) (q1w ks A' k' s r c h w s' r' c' h' w' stE)) (.ret (.tuple []) (q1v ks A k s r c h w s' r' c' h' w' .ready))))) := by unfold Comes; kernel_rfl
theorem in_m : Comes [] (lvO1 4 (sN (m2 ks s r c h w .ready) h 0) (.chk ok (.out (.exit 0) (sNX (m2 ks' s r c h w .ready))))) 47 aYf (q2 ks s r c h w .ready)
  (.chk (eqSt (sN (m2 ks s r c h w .ready) h 0) (sN (m2 ks s r c h w .ready) h 0)) (.chk ok (.ret (.tuple []) (q2 ks' s r c h w .ready)))) := by unfold Comes; kernel_rfl
end
open Classical in
noncomputable def eIn (ks : List (List Int)) (A : List (List CV)) (s r c h w s' r' c' h' w' : Int) : Ent := fun args pre => match pre with
  | [_, _, _, _] => .chk (decide ((args = aYf ∧ pre = q2 ks s r c h w .ready) ∧ (0 ≤ h ∧ h ≤ 1000) ∧ 0 ≤ w ∧ w ≤ 1000)) (.ret (.tuple []) (q2 (addA s r c w.toNat ks h.toNat) s r c h w .ready))
  | [_, _, _, _, _, _] => .chk (decide ((args = aYf ∧ pre = q1n ks s r c h w s' r' c' h' w' .ready) ∧ (0 ≤ h ∧ h ≤ 1000) ∧ 0 ≤ w ∧ w ≤ 1000)) (.br (hitA ks s r c h.toNat w.toNat s' r' c') (.ret (.tuple []) (q1v ks [mkA s' r' c'] 1 s r c h w s' r' c' h' w' stE)) (.ret (.tuple []) (q1n ks s r c h w s' r' c' h' w' .ready)))
  | [_, _, _, _, _, _, _] => .chk (decide ((args = aYf ∧ pre = q1v ks A A.length s r c h w s' r' c' h' w' .ready) ∧ (0 ≤ h ∧ h ≤ 1000) ∧ (0 ≤ w ∧ w ≤ 1000) ∧ A.length ≤ 1000)) (.br (hitA ks s r c h.toNat w.toNat s' r' c') (.ret (.tuple []) (q1w ks (A ++ [mkA s' r' c']) (A.length + 1) s r c h w s' r' c' h' w' stE)) (.ret (.tuple []) (q1v ks A A.length s r c h w s' r' c' h' w' .ready)))
  | _ => .fail
theorem nat_of {h : Int} (h0 : 0 ≤ h) (h1 : h ≤ 1000) : ∃ H : Nat, h = (H : Int) ∧ h.toNat = H ∧ H ≤ 1000 := ⟨h.toNat, by omega, rfl, by omega⟩
open Classical in
theorem eIn_ok (ks : List (List Int)) (A : List (List CV)) (s r c h w s' r' c' h' w' : Int) : EntOK Tryz.prog 47 (eIn ks A s r c h w s' r' c' h' w') := fun args pre => by
  unfold eIn
  split
  · refine ⟨fun g => ?_, fun _ => trivial⟩
    obtain ⟨⟨rfl, e⟩, ⟨h0, h1⟩, w0, w1⟩ := of_decide_eq_true g
    obtain ⟨H, rfl, eH, hH⟩ := nat_of h0 h1
    obtain ⟨W, rfl, eW, hW⟩ := nat_of w0 w1
    rw [e, eH, eW]
    refine qyx (pre := q2 ks s r c H W .ready) (post := q2 (addA s r c W ks H) s r c H W .ready) .nil host ((in_m ks (addA s r c W ks H) s r c H W true).trans ?_) (lvO1_ok ⟨fun _ => outer_m ks s r c H W hH hW, fun _ => trivial⟩)
    rw [chkT (qzt _), chkT rfl]; rfl
  · refine ⟨fun g => ?_, fun _ => trivial⟩
    obtain ⟨⟨rfl, e⟩, ⟨h0, h1⟩, w0, w1⟩ := of_decide_eq_true g
    obtain ⟨H, rfl, eH, hH⟩ := nat_of h0 h1
    obtain ⟨W, rfl, eW, hW⟩ := nat_of w0 w1
    rw [e, eH, eW]
    have key := outer_n ks s r c H W s' r' c' h' w' hH hW
    refine ⟨fun hb => ?_, fun hb => ?_⟩
    · refine qyx (pre := q1n ks s r c H W s' r' c' h' w' .ready) (post := q1v ks [mkA s' r' c'] 1 s r c H W s' r' c' h' w' stE) .nil host ((in_n ks [mkA s' r' c'] 1 s r c H W s' r' c' h' w' true true).trans ?_) (lvO1_ok ⟨fun _ => ⟨fun _ => key.1 hb, fun e => by cases e⟩, fun _ => trivial⟩)
      rw [chkT (qzt _), chkT rfl, brT rfl]; rfl
    · refine qyx (pre := q1n ks s r c H W s' r' c' h' w' .ready) (post := q1n ks s r c H W s' r' c' h' w' .ready) .nil host ((in_n ks [mkA s' r' c'] 1 s r c H W s' r' c' h' w' true false).trans ?_) (lvO1_ok ⟨fun _ => ⟨(fun e => by cases e), fun _ => key.2 hb⟩, fun _ => trivial⟩)
      rw [chkT (qzt _), chkT rfl, brF rfl]; rfl
  · refine ⟨fun g => ?_, fun _ => trivial⟩
    obtain ⟨⟨rfl, e⟩, ⟨h0, h1⟩, ⟨w0, w1⟩, hA⟩ := of_decide_eq_true g
    obtain ⟨H, rfl, eH, hH⟩ := nat_of h0 h1
    obtain ⟨W, rfl, eW, hW⟩ := nat_of w0 w1
    rw [e, eH, eW]
    have key := outer_v ks A s r c H W s' r' c' h' w' hA hH hW
    refine ⟨fun hb => ?_, fun hb => ?_⟩
    · refine qyx (pre := q1v ks A A.length s r c H W s' r' c' h' w' .ready) (post := q1w ks (A ++ [mkA s' r' c']) (A.length + 1) s r c H W s' r' c' h' w' stE) .nil host ((in_v ks A (A ++ [mkA s' r' c']) A.length (A.length + 1) s r c H W s' r' c' h' w' true true).trans ?_) (lvO1_ok ⟨fun _ => ⟨fun _ => key.1 hb, fun e => by cases e⟩, fun _ => trivial⟩)
      rw [chkT (qzt _), chkT rfl, brT rfl]; rfl
    · refine qyx (pre := q1v ks A A.length s r c H W s' r' c' h' w' .ready) (post := q1v ks A A.length s r c H W s' r' c' h' w' .ready) .nil host ((in_v ks A (A ++ [mkA s' r' c']) A.length (A.length + 1) s r c H W s' r' c' h' w' true false).trans ?_) (lvO1_ok ⟨fun _ => ⟨(fun e => by cases e), fun _ => key.2 hb⟩, fun _ => trivial⟩)
      rw [chkT (qzt _), chkT rfl, brF rfl]; rfl
  · trivial
end Go.Proofs.YtphhepnldndbhaaGreatDoor
namespace Go.Proofs.YtphhepnldndbhaaGreatDoor
open Go Sx
noncomputable abbrev loopQ : Code := ((qyu (bodyOf Tryz.f14)).drop 1).headD .skip
abbrev kM : Nat → Bool := fun n => hasN [9, 12, 13, 41, 42, 43] n
abbrev kMX : Nat → Bool := fun n => hasN [12, 13] n
def sMX (pre : List (Option PObj)) (pl : AV) (kb : Nat) (t : List (Option PObj)) : qzw := ⟨nn 12 ++ (some pl :: some (.ptr kb 0) :: nn 72), pre ++ (t ++ nn 64)⟩
noncomputable def tPl (ks : List (List Int)) (B : List (List CV)) (x : List CV) : Tab := [(29, eRar), (47, eIn ks B (c0 x) (c1 x) (c2 x) (c3 x) (c4 x) (c0 x) (c1 x) (c2 x) (c3 x) (c4 x))]
theorem tPl_ok (ks : List (List Int)) (B : List (List CV)) (x : List CV) : TabOK Tryz.prog (tPl ks B x) := .cons eRar_ok (.cons (eIn_ok ks B (c0 x) (c1 x) (c2 x) (c3 x) (c4 x) (c0 x) (c1 x) (c2 x) (c3 x) (c4 x)) .nil)
section
variable (X Y L P B : List (List CV)) (ks : List (List Int)) (p q m a : Nat) (i : Int)
abbrev rwL : List CV := Sx.rowAt L i.toNat
abbrev arL : Bool := areaB (c0 (rwL L i)) (c1 (rwL L i)) (c2 (rwL L i)) (c3 (rwL L i)) (c4 (rwL L i))
abbrev spL1 : List CV := mkS (c0 (rwL L i)) (c1 (rwL L i)) (c2 (rwL L i)) (c3 (rwL L i)) (c4 (rwL L i))
abbrev atL1 : List CV := mkA (c0 (rwL L i)) (c1 (rwL L i)) (c2 (rwL L i))
def hitL : Bool := hitA ks (c0 (rwL L i)) (c1 (rwL L i)) (c2 (rwL L i)) (c3 (rwL L i)).toNat (c4 (rwL L i)).toNat (c0 (rwL L i)) (c1 (rwL L i)) (c2 (rwL L i))
def addL : List (List Int) := addA (c0 (rwL L i)) (c1 (rwL L i)) (c2 (rwL L i)) (c4 (rwL L i)).toNat ks (c3 (rwL L i)).toNat
open Classical in
noncomputable def ckIn : Bool := decide ((aYf = aYf ∧ q1n ks (c0 (rwL L i)) (c1 (rwL L i)) (c2 (rwL L i)) (c3 (rwL L i)) (c4 (rwL L i)) (c0 (rwL L i)) (c1 (rwL L i)) (c2 (rwL L i)) (c3 (rwL L i)) (c4 (rwL L i)) .ready = q1n ks (c0 (rwL L i)) (c1 (rwL L i)) (c2 (rwL L i)) (c3 (rwL L i)) (c4 (rwL L i)) (c0 (rwL L i)) (c1 (rwL L i)) (c2 (rwL L i)) (c3 (rwL L i)) (c4 (rwL L i)) .ready) ∧ (0 ≤ c3 (rwL L i) ∧ c3 (rwL L i) ≤ 1000) ∧ 0 ≤ c4 (rwL L i) ∧ c4 (rwL L i) ≤ 1000)
open Classical in
noncomputable def ckIv : Bool := decide ((aYf = aYf ∧ q1v ks B B.length (c0 (rwL L i)) (c1 (rwL L i)) (c2 (rwL L i)) (c3 (rwL L i)) (c4 (rwL L i)) (c0 (rwL L i)) (c1 (rwL L i)) (c2 (rwL L i)) (c3 (rwL L i)) (c4 (rwL L i)) .ready = q1v ks B B.length (c0 (rwL L i)) (c1 (rwL L i)) (c2 (rwL L i)) (c3 (rwL L i)) (c4 (rwL L i)) (c0 (rwL L i)) (c1 (rwL L i)) (c2 (rwL L i)) (c3 (rwL L i)) (c4 (rwL L i)) .ready) ∧ (0 ≤ c3 (rwL L i) ∧ c3 (rwL L i) ≤ 1000) ∧ (0 ≤ c4 (rwL L i) ∧ c4 (rwL L i) ≤ 1000) ∧ B.length ≤ 1000)
open Classical in
noncomputable def ckIm : Bool := decide ((aYf = aYf ∧ q2 ks (c0 (rwL L i)) (c1 (rwL L i)) (c2 (rwL L i)) (c3 (rwL L i)) (c4 (rwL L i)) .ready = q2 ks (c0 (rwL L i)) (c1 (rwL L i)) (c2 (rwL L i)) (c3 (rwL L i)) (c4 (rwL L i)) .ready) ∧ (0 ≤ c3 (rwL L i) ∧ c3 (rwL L i) ≤ 1000) ∧ 0 ≤ c4 (rwL L i) ∧ c4 (rwL L i) ≤ 1000)
def ckBv : Bool := decide ((vA B).len = B.length * 3) && roomB (B.length + 1) 24
def ckPv : Bool := decide ((vS P).len = a * 5) && roomB (a + 1) 40
end
end Go.Proofs.YtphhepnldndbhaaGreatDoor
namespace Go.Proofs.YtphhepnldndbhaaGreatDoor
open Go Sx
structure PlS where
  P : List (List CV)
  B : List (List CV)
  ks : List (List Int)
def plN (L : List (List CV)) (ks0 : List (List Int)) : Nat → PlS
  | 0 => ⟨[], [], ks0⟩
  | j + 1 => qyw (!arL L (j : Int)) ⟨(plN L ks0 j).P, (plN L ks0 j).B ++ [atL1 L (j : Int)], (plN L ks0 j).ks⟩ (qyw (hitL L (plN L ks0 j).ks (j : Int)) ⟨(plN L ks0 j).P, (plN L ks0 j).B ++ [atL1 L (j : Int)], (plN L ks0 j).ks⟩ ⟨(plN L ks0 j).P ++ [spL1 L (j : Int)], (plN L ks0 j).B, addL L (plN L ks0 j).ks (j : Int)⟩)
theorem plN_len (L : List (List CV)) (ks0 : List (List Int)) : ∀ j, (plN L ks0 j).P.length + (plN L ks0 j).B.length = j
  | 0 => rfl
  | j + 1 => by
    have ih := plN_len L ks0 j
    rw [plN]
    cases !arL L (j : Int) with
    | true => simp only [qyw, List.length_append, List.length_singleton]; omega
    | false => cases hitL L (plN L ks0 j).ks (j : Int) <;> simp only [qyw, List.length_append, List.length_singleton] <;> omega
def sMXof (pre : List (Option PObj)) (K : Nat) : List (List CV) → List (List CV) → qzw
  | [], [] => sMX pre .qzz K [some (oP1 .qzz 22)]
  | [], B => sMX pre .qzz K [some (oP1 (.vec (K + 1) B.length) 22), some (vA B)]
  | P, [] => sMX pre (.vec K P.length) (K + 1) [some (vS P), some (oP1 .qzz 22)]
  | P, B => sMX pre (.vec K P.length) (K + 1) [some (vS P), some (oP1 (.vec (K + 2) B.length) 22), some (vA B)]
section
variable {pre : List (Option PObj)} {K m : Nat} {i : Int} {ks : List (List Int)}
end
section
variable {X Y L : List (List CV)} {ks ks0 : List (List Int)} {p q : Nat}
theorem ckBv_ok {B : List (List CV)} (hB : B.length ≤ 1000) : ckBv B = true := by
  unfold ckBv roomB
  rw [decide_eq_true (show (vA B).len = B.length * 3 from rfl)]; exact decide_eq_true ⟨by omega, by omega⟩
theorem ckPv_ok {P : List (List CV)} (hP : P.length ≤ 1000) : ckPv P P.length = true := by
  unfold ckPv roomB
  rw [decide_eq_true (show (vS P).len = P.length * 5 from rfl)]; exact decide_eq_true ⟨by omega, by omega⟩
end
end Go.Proofs.YtphhepnldndbhaaGreatDoor
namespace Go.Proofs.YtphhepnldndbhaaGreatDoor
open Go Sx
noncomputable abbrev loopT : Code := (qyu (bodyOf Tryz.f14)).headD .skip
abbrev kT : Nat → Bool := fun n => hasN [1, 9, 28, 29, 30] n
abbrev kTX : Nat → Bool := fun n => hasN [1, 9] n
def sT (pre : List (Option PObj)) (K : Nat) (own : AV) (nc : Nat) (i : Int) (C : List (List CV)) (ks : List (List Int)) : qzw := ⟨none :: some own :: nn 7 ++ (some (.ptr K 0) :: nn 18 ++ (some (.vec (K + 1) nc) :: some (.int .i64 (nc : Int)) :: some (.int .i64 i) :: nn 55)), pre ++ (some (oP1 (.mapp (K + 2)) 71) :: some (vA C) :: some (oM ks) :: nn 64)⟩
def sTX (pre : List (Option PObj)) (K : Nat) (own : AV) (ks : List (List Int)) : qzw := ⟨none :: some own :: nn 7 ++ (some (.ptr K 0) :: nn 76), pre ++ (some (oP1 (.mapp (K + 1)) 71) :: some (oM ks) :: nn 64)⟩
def tkN (C : List (List CV)) : Nat → List (List Int)
  | 0 => []
  | j + 1 => addK (tkN C j) [c0 (Sx.rowAt C j), c1 (Sx.rowAt C j), c2 (Sx.rowAt C j)]
section
variable (X Y L C : List (List CV)) (ks : List (List Int)) (p q m n : Nat) (i : Int)
end
section
variable {X Y L C : List (List CV)} {p q m : Nat}
end
end Go.Proofs.YtphhepnldndbhaaGreatDoor
namespace Go.Proofs.YtphhepnldndbhaaGreatDoor
open Go Sx
open Classical in
noncomputable def eClq (pre : List PObj) (C : List (List CV)) : Ent := fun args pre' => .chk (decide ((args = [bkW] ∧ pre' = pre) ∧ Meets Tryz.prog 20 [bkW] (pre.map PObj.toA) (clV (.vec pre.length C.length)) ((pre ++ [vA C]).map PObj.toA))) (.ret (clV (.vec pre.length C.length)) (pre ++ [vA C]))
open Classical in
theorem eClq_ok (pre : List PObj) (C : List (List CV)) : EntOK Tryz.prog 20 (eClq pre C) := fun args pre' => by
  unfold eClq
  refine ⟨fun g => ?_, fun _ => trivial⟩
  obtain ⟨⟨rfl, rfl⟩, h⟩ := of_decide_eq_true g
  exact h
open Classical in
noncomputable def ckCl (pre : List PObj) (C : List (List CV)) : Bool := decide (([bkW] = [bkW] ∧ pre = pre) ∧ Meets Tryz.prog 20 [bkW] (pre.map PObj.toA) (clV (.vec pre.length C.length)) ((pre ++ [vA C]).map PObj.toA))
noncomputable def lvP2 (K : Nat) (S6 : qzw) (x6 : LAns) (S15 : qzw) (x15 : LAns) : FuncId → Lv := lvOf 14 (fun i => if i = 6 then some [1, 9, 28, 29, 30] else if i = 15 then some [9, 12, 13, 41, 42, 43] else none) (twoL 6 (eAt K S6 x6) 15 (eAt K S15 x15))
def outM (pre : List (Option PObj)) (K : Nat) (P B : List (List CV)) (a b : Nat) (c bP bB : Bool) : LAns := .chk c (.br bP (.br bB (.out (.exit 2) (sMX pre .qzz K [some (oP1 .qzz 22)])) (.out (.exit 2) (sMX pre .qzz K [some (oP1 (.vec (K + 1) b) 22), some (vA B)])))
  (.br bB (.out (.exit 2) (sMX pre (.vec K a) (K + 1) [some (vS P), some (oP1 .qzz 22)])) (.out (.exit 2) (sMX pre (.vec K a) (K + 1) [some (vS P), some (oP1 (.vec (K + 2) b) 22), some (vA B)]))))
abbrev plV (p q : AV) : AV := .tuple [p, q, .int .i64 0]
section
variable (X Y L C P B : List (List CV)) (ks : List (List Int)) (p q a b : Nat) (c1 c2 bP bB : Bool)
open Classical in
noncomputable def eClz (pre : List PObj) : Ent := fun args pre' => .chk (decide ((args = [bkW] ∧ pre' = pre) ∧ Meets Tryz.prog 20 [bkW] (pre.map PObj.toA) (clV .qzz) (pre.map PObj.toA))) (.ret (clV .qzz) pre)
open Classical in
theorem eClz_ok (pre : List PObj) : EntOK Tryz.prog 20 (eClz pre) := fun args pre' => by
  unfold eClz
  refine ⟨fun g => ?_, fun _ => trivial⟩
  obtain ⟨⟨rfl, rfl⟩, h⟩ := of_decide_eq_true g
  exact h
open Classical in
noncomputable def ckClz (pre : List PObj) : Bool := decide (([bkW] = [bkW] ∧ pre = pre) ∧ Meets Tryz.prog 20 [bkW] (pre.map PObj.toA) (clV .qzz) (pre.map PObj.toA))
end
end Go.Proofs.YtphhepnldndbhaaGreatDoor
namespace Go.Proofs.YtphhepnldndbhaaGreatDoor
open Go Sx
def plR (n : Nat) : List (List CV) → AV
  | [] => .qzz
  | P => .vec n P.length
def plO : List (List CV) → List PObj
  | [] => []
  | P => [vS P]
theorem lvP2_ok {K : Nat} {S6 S15 : qzw} {x6 x15 : LAns} (h6 : LAnsOK Tryz.prog loopT K S6 x6) (h15 : LAnsOK Tryz.prog loopQ K S15 x15) : LvOK Tryz.prog (lvP2 K S6 x6 S15 x15) :=
  lvTwo_ok (x := loopT) (y := loopQ) Tryz.func14 (by kernel_rfl) (by kernel_rfl) (by kernel_rfl) (by decide) (fun K' t => eAt_ok h6 K' t) (fun K' t => eAt_ok h15 K' t)
theorem outM_ok {pre : List (Option PObj)} {K : Nat} {S : qzw} {P B : List (List CV)} (key : Tri Tryz.prog (.loop loopQ) S.toA (.exit 2) (sMXof pre K P B).toA K) : LAnsOK Tryz.prog loopQ K S (outM pre K P B P.length B.length true (isNil P) (isNil B)) := by
  refine ⟨fun _ => ⟨fun h => ⟨fun h' => ?_, fun h' => ?_⟩, fun h => ⟨fun h' => ?_, fun h' => ?_⟩⟩, fun _ => trivial⟩ <;> cases P <;> cases B <;> first | exact key | (cases h; done) | (cases h'; done)
theorem bk_pos {X Y : List (List CV)} (h : 0 < X.length + Y.length) : 0 < (clL X Y).length := by
  unfold clL
  rw [List.length_append, colL_len, colL_len]; exact h
theorem clL_le {X Y : List (List CV)} (h : okBk X Y) : (clL X Y).length ≤ 1000 := by
  unfold clL
  rw [List.length_append, colL_len, colL_len]; have := h.2.2; omega
theorem cm_x {x : List CV} {X : List (List CV)} (h : okBk (x :: X) ([])) : Meets Tryz.prog 20 [bkW] ([oSh (.vec 1 (x :: X).length) .qzz, vC (x :: X)].map PObj.toA) (clV (.vec 2 (clL (x :: X) ([])).length)) (([oSh (.vec 1 (x :: X).length) .qzz, vC (x :: X)] ++ [vA (clL (x :: X) ([]))]).map PObj.toA) := by
  have hp := bk_pos (X := x :: X) (Y := []) (by simp only [List.length_cons]; omega)
  have key := cells_meets h
  rw [(cl_pos hp).1, (cl_pos (n := 0) hp).2] at key
  exact key
theorem cm_y {y : List CV} {Y : List (List CV)} (h : okBk ([]) (y :: Y)) : Meets Tryz.prog 20 [bkW] ([oSh .qzz (.vec 1 (y :: Y).length), vC (y :: Y)].map PObj.toA) (clV (.vec 2 (clL ([]) (y :: Y)).length)) (([oSh .qzz (.vec 1 (y :: Y).length), vC (y :: Y)] ++ [vA (clL ([]) (y :: Y))]).map PObj.toA) := by
  have hp := bk_pos (X := []) (Y := y :: Y) (by simp only [List.length_cons]; omega)
  have key := cells_meets h
  rw [(cl_pos hp).1, (cl_pos (n := 0) hp).2] at key
  exact key
theorem cm_b {x : List CV} {X : List (List CV)} {y : List CV} {Y : List (List CV)} (h : okBk (x :: X) (y :: Y)) : Meets Tryz.prog 20 [bkW] ([oSh (.vec 1 (x :: X).length) (.vec 2 (y :: Y).length), vC (x :: X), vC (y :: Y)].map PObj.toA) (clV (.vec 3 (clL (x :: X) (y :: Y)).length)) (([oSh (.vec 1 (x :: X).length) (.vec 2 (y :: Y).length), vC (x :: X), vC (y :: Y)] ++ [vA (clL (x :: X) (y :: Y))]).map PObj.toA) := by
  have hp := bk_pos (X := x :: X) (Y := y :: Y) (by simp only [List.length_cons]; omega)
  have key := cells_meets h
  rw [(cl_pos hp).1, (cl_pos (n := 0) hp).2] at key
  exact key
theorem ahdB_iff {s r c s' r' c' : Int} : ahdB s r c s' r' c' = true ↔ (s < s' ∨ s = s' ∧ (r < r' ∨ r = r' ∧ c < c')) := by
  unfold ahdB
  by_cases h1 : s = s'
  · rw [bcF (b := s != s') (by rw [h1]; simp)]
    by_cases h2 : r = r'
    · rw [bcF (b := r != r') (by rw [h2]; simp), decide_eq_true_eq]; omega
    · rw [bcT (b := r != r') (bne_iff_ne.2 h2), decide_eq_true_eq]; omega
  · rw [bcT (b := s != s') (bne_iff_ne.2 h1), decide_eq_true_eq]; omega
theorem cmI_lt {a b : Int} (h : a < b) : cmI a b = -1 := by unfold cmI; rw [decide_eq_true h]; rfl
theorem cmI_eq (a : Int) : cmI a a = 0 := by unfold cmI; rw [decide_eq_false (p := a < a) (by omega)]; rfl
theorem cmP_of {s r c s' r' c' : Int} (h : s < s' ∨ s = s' ∧ (r < r' ∨ r = r' ∧ c < c')) : cmP s r c s' r' c' = -1 := by
  unfold cmP
  rcases h with h | ⟨rfl, h | ⟨rfl, h⟩⟩
  · rw [cmI_lt h]; rfl
  · rw [cmI_eq, cmI_lt h]; rfl
  · rw [cmI_eq, cmI_eq, cmI_lt h]; rfl
def ltR (x y : List CV) : Prop := ahdR x y = true
theorem ltR_iff {x y : List CV} : ltR x y ↔ (c0 x < c0 y ∨ c0 x = c0 y ∧ (c1 x < c1 y ∨ c1 x = c1 y ∧ c2 x < c2 y)) := ahdB_iff
theorem ltR_trans {x y z : List CV} (h : ltR x y) (h' : ltR y z) : ltR x z := by
  rw [ltR_iff] at *; omega
theorem ltR_other {x y : List CV} (h : ¬ ltR x y) (he : eqR x y = false) : ltR y x := by
  rw [ltR_iff] at *
  by_cases e : c0 x = c0 y ∧ c1 x = c1 y ∧ c2 x = c2 y
  · obtain ⟨e1, e2, e3⟩ := e
    have : eqR x y = true := by unfold eqR eqA3; simp [e1, e2, e3]
    rw [this] at he; cases he
  · omega
theorem rowAt_get {l : List (List CV)} {i : Nat} (h : i < l.length) : Sx.rowAt l i = l[i] := by unfold Sx.rowAt; simp [h]
theorem pw_at {l : List (List CV)} {Q : List CV → List CV → Prop} (h : l.Pairwise Q) {i j : Nat} (hj : j < l.length) (hij : i < j) : Q (Sx.rowAt l i) (Sx.rowAt l j) := by
  rw [rowAt_get hj, rowAt_get (show i < l.length by omega)]
  exact List.pairwise_iff_getElem.1 h i j (by omega) hj hij
theorem scN_spec {O : List (List CV)} {p : List CV} (hO : O.Pairwise ltR) : ∀ k, k ≤ O.length → (∀ i, i < scN O p k → ltR (Sx.rowAt O i) p) ∧ ∀ i, scN O p k ≤ i → i < k → ¬ ltR (Sx.rowAt O i) p
  | 0, _ => ⟨fun i hi => absurd hi (Nat.not_lt_zero i), fun i _ hi => absurd hi (Nat.not_lt_zero i)⟩
  | k + 1, hk => by
    have ih := scN_spec (p := p) hO k (by omega)
    rw [scN]
    cases h : ahdR (Sx.rowAt O k) p with
    | true =>
      simp only [qyw]
      refine ⟨fun i hi => ?_, fun i h1 h2 => absurd h2 (by omega)⟩
      by_cases e : i = k
      · rw [e]; exact h
      · exact ltR_trans (pw_at hO (show k < O.length by omega) (by omega)) h
    | false =>
      simp only [qyw]
      refine ⟨ih.1, fun i h1 h2 => ?_⟩
      by_cases e : i = k
      · rw [e]; intro h'; rw [ltR, h] at h'; cases h'
      · exact ih.2 i h1 (by omega)
theorem scB_spec {O : List (List CV)} {p : List CV} : ∀ k, scB O p k = false → ∀ i, i < k → eqR (Sx.rowAt O i) p = false
  | 0, _, i, hi => absurd hi (Nat.not_lt_zero i)
  | k + 1, h, i, hi => by
    rw [scB, Bool.or_eq_false_iff] at h
    by_cases e : i = k
    · rw [e]; exact h.2
    · exact scB_spec k h.1 i (by omega)
theorem insA_sorted {O : List (List CV)} {p : List CV} (hO : O.Pairwise ltR) : (insA O p).Pairwise ltR := by
  unfold insA
  cases hb : scB O p O.length with
  | true => exact hO
  | false =>
    obtain ⟨h1, h2⟩ := scN_spec (p := p) hO O.length (Nat.le_refl _)
    have h3 := scB_spec O.length hb
    have hle := scN_le O p O.length
    generalize scN O p O.length = n at *
    show (O.take n ++ [p] ++ O.drop n).Pairwise ltR
    have tk : ∀ a ∈ O.take n, ∃ i, i < n ∧ i < O.length ∧ a = Sx.rowAt O i := fun a ha => by
      obtain ⟨i, hi, e⟩ := List.mem_iff_getElem.1 ha
      rw [List.length_take] at hi
      exact ⟨i, by omega, by omega, by rw [rowAt_get (show i < O.length by omega), ← e, List.getElem_take]⟩
    have dr : ∀ b ∈ O.drop n, ∃ i, n ≤ i ∧ i < O.length ∧ b = Sx.rowAt O i := fun b hb' => by
      obtain ⟨i, hi, e⟩ := List.mem_iff_getElem.1 hb'
      rw [List.length_drop] at hi
      exact ⟨n + i, by omega, by omega, by rw [rowAt_get (show n + i < O.length by omega), ← e, List.getElem_drop]⟩
    rw [List.pairwise_append, List.pairwise_append]
    refine ⟨⟨hO.sublist (List.take_sublist n O), List.pairwise_singleton _ _, fun a ha b hb' => ?_⟩, hO.sublist (List.drop_sublist n O), fun a ha b hb' => ?_⟩
    · obtain ⟨i, hi, _, rfl⟩ := tk a ha
      rw [List.mem_singleton.1 hb']; exact h1 i hi
    · obtain ⟨j, hj, hj', rfl⟩ := dr b hb'
      rcases List.mem_append.1 ha with ha | ha
      · obtain ⟨i, hi, _, rfl⟩ := tk a ha
        exact pw_at hO hj' (by omega)
      · rw [List.mem_singleton.1 ha]
        exact ltR_other (h2 j hj hj') (h3 j hj')
theorem atsL_sorted (R : List (List CV)) : ∀ k, (atsL R k).Pairwise ltR
  | 0 => List.Pairwise.nil
  | k + 1 => by rw [atsL]; exact insA_sorted (atsL_sorted R k)
theorem bkL_mem {A : List (List CV)} {s : Int} {y : List CV} : ∀ j, y ∈ bkL A s j → ∃ i, i < j ∧ c0 (Sx.rowAt A i) = s ∧ y = mkC (c1 (Sx.rowAt A i)) (c2 (Sx.rowAt A i))
  | 0, h => nomatch h
  | j + 1, h => by
    rw [bkL] at h
    cases e : c0 (Sx.rowAt A j) == s with
    | true =>
      rw [e] at h
      rcases List.mem_append.1 h with h | h
      · obtain ⟨i, hi, h1, h2⟩ := bkL_mem j h
        exact ⟨i, by omega, h1, h2⟩
      · exact ⟨j, by omega, eq_of_beq e, List.mem_singleton.1 h⟩
    | false =>
      rw [e] at h
      obtain ⟨i, hi, h1, h2⟩ := bkL_mem j h
      exact ⟨i, by omega, h1, h2⟩
theorem bkL_sorted {A : List (List CV)} {s : Int} (hA : A.Pairwise ltR) : ∀ j, j ≤ A.length → (bkL A s j).Pairwise fun x y => cmP 0 (c0 x) (c1 x) 0 (c0 y) (c1 y) = -1
  | 0, _ => List.Pairwise.nil
  | j + 1, hj => by
    have ih := bkL_sorted (s := s) hA j (by omega)
    rw [bkL]
    cases e : c0 (Sx.rowAt A j) == s with
    | false => exact ih
    | true =>
      show (bkL A s j ++ [_]).Pairwise _
      rw [List.pairwise_append]
      refine ⟨ih, List.pairwise_singleton _ _, fun a ha b hb => ?_⟩
      obtain ⟨i, hi, h1, rfl⟩ := bkL_mem j ha
      rw [List.mem_singleton.1 hb]
      have := pw_at hA (show j < A.length by omega) hi
      rw [ltR_iff] at this
      have e := eq_of_beq e
      exact cmP_of (.inr ⟨rfl, by show c1 (Sx.rowAt A i) < c1 (Sx.rowAt A j) ∨ _; rw [h1, e] at this; rcases this with h | ⟨_, h⟩; exact absurd h (by omega); exact h⟩)
theorem okW_of {X : List (List CV)} (hl : X.length ≤ 400) (hX : X.Pairwise fun x y => cmP 0 (c0 x) (c1 x) 0 (c0 y) (c1 y) = -1) (hm : ∀ x ∈ X, ∃ r c, x = mkC r c ∧ (0 ≤ r ∧ r < 200) ∧ 0 ≤ c ∧ c < 52) : okW X := by
  refine ⟨hl, fun j hj => ?_⟩
  obtain ⟨r, c, e, ⟨h1, h2⟩, h3, h4⟩ := hm (Sx.rowAt X j) (by rw [rowAt_get hj]; exact List.getElem_mem hj)
  refine ⟨?_, by rw [e]; rfl, fun k hk => by subst hk; exact pw_at hX hj (by omega)⟩
  rw [e]
  show hasB 0 0 0 200 52 0 r c = true
  have ha : areaB 0 0 0 200 52 = true := (areaB_iff (by decide) (by decide)).2 (by omega)
  unfold hasB hasC
  rw [allB_iff, ha]
  have w1 : w64 (0 + 200) = 200 := by decide
  have w2 : w64 (0 + 52) = 52 := by decide
  rw [w1, w2]
  simp only [List.mem_cons, List.not_mem_nil, or_false, forall_eq_or_imp, forall_eq, decide_eq_true_eq]
  exact ⟨trivial, by decide, h1, h2, h3, h4⟩
theorem bkX_ok (R : List (List CV)) (a : Nat) (s : Int) : okW (bkX R a s) ∧ (bkX R a s).length ≤ 12 := by
  have hl := bkL_le (atsL R (m12 a)) s (atsL R (m12 a)).length
  have hk := atsL_le R (m12 a)
  have h12 : m12 a ≤ 12 := Nat.min_le_right ..
  have hl : (bkX R a s).length ≤ 12 := by unfold bkX; omega
  refine ⟨okW_of (by omega) (bkL_sorted (atsL_sorted R _) _ (Nat.le_refl _)) fun x hx => ?_, hl⟩
  obtain ⟨i, hi, _, rfl⟩ := bkL_mem _ hx
  obtain ⟨y, e⟩ := atsL_in R (m12 a) hi
  have := plA_in y
  rw [e]
  exact ⟨_, _, rfl, by omega, by omega⟩
theorem book_ok (R : List (List CV)) (a : Nat) : okBk (bkX R a 0) (bkX R a 1) := by
  have h0 := bkX_ok R a 0
  have h1 := bkX_ok R a 1
  exact ⟨h0.1, h1.1, by omega⟩
theorem memK_iff {ks : List (List Int)} {k : List Int} : memK ks k = true ↔ k ∈ ks := by
  unfold memK
  rw [List.any_eq_true]
  exact ⟨fun ⟨x, hx, e⟩ => by rw [eq_of_beq e]; exact hx, fun h => ⟨k, h, beq_self_eq_true k⟩⟩
theorem mem_addK {ks : List (List Int)} {k x : List Int} : x ∈ addK ks k ↔ x ∈ ks ∨ x = k := by
  unfold addK
  cases h : memK ks k with
  | true =>
    show x ∈ ks ↔ _
    exact ⟨.inl, fun h' => h'.elim id fun e => by rw [e]; exact memK_iff.1 h⟩
  | false =>
    show x ∈ ks ++ [k] ↔ _
    rw [List.mem_append, List.mem_singleton]
abbrev keyR (x : List CV) : List Int := [c0 x, c1 x, c2 x]
theorem mem_tkN {C : List (List CV)} {k : List Int} : ∀ n, k ∈ tkN C n ↔ ∃ i, i < n ∧ k = keyR (Sx.rowAt C i)
  | 0 => ⟨(fun h => nomatch h), fun ⟨i, hi, _⟩ => absurd hi (Nat.not_lt_zero i)⟩
  | n + 1 => by
    rw [tkN, mem_addK, mem_tkN n]
    constructor
    · rintro (⟨i, hi, e⟩ | e)
      · exact ⟨i, by omega, e⟩
      · exact ⟨n, by omega, e⟩
    · rintro ⟨i, hi, e⟩
      by_cases h : i = n
      · exact .inr (by rw [← h]; exact e)
      · exact .inl ⟨i, by omega, e⟩
theorem mem_colL {s : Int} {X : List (List CV)} {y : List CV} : ∀ j, y ∈ colL s X j ↔ ∃ i, i < j ∧ y = mkA s (c0 (Sx.rowAt X i)) (c1 (Sx.rowAt X i))
  | 0 => ⟨(fun h => nomatch h), fun ⟨i, hi, _⟩ => absurd hi (Nat.not_lt_zero i)⟩
  | j + 1 => by
    rw [colL, List.mem_append, List.mem_singleton, mem_colL j]
    constructor
    · rintro (⟨i, hi, e⟩ | e)
      · exact ⟨i, by omega, e⟩
      · exact ⟨j, by omega, e⟩
    · rintro ⟨i, hi, e⟩
      by_cases h : i = j
      · exact .inr (by rw [← h]; exact e)
      · exact .inl ⟨i, by omega, e⟩
theorem spL_mem {A Z : List (List CV)} {z : Nat} {y : List CV} : ∀ j, y ∈ spL A Z z j → ∃ i, i < j ∧ 0 < qyv (c0 (Sx.rowAt Z (i % z))) 6 ∧ y = spR (Sx.rowAt A i) (Sx.rowAt Z (i % z))
  | 0, h => nomatch h
  | j + 1, h => by
    rw [spL] at h
    cases e : decide (qyv (c0 (Sx.rowAt Z (j % z))) 6 > 0) with
    | true =>
      rw [e] at h
      rcases List.mem_append.1 h with h | h
      · obtain ⟨i, hi, h1, h2⟩ := spL_mem j h
        exact ⟨i, by omega, h1, h2⟩
      · exact ⟨j, by omega, of_decide_eq_true e, List.mem_singleton.1 h⟩
    | false =>
      rw [e] at h
      obtain ⟨i, hi, h1, h2⟩ := spL_mem j h
      exact ⟨i, by omega, h1, h2⟩
theorem spW_mem {R : List (List CV)} {a : Nat} {Z : List (List CV)} {z : Nat} {y : List CV} (h : y ∈ spW R a Z z) : ∃ i, i < (atsL R (m12 a)).length ∧ 0 < qyv (c0 (Sx.rowAt Z (i % z))) 6 ∧ y = spR (Sx.rowAt (atsL R (m12 a)) i) (Sx.rowAt Z (i % z)) := by
  unfold spW spA at h
  cases e : Nat.beq z 0 with
  | true => rw [e] at h; nomatch h
  | false => rw [e] at h; exact spL_mem _ h
theorem spW_le (R : List (List CV)) (a : Nat) (Z : List (List CV)) (z : Nat) : (spW R a Z z).length ≤ 12 := by
  have hk := atsL_le R (m12 a)
  have h12 : m12 a ≤ 12 := Nat.min_le_right ..
  have := spL_le (atsL R (m12 a)) Z z (atsL R (m12 a)).length
  unfold spW spA
  cases Nat.beq z 0 with
  | true => exact Nat.zero_le _
  | false => show (spL _ _ _ _).length ≤ 12; omega
theorem spW_row {R : List (List CV)} {a : Nat} {Z : List (List CV)} {z : Nat} {y : List CV} (h : y ∈ spW R a Z z) : (∃ i, i < (atsL R (m12 a)).length ∧ keyR y = keyR (Sx.rowAt (atsL R (m12 a)) i)) ∧ y = mkS (c0 y) (c1 y) (c2 y) (c3 y) (c4 y) ∧ (0 ≤ c0 y ∧ c0 y < 2) ∧ (0 ≤ c1 y ∧ c1 y < 200) ∧ (0 ≤ c2 y ∧ c2 y < 52) ∧ (1 ≤ c3 y ∧ c3 y ≤ 5) ∧ 1 ≤ c4 y ∧ c4 y ≤ 5 := by
  obtain ⟨i, hi, h0, rfl⟩ := spW_mem h
  obtain ⟨x, e⟩ := atsL_in R (m12 a) hi
  obtain ⟨p1, p2, p3, p4, p5, p6⟩ := plA_in x
  have q1 := pickS_in (c := c0 (Sx.rowAt Z (i % z))) (n := 6) (by decide)
  have q2 := pickS_in (c := c1 (Sx.rowAt Z (i % z))) (n := 5) (by decide)
  have ew : w64 (1 + qyv (c1 (Sx.rowAt Z (i % z))) 5) = 1 + qyv (c1 (Sx.rowAt Z (i % z))) 5 := w64_of (inI_iff.2 ⟨by omega, by omega⟩)
  refine ⟨⟨i, hi, rfl⟩, rfl, ?_⟩
  show (0 ≤ c0 (Sx.rowAt (atsL R (m12 a)) i) ∧ _) ∧ (0 ≤ c1 (Sx.rowAt (atsL R (m12 a)) i) ∧ _) ∧ (0 ≤ c2 (Sx.rowAt (atsL R (m12 a)) i) ∧ _) ∧ (1 ≤ qyv (c0 (Sx.rowAt Z (i % z))) 6 ∧ _) ∧ 1 ≤ w64 (1 + qyv (c1 (Sx.rowAt Z (i % z))) 5) ∧ w64 (1 + qyv (c1 (Sx.rowAt Z (i % z))) 5) ≤ 5
  rw [e, ew]
  show (0 ≤ c0 (plA x) ∧ c0 (plA x) < 2) ∧ (0 ≤ c1 (plA x) ∧ c1 (plA x) < 200) ∧ (0 ≤ c2 (plA x) ∧ c2 (plA x) < 52) ∧ (1 ≤ qyv (c0 (Sx.rowAt Z (i % z))) 6 ∧ qyv (c0 (Sx.rowAt Z (i % z))) 6 ≤ 5) ∧ _
  omega
theorem row_mem {l : List (List CV)} {j : Nat} (h : j < l.length) : Sx.rowAt l j ∈ l := by rw [rowAt_get h]; exact List.getElem_mem h
end Go.Proofs.YtphhepnldndbhaaGreatDoor
namespace Go.Proofs.YtphhepnldndbhaaGreatDoor
open Go Sx
noncomputable abbrev loopV : Code := (qyu (bodyOf Tryz.f18)).headD .skip
def tCv : Tab := [(23, eHas)]
theorem tCv_ok : TabOK Tryz.prog tCv := .cons eHas_ok .nil
abbrev kV : Nat → Bool := fun n => hasN [3, 4, 8, 9, 10] n
abbrev kVX : Nat → Bool := fun n => hasN [4, 5] n
section
variable (L : List (List CV)) (x : List CV) (n : Nat) (i s r c : Int)
def sV : qzw := ⟨nn 3 ++ (some (.ptr 1 0) :: some (.ptr 2 0) :: nn 3 ++ (some (.vec 0 n) :: some (.int .i64 (n : Int)) :: some (.int .i64 i) :: nn 10)), some (vS L) :: some (oA3 s r c) :: some (oS5 0 0 0 0 0) :: nn 64⟩
def sVX : qzw := ⟨nn 4 ++ (some (.ptr 1 0) :: nn 16), some (vS L) :: some (oS5 0 0 0 0 0) :: nn 64⟩
def sVR : qzw := ⟨nn 4 ++ (some (.ptr 1 0) :: some (.bool true) :: nn 15), some (vS L) :: some (oS5 (c0 x) (c1 x) (c2 x) (c3 x) (c4 x)) :: nn 64⟩
abbrev hasR (x : List CV) (s r c : Int) : Bool := hasB (c0 x) (c1 x) (c2 x) (c3 x) (c4 x) s r c
theorem rV : code (ent Tryz.prog tCv nolv 64 1 20) Tryz.prog {} 1 64 1 loopV (sV L n i s r c) (endK 1 64 kV kVX)
  = qyw (decide (i < (n : Int))) (chks (qyw (hasR (Sx.rowAt L i.toNat) s r c) (some (.ret, sVR L (Sx.rowAt L i.toNat))) (some (.normal, sV L n (up1 i) s r c))) (ckR L n i)) (some (.exit 0, sVX L)) := by kernel_rfl
end
def firstN (f : Nat → Bool) : Nat → Nat
  | 0 => 0
  | n + 1 => qyw (decide (firstN f n < n)) (firstN f n) (qyw (f n) n (n + 1))
theorem firstN_spec (f : Nat → Bool) : ∀ n, firstN f n ≤ n ∧ (∀ i, i < firstN f n → f i = false) ∧ (firstN f n < n → f (firstN f n) = true)
  | 0 => ⟨Nat.le_refl _, fun i hi => absurd hi (Nat.not_lt_zero i), fun h => absurd h (Nat.not_lt_zero _)⟩
  | n + 1 => by
    obtain ⟨h1, h2, h3⟩ := firstN_spec f n
    rw [firstN]
    by_cases h : firstN f n < n
    · rw [decide_eq_true h]
      exact ⟨by show firstN f n ≤ n + 1; omega, h2, fun _ => h3 h⟩
    · rw [decide_eq_false h]
      have e : firstN f n = n := by omega
      cases hf : f n with
      | true => exact ⟨Nat.le_succ n, fun i hi => h2 i (by have : i < n := hi; omega), fun _ => hf⟩
      | false => exact ⟨Nat.le_refl _, fun i hi => by
          have hi : i < n + 1 := hi
          by_cases e' : i = n
          · rw [e']; exact hf
          · exact h2 i (by omega), fun h => absurd h (Nat.lt_irrefl _)⟩
def covN (L : List (List CV)) (s r c : Int) : Nat := firstN (fun j => hasR (Sx.rowAt L j) s r c) L.length
section
variable {L : List (List CV)} {s r c : Int}
theorem nextV (hl : L.length ≤ 1000) {j : Nat} (hj : j < L.length) (h : hasR (Sx.rowAt L j) s r c = false) : Tri Tryz.prog loopV (sV L L.length (j : Int) s r c).toA .normal (sV L L.length ((j + 1 : Nat) : Int) s r c).toA 1 :=
  qzx tCv_ok ((rV L L.length (j : Int) s r c).trans (by rw [bcT (decide_eq_true (by omega)), qzy (ckR_ok hj), Int.toNat_natCast, bcF h, up1_nat (by omega)]))
theorem loopVV (hl : L.length ≤ 1000) : (decide (covN L s r c < L.length) = true → Tri Tryz.prog (.loop loopV) (sV L L.length 0 s r c).toA .ret (sVR L (Sx.rowAt L (covN L s r c))).toA 1) ∧ (decide (covN L s r c < L.length) = false → Tri Tryz.prog (.loop loopV) (sV L L.length 0 s r c).toA (.exit 0) (sVX L).toA 1) := by
  have key := firstN_spec (fun j => hasR (Sx.rowAt L j) s r c) L.length
  have h1 : covN L s r c ≤ L.length := key.1
  have h2 : ∀ i, i < covN L s r c → hasR (Sx.rowAt L i) s r c = false := key.2.1
  have h3 : covN L s r c < L.length → hasR (Sx.rowAt L (covN L s r c)) s r c = true := key.2.2
  clear key
  refine ⟨fun h => ?_, fun h => ?_⟩
  · have h := of_decide_eq_true h
    refine tri_up (body := loopV) (fun j => (sV L L.length (j : Int) s r c).toA) (fun e => by cases e) (covN L s r c) (fun k hk => nextV hl (by omega) (h2 k hk)) ?_ 0 (Nat.zero_le _)
    exact qzx tCv_ok ((rV L L.length (covN L s r c : Int) s r c).trans (by rw [bcT (decide_eq_true (by omega)), qzy (ckR_ok h), Int.toNat_natCast, bcT (h3 h)]))
  · have h := of_decide_eq_false h
    have e : covN L s r c = L.length := by omega
    refine tri_up (body := loopV) (fun j => (sV L L.length (j : Int) s r c).toA) (fun e => by cases e) L.length (fun k hk => nextV hl hk (h2 k (by omega))) ?_ 0 (Nat.zero_le _)
    exact qzx tCv_ok ((rV L L.length (L.length : Int) s r c).trans (by rw [bcF (decide_eq_false (by omega))]))
end
noncomputable def lvV (L : List (List CV)) (s r c : Int) (x : List CV) (ok b : Bool) : FuncId → Lv := lvOf 18 (fun _ => some [3, 4, 8, 9, 10]) (oneL 2 (eAt 1 (sV L L.length 0 s r c) (.chk ok (.br b (.out .ret (sVR L x)) (.out (.exit 0) (sVX L))))))
abbrev cvV (x : List CV) : AV := .tuple [.agg [.int .i64 (c0 x), .int .i64 (c1 x), .int .i64 (c2 x), .int .i64 (c3 x), .int .i64 (c4 x)], .bool true]
abbrev cvN : AV := .tuple [.agg [.int .i64 0, .int .i64 0, .int .i64 0, .int .i64 0, .int .i64 0], .bool false]
theorem cv_nil (s r c : Int) : Comes tCv nolv 18 [.qzz, .agg [.int .i64 s, .int .i64 r, .int .i64 c]] [] (.ret cvN []) := by unfold Comes; kernel_rfl
theorem cv_vec (L : List (List CV)) (s r c : Int) (x : List CV) (ok b : Bool) : Comes tCv (lvV L s r c x ok b) 18 [.vec 0 L.length, .agg [.int .i64 s, .int .i64 r, .int .i64 c]] [vS L]
  (.chk (eqSt (sV L L.length 0 s r c) (sV L L.length 0 s r c)) (.chk ok (.br b (.ret (cvV x) [vS L]) (.ret cvN [vS L])))) := by unfold Comes; kernel_rfl
def eCov : Ent := fun args pre => match args, pre with
  | [.qzz, .agg [.int .i64 s, .int .i64 r, .int .i64 c]], [] => .ret cvN []
  | [.vec j n, .agg [.int .i64 s, .int .i64 r, .int .i64 c]], [.vecR sh L ty] => .chk (Nat.beq j 0 && shEq sh shS && Nat.beq ty 27) (.chk (Nat.beq n L.length) (.chk (decide (L.length ≤ 1000)) (.br (decide (covN L s r c < L.length)) (.ret (cvV (Sx.rowAt L (covN L s r c))) [.vecR sh L ty]) (.ret cvN [.vecR sh L ty]))))
  | _, _ => .fail
theorem eCov_ok : EntOK Tryz.prog 18 eCov := fun args pre => by
  unfold eCov
  split
  · exact qyx (pre := []) (post := []) tCv_ok host (cv_nil _ _ _) qyz
  · rename_i j n s r c sh L ty
    refine ⟨fun g0 => ⟨fun g1 => ⟨fun g2 => ?_, fun _ => trivial⟩, fun _ => trivial⟩, fun _ => trivial⟩
    simp only [Bool.and_eq_true, beqT] at g0
    obtain ⟨⟨rfl, g⟩, rfl⟩ := g0
    obtain rfl := shEq_of g
    obtain rfl := beqT.1 g1
    have key := loopVV (L := L) (s := s) (r := r) (c := c) (of_decide_eq_true g2)
    refine ⟨fun hb => ?_, fun hb => ?_⟩
    · refine qyx (pre := [vS L]) (post := [vS L]) tCv_ok host ((cv_vec L s r c (Sx.rowAt L (covN L s r c)) true true).trans ?_) (lvOne_ok (x := loopV) Tryz.func18 (by kernel_rfl) fun K t => eAt_ok (a := .chk true (.br true (.out .ret (sVR L (Sx.rowAt L (covN L s r c)))) (.out (.exit 0) (sVX L)))) ⟨fun _ => ⟨fun _ => key.1 hb, fun e => by cases e⟩, fun _ => trivial⟩ K t)
      rw [chkT (qzt _), chkT rfl, brT rfl]; rfl
    · refine qyx (pre := [vS L]) (post := [vS L]) tCv_ok host ((cv_vec L s r c (Sx.rowAt L (covN L s r c)) true false).trans ?_) (lvOne_ok (x := loopV) Tryz.func18 (by kernel_rfl) fun K t => eAt_ok (a := .chk true (.br false (.out .ret (sVR L (Sx.rowAt L (covN L s r c)))) (.out (.exit 0) (sVX L)))) ⟨fun _ => ⟨(fun e => by cases e), fun _ => key.2 hb⟩, fun _ => trivial⟩ K t)
      rw [chkT (qzt _), chkT rfl, brF rfl]; rfl
  · trivial
end Go.Proofs.YtphhepnldndbhaaGreatDoor
namespace Go.Proofs.YtphhepnldndbhaaGreatDoor
open Go Sx
def inA (x : List CV) (k : List Int) : Prop := ∃ i j : Nat, i < (c3 x).toNat ∧ j < (c4 x).toNat ∧ k = keyI (c0 x) (c1 x) (c2 x) (i : Int) (j : Int)
theorem mem_addR {s r c : Int} {i : Nat} {ks : List (List Int)} {k : List Int} : ∀ W, k ∈ addR s r c i ks W ↔ k ∈ ks ∨ ∃ j : Nat, j < W ∧ k = keyI s r c (i : Int) (j : Int)
  | 0 => ⟨.inl, fun h => h.elim id fun ⟨j, hj, _⟩ => absurd hj (Nat.not_lt_zero j)⟩
  | W + 1 => by
    rw [addR, mem_addK, mem_addR W]
    constructor
    · rintro ((h | ⟨j, hj, e⟩) | e)
      · exact .inl h
      · exact .inr ⟨j, by omega, e⟩
      · exact .inr ⟨W, by omega, e⟩
    · rintro (h | ⟨j, hj, e⟩)
      · exact .inl (.inl h)
      · by_cases h : j = W
        · exact .inr (by rw [← h]; exact e)
        · exact .inl (.inr ⟨j, by omega, e⟩)
theorem mem_addA {s r c : Int} {W : Nat} {ks : List (List Int)} {k : List Int} : ∀ H, k ∈ addA s r c W ks H ↔ k ∈ ks ∨ ∃ i j : Nat, i < H ∧ j < W ∧ k = keyI s r c (i : Int) (j : Int)
  | 0 => ⟨.inl, fun h => h.elim id fun ⟨i, j, hi, _⟩ => absurd hi (Nat.not_lt_zero i)⟩
  | H + 1 => by
    rw [addA, mem_addR, mem_addA H]
    constructor
    · rintro ((h | ⟨i, j, hi, hj, e⟩) | ⟨j, hj, e⟩)
      · exact .inl h
      · exact .inr ⟨i, j, by omega, hj, e⟩
      · exact .inr ⟨H, j, by omega, hj, e⟩
    · rintro (h | ⟨i, j, hi, hj, e⟩)
      · exact .inl (.inl h)
      · by_cases h : i = H
        · exact .inr ⟨j, hj, by rw [← h]; exact e⟩
        · exact .inl (.inr ⟨i, j, by omega, hj, e⟩)
theorem anyN_false {f : Nat → Bool} {n : Nat} (h : anyN f n = false) {j : Nat} (hj : j < n) : f j = false := anyN_none h j hj
theorem hit_none {ks : List (List Int)} {x : List CV} (h : hitA ks (c0 x) (c1 x) (c2 x) (c3 x).toNat (c4 x).toNat (c0 x) (c1 x) (c2 x) = false) {k : List Int} (hk : inA x k) (hm : k ∈ ks) : k = keyR x := by
  obtain ⟨i, j, hi, hj, rfl⟩ := hk
  have h1 := anyN_false (anyN_false h hi) hj
  unfold hitI at h1
  rw [memK_iff.2 hm, Bool.true_and, Bool.not_eq_false'] at h1
  unfold ownB at h1
  simp only [Bool.and_eq_true, beq_iff_eq, Bool.and_true] at h1
  obtain ⟨_, e2, e3⟩ := h1
  unfold keyI keyR
  rw [e2, e3]
theorem rwL_nat (L : List (List CV)) (j : Nat) : rwL L (j : Int) = Sx.rowAt L j := by unfold rwL; rw [Int.toNat_natCast]
structure Good (L : List (List CV)) (ks0 : List (List Int)) (j : Nat) (S : PlS) : Prop where
  old : ∀ k ∈ ks0, k ∈ S.ks
  rows : ∀ y ∈ S.P, ∃ i, i < j ∧ y = spL1 L (i : Int) ∧ arL L (i : Int) = true
  taken : ∀ y ∈ S.P, ∀ k, inA y k → k ∈ S.ks
  free : ∀ y ∈ S.P, ∀ k, inA y k → k ∈ ks0 → k = keyR y
  apart : S.P.Pairwise fun x y => ∀ k, inA x k → ¬ inA y k
theorem good_all {L : List (List CV)} {ks0 : List (List Int)} (hs : L.Pairwise ltR) (hk : ∀ i, i < L.length → keyR (Sx.rowAt L i) ∈ ks0) : ∀ j, j ≤ L.length → Good L ks0 j (plN L ks0 j)
  | 0, _ => ⟨fun k h => h, (fun y h => nomatch h), (fun y h => nomatch h), (fun y h => nomatch h), List.Pairwise.nil⟩
  | j + 1, hj => by
    have ih := good_all hs hk j (by omega)
    rw [plN]
    have keep : ∀ B, Good L ks0 (j + 1) ⟨(plN L ks0 j).P, B, (plN L ks0 j).ks⟩ := fun B => ⟨ih.old, fun y h => by
      obtain ⟨i, hi, e⟩ := ih.rows y h
      exact ⟨i, by omega, e⟩, ih.taken, ih.free, ih.apart⟩
    cases ha : arL L (j : Int) with
    | false => exact keep _
    | true =>
      rw [bcF (b := !true) rfl]
      cases hh : hitL L (plN L ks0 j).ks (j : Int) with
      | true => exact keep _
      | false =>
        rw [bcF (b := false) rfl]
        unfold hitL at hh
        have hn : ∀ k, inA (rwL L (j : Int)) k → k ∈ (plN L ks0 j).ks → k = keyR (rwL L (j : Int)) := fun k h1 h2 => hit_none hh h1 h2
        have eA : ∀ k, inA (spL1 L (j : Int)) k ↔ inA (rwL L (j : Int)) k := fun k => Iff.rfl
        have add : ∀ k, k ∈ addL L (plN L ks0 j).ks (j : Int) ↔ k ∈ (plN L ks0 j).ks ∨ inA (rwL L (j : Int)) k := fun k => mem_addA _
        refine ⟨fun k h => (add k).2 (.inl (ih.old k h)), fun y h => ?_, fun y h k h1 => ?_, fun y h k h1 h2 => ?_, ?_⟩
        · rcases List.mem_append.1 h with h | h
          · obtain ⟨i, hi, e⟩ := ih.rows y h
            exact ⟨i, by omega, e⟩
          · exact ⟨j, by omega, List.mem_singleton.1 h, ha⟩
        · rcases List.mem_append.1 h with h | h
          · exact (add k).2 (.inl (ih.taken y h k h1))
          · rw [List.mem_singleton.1 h] at h1
            exact (add k).2 (.inr h1)
        · rcases List.mem_append.1 h with h | h
          · exact ih.free y h k h1 h2
          · rw [List.mem_singleton.1 h] at h1 ⊢
            exact hn k h1 (ih.old k h2)
        · show (_ ++ [_]).Pairwise _
          rw [List.pairwise_append]
          refine ⟨ih.apart, List.pairwise_singleton _ _, fun x hx y hy k h1 h2 => ?_⟩
          rw [List.mem_singleton.1 hy] at h2
          have e := hn k h2 (ih.taken x hx k h1)
          obtain ⟨i, hi, ex, _⟩ := ih.rows x hx
          have hk0 : k ∈ ks0 := by rw [e, rwL_nat]; exact hk j (by omega)
          have e2 := ih.free x hx k h1 hk0
          rw [e2, ex] at e
          have e : keyR (rwL L (i : Int)) = keyR (rwL L (j : Int)) := e
          rw [rwL_nat, rwL_nat] at e
          have lt := ltR_iff.1 (pw_at hs (show j < L.length by omega) hi)
          simp only [keyR, List.cons.injEq, and_true] at e
          omega
def tAk : Tab := [(88, eRsh), (90, eAlk), (40, eInp)]
theorem tAk_ok : TabOK Tryz.prog tAk := .cons eRsh_ok (.cons eAlk_ok (.cons eInp_ok .nil))
abbrev o6 : PObj := .raw (.cells [.int .i64 0, .int .i64 0, .int .i64 0, .int .i64 0, .int .i64 2, .int .i64 1] 25)
abbrev akX : List (List CV) := [mkC 0 0, mkC 2 1]
theorem ak_b : Comes tAk nolv 11 [.slice 0 0 2 2] [o6] (.ret bkV [o6, oSh (.vec 2 2) .qzz, vC akX]) := by unfold Comes; kernel_rfl
abbrev o10 (a b c d e f g h i j : Int) : PObj := .raw (.cells [.int .i64 a, .int .i64 b, .int .i64 c, .int .i64 d, .int .i64 e, .int .i64 f, .int .i64 g, .int .i64 h, .int .i64 i, .int .i64 j] 27)
theorem ak_4 : Comes tAk nolv 14 [.agg [.qzz, .qzz, .qzz, .qzz], .qzz] [] (.ret (.tuple [.qzz, .qzz, .int .i64 96]) []) := by unfold Comes; kernel_rfl
theorem ak_3 : Comes tAk nolv 14 [bkW, .slice 1 0 2 2] [oSh (.vec 2 2) .qzz, o10 0 2 1 9 9 0 0 0 2 2, vC akX] (.ret (.tuple [.qzz, .qzz, .int .i64 140]) [oSh (.vec 2 2) .qzz, o10 0 2 1 9 9 0 0 0 2 2, vC akX]) := by unfold Comes; kernel_rfl
noncomputable def eInC (e9 e0 : Ent) : Ent := fun args pre => match pre with
  | _ :: .raw (.cells (_ :: _ :: _ :: .int _ h :: _) _) :: _ => cond (h == 9) (e9 args pre) (e0 args pre)
  | _ => .fail
theorem eInC_ok {e9 e0 : Ent} (h9 : EntOK Tryz.prog 47 e9) (h0 : EntOK Tryz.prog 47 e0) : EntOK Tryz.prog 47 (eInC e9 e0) := fun args pre => by
  unfold eInC
  split
  · rename_i hh _ _ _
    cases hh == 9 with
    | true => exact h9 args _
    | false => exact h0 args _
  · trivial
def akK : List (List Int) := [[0, 0, 0], [0, 2, 1]]
def akL : List (List CV) := [mkS 0 0 0 2 2, mkS 0 2 1 9 9]
def akW : List (List CV) := [mkS 0 0 0 3 2, mkS 0 2 1 9 9]
noncomputable def tAk1 : Tab := (47, eInC (eIn (addL akL akK 0) [] 0 2 1 9 9 0 2 1 9 9) (eIn akK [] 0 0 0 2 2 0 0 0 2 2)) :: tAk
theorem tAk1_ok : TabOK Tryz.prog tAk1 := .cons (eInC_ok (eIn_ok _ _ _ _ _ _ _ _ _ _ _ _) (eIn_ok _ _ _ _ _ _ _ _ _ _ _ _)) tAk_ok
noncomputable def tAk2 : Tab := (47, eInC (eIn akK [mkA 0 0 0] 0 2 1 9 9 0 2 1 9 9) (eIn akK [] 0 0 0 3 2 0 0 0 3 2)) :: tAk
theorem tAk2_ok : TabOK Tryz.prog tAk2 := .cons (eInC_ok (eIn_ok _ _ _ _ _ _ _ _ _ _ _ _) (eIn_ok _ _ _ _ _ _ _ _ _ _ _ _)) tAk_ok
theorem ak_1 : Comes tAk1 nolv 14 [bkW, .slice 1 0 2 2] [oSh (.vec 2 2) .qzz, o10 0 0 0 2 2 0 2 1 9 9, vC akX] (.chk (ckIn akL akK 0) (.chk (ckIm akL akK 0) (.chk (ckIn akL (addL akL akK 0) 1) (.chk (ckIm akL (addL akL akK 0) 1) (.ret (plV (.vec 3 2) .qzz) [oSh (.vec 2 2) .qzz, o10 0 0 0 2 2 0 2 1 9 9, vC akX, vS [mkS 0 0 0 2 2, mkS 0 2 1 9 9]]))))) := by unfold Comes; kernel_rfl
end Go.Proofs.YtphhepnldndbhaaGreatDoor
