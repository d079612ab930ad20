/- Layer 4: bytes that are handed in, out of what is read of them. -/
import Derived.Test.YtebieapmoaaahaaGreatDoorGr08
import Derived.Test.YtebieapmoaaahaaGreatDoorSxYr
import Derived.Test.YtebieapmoaaahaaGreatDoorGr04
import Derived.Test.YtebieapmoaaahaaGreatDoorSxY
import Derived.Handed
import Derived.HandedShaped
set_option linter.unusedVariables false
set_option linter.unusedSimpArgs false
namespace Go.Proofs.YtebieapmoaaahaaGreatDoor
open Go Sx Go.ChangeShapes Go.WideShapes Go.ChangeAt Go.RowKit Go.Joins Go.Deep
theorem wf_u8 {n : Int} (h : (Lit.int .u8 n).wf = true) : 0 ≤ n ∧ n < 256 := by
  simp only [Lit.wf, IntKind.has, IntKind.min, IntKind.max, IntKind.bits, IntKind.signed, Bool.and_eq_true, decide_eq_true_eq] at h
  simp at h
  omega
theorem kids : Kids Tryz.prog (· < Tryz.prog.types.size) := kids_rows (by kernel_rfl) (by kernel_rfl)
theorem full : ∀ t e, t < Tryz.prog.types.size → Tryz.prog.underlying t = some (.slice e) → 0 < Tryz.prog.cellsOf e := slices_full_of Tryz.prog (by kernel_rfl)
theorem shape_lt {w : World} {b : Nat} {x : TypeId × Nat} (h : w.shape? b = some x) : b < w.heap.size := by
  unfold World.shape? at h
  split at h
  · rename_i he; exact (Array.getElem?_eq_some_iff.1 he).1
  · cases h
/-- The calls that are handed in. -/
theorem cells5 : Tryz.prog.cellsOf 5 = 1 := by kernel_rfl
section
variable {H : Type} {enc : TypeId × Value → H}
set_option maxRecDepth 100000 in
theorem open_u8s {w : World} {base b0 : Nat} {spare : Nat → Bool} {held : Bool} {v : Value} {d : DataW H} {p : List MemPlace} (hv : Value.okWide Tryz.prog w .any b0 32 v) (h : DataW.Trod enc Tryz.prog w base spare held 32 v d p) :
    ∃ (ks : List UInt8) (l b : Nat) (c : Cap), (∀ (E : Env) (nm : Nat), E nm = some (b, c) → den E (.dsl nm l) = some v) ∧ ks.length = l ∧ ∀ E, ObjR E w b c (.flat false (u8s ks)) := by
  obtain ⟨n, h⟩ := h
  obtain ⟨a, len, cap, rfl⟩ := okWide_slice Tryz.underlying32 hv
  rcases open_ints Tryz.underlying32 Tryz.underlying5 cells5 h with ⟨hc, _⟩ | ⟨a', len', cap', zs, hc, hb, hl, hm, hz, _, hcell, hwf⟩
  · simp [Value.cells] at hc
    obtain ⟨rfl, rfl, rfl⟩ := hc
    exact ⟨[], 0, 0, ⟨0, 0, true⟩, fun E nm hE => by simp [den, hE], rfl, fun E => ⟨[], denC_u8s [], fun _ => rfl, fun e => by cases e⟩⟩
  · simp [Value.cells] at hc
    obtain ⟨rfl, rfl, rfl⟩ := hc
    have hok : Cell.ok Tryz.prog w .any b0 32 (.slice (some a') len cap) := by
      simpa only [Value.okWide, Cell.okWide, Tryz.underlying32] using hv
    simp only [Cell.ok, Tryz.underlying32] at hok
    obtain ⟨_, _, _, hsp, row, cells, hsh, _⟩ := hok
    obtain ⟨b, off, sp⟩ := a'
    have hsp : sp = none := hsp
    subst hsp
    have hlen : len ≤ zs.length := by rw [hz]; split <;> omega
    refine ⟨(zs.take len).map fun z => UInt8.ofNat z.toNat, len, b, ⟨cap, off, false⟩, fun E nm hE => ?_, by rw [List.length_map, List.length_take]; omega, fun E => ⟨_, denC_u8s _, fun e => by (cases e), fun _ => ⟨shape_lt hsh, fun i x hi => ?_⟩⟩⟩
    · simp [den, hE, hl]
    · rw [List.getElem?_map, List.getElem?_map, List.getElem?_take] at hi
      split at hi
      · rename_i h1
        have h2 : i < zs.length := by omega
        rw [List.getElem?_eq_getElem h2] at hi
        simp only [Option.map_some, Option.some.injEq] at hi
        have hw := wf_u8 (hwf _ (List.getElem_mem h2))
        have := hcell i h2
        rw [add_plain, List.getD_eq_getElem?_getD, List.getElem?_eq_getElem h2] at this
        rw [this, ← hi]
        congr 2
        rw [UInt8.toNat_ofNat']
        show zs[i] = _
        omega
      · cases hi
end
end Go.Proofs.YtebieapmoaaahaaGreatDoor

/- Layer 4: the pieces that the laws are handed: rounds. -/
set_option linter.unusedVariables false
set_option linter.unusedSimpArgs false
namespace Go.Proofs.YtebieapmoaaahaaGreatDoor
open Go Sx
noncomputable abbrev loopPc : Code := (loopBodies (bodyOf Tryz.f16)).headD .skip
def wordL : List (List UInt8) := [[65, 49], [36, 66, 36, 50], [99, 51], [39, 97, 32, 98, 39, 33, 68, 52], [83, 33, 36, 69, 53], [35, 82, 69, 70, 33], [120], [84, 111, 116, 97, 108], [65, 57, 57, 57], [84, 91, 80, 114, 105, 99, 101, 93], [116, 95, 49, 91, 97, 32, 98, 93], [83, 85, 77], [102, 46, 103], [84, 82, 85, 69], [70, 65, 76, 83, 69], [35, 78, 47, 65], [35, 68, 73, 86, 47, 48, 33], [48], [49, 46, 53, 48], [48, 48, 55], [49, 50], [97, 34, 98], [], [90, 32, 122]]
def kindL : List Int := [5, 5, 5, 5, 5, 5, 6, 6, 6, 9, 9, 7, 7, 3, 3, 4, 4, 1, 1, 1, 1, 2, 2, 2]
def signL : List (List UInt8) := [[60, 62], [60, 61], [62, 61], [61], [60], [62], [38], [43], [45], [42], [47], [94], [37], [40], [41], [44], [59], [58], [123], [125]]
def tabsP : List (Option PObj) := [some (.raw (.cells (wordL.map .str) 9)), some (.raw (.cells (kindL.map (.int .i64)) 3)), some (.raw (.cells (signL.map .str) 9))]
def stP0 (l : Nat) (b : List UInt8) (i : Int) : PState := ⟨[some (.dsl 0 l)] ++ nn 2 ++ [some (.slice 1 0 24 24), some (.slice 2 0 24 24), some (.slice 3 0 20 20), some .nilslice, some (.int .i64 i)] ++ nn 53, [some (.flatU false b)] ++ tabsP ++ nn 64⟩
def stP1 (l : Nat) (b : List UInt8) (n : Nat) (rows : List (List CV)) (i : Int) : PState := ⟨[some (.dsl 0 l)] ++ nn 2 ++ [some (.slice 1 0 24 24), some (.slice 2 0 24 24), some (.slice 3 0 20 20), some (.vec 4 n), some (.int .i64 i)] ++ nn 53, [some (.flatU false b)] ++ tabsP ++ [some (tokO rows)] ++ nn 64⟩
def stP2 (b : List UInt8) : PState := ⟨nn 6 ++ [some .nilslice] ++ nn 54, [some (.flatU false b)] ++ nn 64⟩
def stP3 (b : List UInt8) (n : Nat) (rows : List (List CV)) : PState := ⟨nn 6 ++ [some (.vec 1 n)] ++ nn 54, [some (.flatU false b), some (tokO rows)] ++ nn 64⟩
def xP (b : List UInt8) (i : Int) : Int := (W (byteAt b (i.toNat * 1))).tmod 44
def sgI (b : List UInt8) (i : Int) : Int := W (xP b i - 24)
def pcSg (b : List UInt8) (i : Int) : List UInt8 := signL.getD (0 + (sgI b i).toNat * 1 - 0) []
def pcWd (b : List UInt8) (i : Int) : List UInt8 := wordL.getD (0 + (xP b i).toNat * 1 - 0) []
def pcKd (b : List UInt8) (i : Int) : Int := kindL.getD (0 + (xP b i).toNat * 1 - 0) 0
def cSg (b : List UInt8) (i : Int) : List Bool := [decide (0 ≤ sgI b i ∧ sgI b i < ((20 : Nat) : Int)), Nat.ble 0 (0 + (sgI b i).toNat * 1) && decide (0 + (sgI b i).toNat * 1 - 0 < signL.length)]
def cKd (b : List UInt8) (i : Int) : List Bool := [decide (0 ≤ xP b i ∧ xP b i < ((24 : Nat) : Int)), Nat.ble 0 (0 + (xP b i).toNat * 1) && decide (0 + (xP b i).toNat * 1 - 0 < kindL.length)]
def cWd (b : List UInt8) (i : Int) : List Bool := [decide (0 ≤ xP b i ∧ xP b i < ((24 : Nat) : Int)), Nat.ble 0 (0 + (xP b i).toNat * 1) && decide (0 + (xP b i).toNat * 1 - 0 < wordL.length)]
theorem roundP0 (l : Nat) (b : List UInt8) (i : Int) : code (ent (R := Ex × PState) Tryz.prog tab0 nolv 64 1 20) Tryz.prog {} 1 64 1 loopPc (stP0 l b i) (endK 1 64 (fun n => hasN [0, 3, 4, 5, 6, 7] n) (fun n => hasN [6] n)) =
  bcond (decide (i < (l : Int))) (bcond (decide (i < 18)) (chks (bcond (decide (xP b i ≥ 24)) (chks (some (.normal, stP1 l b 1 [tkRow 8 (pcSg b i) 0] (W (i + 1)))) (cSg b i))
    (chks (bcond (pcKd b i == 7) (some (.normal, stP1 l b 2 ([tkRow (pcKd b i) (pcWd b i) 0] ++ [tkRow 8 [40] 0]) (W (i + 1)))) (some (.normal, stP1 l b 1 [tkRow (pcKd b i) (pcWd b i) 0] (W (i + 1))))) (cKd b i ++ cWd b i ++ cKd b i)))
    [bR i l, decide (i.toNat * 1 < b.length)]) (some (.exit 0, stP2 b))) (some (.exit 0, stP2 b)) := by kernel_rfl
theorem roundP1 (l : Nat) (b : List UInt8) (n : Nat) (rows : List (List CV)) (i : Int) : code (ent (R := Ex × PState) Tryz.prog tab0 nolv 64 1 20) Tryz.prog {} 1 64 1 loopPc (stP1 l b n rows i) (endK 1 64 (fun n => hasN [0, 3, 4, 5, 6, 7] n) (fun n => hasN [6] n)) =
  bcond (decide (i < (l : Int))) (bcond (decide (i < 18)) (chks (bcond (decide (xP b i ≥ 24)) (chks (some (.normal, stP1 l b (n + 1) (rows ++ [tkRow 8 (pcSg b i) 0]) (W (i + 1)))) (cSg b i ++ [apB n rows]))
    (chks (bcond (pcKd b i == 7) (chks (some (.normal, stP1 l b (n + 1 + 1) (rows ++ [tkRow (pcKd b i) (pcWd b i) 0] ++ [tkRow 8 [40] 0]) (W (i + 1)))) [apB (n + 1) (rows ++ [tkRow (pcKd b i) (pcWd b i) 0])]) (some (.normal, stP1 l b (n + 1) (rows ++ [tkRow (pcKd b i) (pcWd b i) 0]) (W (i + 1))))) (cKd b i ++ cWd b i ++ [apB n rows] ++ cKd b i)))
    [bR i l, decide (i.toNat * 1 < b.length)]) (some (.exit 0, stP3 b n rows))) (some (.exit 0, stP3 b n rows)) := by kernel_rfl
end Go.Proofs.YtebieapmoaaahaaGreatDoor

/- Layer 4: the pieces that the laws are handed. -/
set_option linter.unusedVariables false
set_option linter.unusedSimpArgs false
namespace Go.Proofs.YtebieapmoaaahaaGreatDoor
open Go Sx
/-- What a byte stands for. -/
def pieceN (n : Nat) : List Tk := bcond (decide (n ≥ 24)) [⟨8, signL.getD (n - 24) [], 0⟩] (bcond (kindL.getD n 0 == 7) ([⟨kindL.getD n 0, wordL.getD n [], 0⟩] ++ [⟨8, [40], 0⟩]) [⟨kindL.getD n 0, wordL.getD n [], 0⟩])
def pcsI (b : List UInt8) (i : Nat) : List Tk := (b.take i).flatMap fun c => pieceN (c.toNat % 44)
def pcsOf (b : List UInt8) : List Tk := pcsI b 18
theorem pieceN_len (n : Nat) : 1 ≤ (pieceN n).length ∧ (pieceN n).length ≤ 2 := by
  unfold pieceN
  cases decide (n ≥ 24) with
  | true => exact ⟨Nat.le_refl _, by show 1 ≤ 2; omega⟩
  | false => cases kindL.getD n 0 == 7 with
    | true => exact ⟨by show 1 ≤ 2; omega, Nat.le_refl _⟩
    | false => exact ⟨Nat.le_refl _, by show 1 ≤ 2; omega⟩
theorem pcsI_succ {b : List UInt8} {i : Nat} (h : i < b.length) : pcsI b (i + 1) = pcsI b i ++ pieceN (b[i].toNat % 44) := by
  unfold pcsI
  rw [List.take_add_one, List.getElem?_eq_getElem h, List.flatMap_append]
  simp
theorem pcsI_len (b : List UInt8) : ∀ i : Nat, (pcsI b i).length ≤ 2 * i
  | 0 => by simp [pcsI]
  | i + 1 => by
    by_cases h : i < b.length
    · rw [pcsI_succ h, List.length_append]
      have := pcsI_len b i
      have := pieceN_len (b[i].toNat % 44)
      omega
    · have : pcsI b (i + 1) = pcsI b i := by
        unfold pcsI
        rw [List.take_of_length_le (by omega), List.take_of_length_le (by omega)]
      rw [this]
      have := pcsI_len b i
      omega
def stPX (b : List UInt8) (L : List Tk) (i : Nat) : PState := match L with
  | [] => stP0 b.length b i
  | t :: r => stP1 b.length b (t :: r).length ((t :: r).map Tk.row) i
def stPY (b : List UInt8) (L : List Tk) : PState := match L with
  | [] => stP2 b
  | t :: r => stP3 b (t :: r).length ((t :: r).map Tk.row)
theorem apB_ok {L : List Tk} (h : L.length ≤ 1000) : apB L.length (L.map Tk.row) = true := by
  unfold apB
  rw [row_len, decide_eq_true rfl, decide_eq_true (by omega)]; rfl
theorem xP_ok {b : List UInt8} {i : Nat} (h : i < b.length) : xP b i = ((b[i].toNat % 44 : Nat) : Int) := by
  have hb : byteAt b (((i : Int)).toNat * 1) = ((b[i].toNat : Nat) : Int) := by
    unfold byteAt
    rw [Int.toNat_natCast, Nat.mul_one, List.getD_eq_getElem?_getD, List.getElem?_eq_getElem h]; rfl
  have hlt := (b[i]).toNat_lt
  unfold xP
  rw [hb]
  show (IntKind.i64.wrap _).tmod 44 = _
  rw [i64_in (by omega) (by omega)]; rfl
/-- One round, whatever there is. -/
theorem roundPX {b : List UInt8} {i : Nat} (h : i < b.length) (h18 : i < 18) : code (ent (R := Ex × PState) Tryz.prog tab0 nolv 64 1 20) Tryz.prog {} 1 64 1 loopPc (stPX b (pcsI b i) i) (endK 1 64 (fun n => hasN [0, 3, 4, 5, 6, 7] n) (fun n => hasN [6] n)) =
    some (.normal, stPX b (pcsI b (i + 1)) (i + 1)) := by
  have hL := pcsI_len b i
  have hx := xP_ok h
  have hm : b[i].toNat % 44 < 44 := Nat.mod_lt _ (by decide)
  rw [pcsI_succ h]
  generalize b[i].toNat % 44 = n at hx hm
  generalize pcsI b i = L at hL
  have f1 : ∀ x ∈ [bR (i : Int) b.length, decide (((i : Int)).toNat * 1 < b.length)], x = true := all_cons (decide_eq_true (by omega)) (all_one (decide_eq_true (by omega)))
  have hw : W ((i : Int) + 1) = ((i + 1 : Nat) : Int) := i64_in (by omega) (by omega)
  have hsg : n ≥ 24 → sgI b i = ((n - 24 : Nat) : Int) := fun h24 => by
    unfold sgI
    rw [hx]
    show IntKind.i64.wrap _ = _
    rw [i64_in (by omega) (by omega)]; omega
  have fS : n ≥ 24 → ∀ x ∈ cSg b i, x = true := fun h24 => by
    unfold cSg
    rw [hsg h24]
    exact all_cons (decide_eq_true (by omega)) (all_one (by rw [decide_eq_true (show 0 + (((n - 24 : Nat) : Int)).toNat * 1 - 0 < signL.length by rw [Int.toNat_natCast]; show _ < 20; omega), Bool.and_true]; exact Nat.ble_eq_true_of_le (Nat.zero_le _)))
  have fK : n < 24 → ∀ x ∈ cKd b i, x = true := fun h24 => by
    unfold cKd
    rw [hx]
    exact all_cons (decide_eq_true (by omega)) (all_one (by rw [decide_eq_true (show 0 + ((n : Int)).toNat * 1 - 0 < kindL.length by rw [Int.toNat_natCast]; show _ < 24; omega), Bool.and_true]; exact Nat.ble_eq_true_of_le (Nat.zero_le _)))
  have fW : n < 24 → ∀ x ∈ cWd b i, x = true := fun h24 => by
    unfold cWd
    rw [hx]
    exact all_cons (decide_eq_true (by omega)) (all_one (by rw [decide_eq_true (show 0 + ((n : Int)).toNat * 1 - 0 < wordL.length by rw [Int.toNat_natCast]; show _ < 24; omega), Bool.and_true]; exact Nat.ble_eq_true_of_le (Nat.zero_le _)))
  have vS : n ≥ 24 → pcSg b i = signL.getD (n - 24) [] := fun h24 => by
    unfold pcSg
    rw [hsg h24, Int.toNat_natCast, Nat.zero_add, Nat.mul_one, Nat.sub_zero]
  have vK : pcKd b i = kindL.getD n 0 := by
    unfold pcKd
    rw [hx, Int.toNat_natCast, Nat.zero_add, Nat.mul_one, Nat.sub_zero]
  have vW : pcWd b i = wordL.getD n [] := by
    unfold pcWd
    rw [hx, Int.toNat_natCast, Nat.zero_add, Nat.mul_one, Nat.sub_zero]
  cases L with
  | nil =>
    refine (roundP0 b.length b i).trans ?_
    rw [bcT (b := decide ((i : Int) < _)) (decide_eq_true (by omega)), bcT (b := decide ((i : Int) < 18)) (decide_eq_true (by omega)), chks_true f1, hx, hw]
    unfold pieceN
    by_cases h24 : n ≥ 24
    · rw [bcT (b := decide ((n : Int) ≥ 24)) (decide_eq_true (by omega)), bcT (b := decide (n ≥ 24)) (decide_eq_true h24), chks_true (fS h24), vS h24]; rfl
    · have hlt : n < 24 := by omega
      rw [bcF (b := decide ((n : Int) ≥ 24)) (decide_eq_false (by omega)), bcF (b := decide (n ≥ 24)) (decide_eq_false h24), chks_true (all_app (all_app (fK hlt) (fW hlt)) (fK hlt)), vK, vW]
      cases kindL.getD n 0 == 7 <;> rfl
  | cons t r =>
    have a1 : apB (t :: r).length ((t :: r).map Tk.row) = true := apB_ok (by omega)
    refine (roundP1 b.length b (t :: r).length ((t :: r).map Tk.row) i).trans ?_
    rw [bcT (b := decide ((i : Int) < _)) (decide_eq_true (by omega)), bcT (b := decide ((i : Int) < 18)) (decide_eq_true (by omega)), chks_true f1, hx, hw]
    unfold pieceN
    by_cases h24 : n ≥ 24
    · rw [bcT (b := decide ((n : Int) ≥ 24)) (decide_eq_true (by omega)), bcT (b := decide (n ≥ 24)) (decide_eq_true h24), chks_true (all_app (fS h24) (all_one a1)), vS h24]
      show some (Ex.normal, _) = some (Ex.normal, stP1 b.length b (t :: (r ++ [_])).length ((t :: (r ++ [_])).map Tk.row) _)
      simp only [List.length_cons, List.length_append, List.map_cons, List.map_append, List.cons_append, List.map_nil, List.length_nil]
      rfl
    · have hlt : n < 24 := by omega
      rw [bcF (b := decide ((n : Int) ≥ 24)) (decide_eq_false (by omega)), bcF (b := decide (n ≥ 24)) (decide_eq_false h24), chks_true (all_app (all_app (all_app (fK hlt) (fW hlt)) (all_one a1)) (fK hlt)), vK, vW]
      have a2 : apB ((t :: r).length + 1) ((t :: r).map Tk.row ++ [tkRow (kindL.getD n 0) (wordL.getD n []) 0]) = true := by
        have := apB_ok (L := t :: r ++ [⟨kindL.getD n 0, wordL.getD n [], 0⟩]) (by simp only [List.length_append, List.length_cons, List.length_nil] at *; omega)
        rw [List.map_append, List.length_append] at this
        exact this
      rw [chks_true (all_one a2)]
      cases kindL.getD n 0 == 7 with
      | true =>
        show some (Ex.normal, _) = some (Ex.normal, stP1 b.length b (t :: (r ++ [_, _])).length ((t :: (r ++ [_, _])).map Tk.row) _)
        simp only [List.length_cons, List.length_append, List.map_cons, List.map_append, List.cons_append, List.map_nil, List.length_nil, List.append_assoc, List.nil_append]
        rfl
      | false =>
        show some (Ex.normal, _) = some (Ex.normal, stP1 b.length b (t :: (r ++ [_])).length ((t :: (r ++ [_])).map Tk.row) _)
        simp only [List.length_cons, List.length_append, List.map_cons, List.map_append, List.cons_append, List.map_nil, List.length_nil]
        rfl
end Go.Proofs.YtebieapmoaaahaaGreatDoor

/- Layer 4: the pieces that the laws are handed: the contract. -/
set_option linter.unusedVariables false
set_option linter.unusedSimpArgs false
namespace Go.Proofs.YtebieapmoaaahaaGreatDoor
open Go Sx
theorem endPX {b : List UInt8} {i : Nat} (h : ¬ (i < b.length ∧ i < 18)) (L : List Tk) : code (ent (R := Ex × PState) Tryz.prog tab0 nolv 64 1 20) Tryz.prog {} 1 64 1 loopPc (stPX b L i) (endK 1 64 (fun n => hasN [0, 3, 4, 5, 6, 7] n) (fun n => hasN [6] n)) =
    some (.exit 0, stPY b L) := by
  cases L with
  | nil =>
    refine (roundP0 b.length b i).trans ?_
    by_cases hl : i < b.length
    · rw [bcT (b := decide ((i : Int) < (b.length : Int))) (decide_eq_true (by omega)), bcF (b := decide ((i : Int) < 18)) (decide_eq_false (by omega))]; rfl
    · rw [bcF (b := decide ((i : Int) < (b.length : Int))) (decide_eq_false (by omega))]; rfl
  | cons t r =>
    refine (roundP1 b.length b (t :: r).length ((t :: r).map Tk.row) i).trans ?_
    by_cases hl : i < b.length
    · rw [bcT (b := decide ((i : Int) < (b.length : Int))) (decide_eq_true (by omega)), bcF (b := decide ((i : Int) < 18)) (decide_eq_false (by omega))]; rfl
    · rw [bcF (b := decide ((i : Int) < (b.length : Int))) (decide_eq_false (by omega))]; rfl
theorem loopPc_ok (b : List UInt8) : Tri Tryz.prog (.loop loopPc) (stP0 b.length b 0).toA (.exit 0) (stPY b (pcsOf b)).toA 1 := by
  have hH : HOK Tryz.prog (ent (R := Ex × PState) Tryz.prog tab0 nolv 64 1 20) := ent_sound (NF := 64) (m := 1) tab0_ok host nolv_ok 20
  have key := tri_up (P := Tryz.prog) (body := loopPc) (ex := .exit 0) (out := (stPY b (pcsOf b)).toA) (K := 1) (fun i => (stPX b (pcsI b i) i).toA) (by simp) (min b.length 18) (fun i hi => ?_) ?_ 0 (Nat.zero_le _)
  · exact key
  · exact round_sound hH no_loops (roundPX (by omega) (by omega))
  · have hs : pcsI b (min b.length 18) = pcsOf b := by
      unfold pcsOf pcsI
      by_cases hl : b.length ≤ 18
      · rw [Nat.min_eq_left hl, List.take_of_length_le (Nat.le_refl _), List.take_of_length_le hl]
      · rw [Nat.min_eq_right (by omega)]
    rw [hs]
    exact round_sound hH no_loops (endPX (by omega) (pcsOf b))
structure PcsF where
  L : List UInt8 → List Tk
def pcsf : PcsF := ⟨pcsOf⟩
def ePcs (F : PcsF) : Ent := fun args pre => match args, pre with
  | [.dsl 0 l], [.flatU false b] => .chk (Nat.beq l b.length) (.br (F.L b).isEmpty (.ret .nilslice [.flatU false b]) (.ret (.vec 1 (F.L b).length) [.flatU false b, tokO ((F.L b).map Tk.row)]))
  | _, _ => .fail
def lansPc (b : List UInt8) : LAns := .br (pcsOf b).isEmpty (.out (.exit 0) (stP2 b)) (.out (.exit 0) (stP3 b (pcsOf b).length ((pcsOf b).map Tk.row)))
theorem lansPc_ok (b : List UInt8) : LAnsOK Tryz.prog loopPc 1 (stP0 b.length b 0) (lansPc b) := by
  have key := loopPc_ok b
  refine ⟨fun h => ?_, fun h => ?_⟩
  · rw [List.isEmpty_iff.1 h] at key; exact key
  · cases hL : pcsOf b with
    | nil => rw [hL] at h; cases h
    | cons t r => rw [hL] at key; exact key
noncomputable def lvPc (b : List UInt8) : FuncId → Lv := lvOf 16 (fun _ => some [0, 3, 4, 5, 6, 7]) (oneL 6 (eAt 1 (stP0 b.length b 0) (lansPc b)))
theorem lvPc_ok (b : List UInt8) : LvOK Tryz.prog (lvPc b) := lvOne_ok (x := loopPc) Tryz.func16 (by kernel_rfl) fun K t => eAt_ok (lansPc_ok b) K t
theorem pieces_comes (b : List UInt8) : Comes tab0 (lvPc b) 16 [.dsl 0 b.length] [.flatU false b] (.br (eqSt (stP0 b.length b 0) (stP0 b.length b 0)) (.br (pcsOf b).isEmpty (.ret .nilslice [.flatU false b]) (.ret (.vec 1 (pcsOf b).length) [.flatU false b, tokO ((pcsOf b).map Tk.row)])) .fail) := by unfold Comes; kernel_rfl
theorem pieces_ok : EntOK Tryz.prog 16 (ePcs pcsf) := fun args pre => by
  unfold ePcs
  split
  · rename_i l b
    refine ⟨fun g => ?_, fun _ => trivial⟩
    obtain rfl := Nat.eq_of_beq_eq_true g
    refine of_run (ans_comes tab0_ok (pieces_comes b) (lvPc_ok b)) fun r h => ?_
    rw [← h]
    simp only [Ans.run, pcsf]
    rw [bcT (eqSt_refl _)]
  · trivial
end Go.Proofs.YtebieapmoaaahaaGreatDoor

/- Layer 4: how a piece is written; is it this sign? -/
set_option linter.unusedVariables false
set_option linter.unusedSimpArgs false
namespace Go.Proofs.YtebieapmoaaahaaGreatDoor
open Go Sx
def wrT (O : LxO) (s : List UInt8) : List UInt8 := [34] ++ O.rp s [34] [34, 34] ++ [34]
def wrO (O : LxO) (k : Int) (s : List UInt8) : List UInt8 := bcond (k == 2) (wrT O s) s
def wrC (O : LxO) (s : List UInt8) : List Bool := [decide (1 ≤ ([34] : List UInt8).length ∧ ([34] : List UInt8).length ≤ 1000 ∧ ([34, 34] : List UInt8).length ≤ 1000 ∧ s.length ≤ 1000000), decide (([34] : List UInt8).length + (O.rp s [34] [34, 34]).length ≤ 9223372036854775807), decide (([34] ++ O.rp s [34] [34, 34] : List UInt8).length + ([34] : List UInt8).length ≤ 9223372036854775807)]
theorem written_comes (O : LxO) (k a : Int) (s : List UInt8) : Comes (tabX O) nolv 26 [.agg [.int .i64 k, .str s, .int .i64 a]] [] (.br (k == 2) (chkA (wrC O s) (.ret (.str (wrT O s)) [])) (.ret (.str s) [])) := by unfold Comes; kernel_rfl
/-- The check: what is written is not too long. -/
def wrB (O : LxO) (s : List UInt8) : Bool := decide (s.length ≤ 1000 ∧ (O.rp s [34] [34, 34]).length ≤ 1000000)
def oWrt (O : LxO) : Ent := fun args pre => match args, pre with
  | [.agg [.int .i64 k, .str s, .int .i64 a]], [] => .chk (wrB O s) (.ret (.str (wrO O k s)) [])
  | _, _ => .fail
theorem written_ok : EntOK Tryz.prog 26 (oWrt lxo) := fun args pre => by
  unfold oWrt
  split
  · rename_i k s a
    refine ⟨fun g => ?_, fun _ => trivial⟩
    have g := of_decide_eq_true g
    refine of_run (ans_comes tabX_ok (written_comes lxo k a s)) fun r h => ?_
    rw [← h]
    unfold wrO
    simp only [Ans.run]
    have h1 : decide (1 ≤ ([34] : List UInt8).length ∧ ([34] : List UInt8).length ≤ 1000 ∧ ([34, 34] : List UInt8).length ≤ 1000 ∧ s.length ≤ 1000000) = true := decide_eq_true ⟨by decide, by decide, by decide, by omega⟩
    have h2 : decide (([34] : List UInt8).length + (lxo.rp s [34] [34, 34]).length ≤ 9223372036854775807) = true := decide_eq_true (by simp only [List.length_cons, List.length_nil]; omega)
    have h3 : decide (([34] ++ lxo.rp s [34] [34, 34] : List UInt8).length + ([34] : List UInt8).length ≤ 9223372036854775807) = true := decide_eq_true (by simp only [List.length_cons, List.length_nil, List.length_append]; omega)
    have hC : ∀ x ∈ wrC lxo s, x = true := all_cons h1 (all_cons h2 (all_one h3))
    rw [chkA_run hC]
    cases k == 2 <;> rfl
  · trivial
def oIsS : Ent := fun args pre => match args, pre with
  | [.agg [.int .i64 k, .str s, .int .i64 a], .str t], [] => .ret (.bool (bcond (k == 8) (s == t) false)) []
  | _, _ => .fail
theorem isSign_comes (k a : Int) (s t : List UInt8) : Comes tab0 nolv 22 [.agg [.int .i64 k, .str s, .int .i64 a], .str t] [] (.br (k == 8) (.ret (.bool (s == t)) []) (.ret (.bool false) [])) := by unfold Comes; kernel_rfl
theorem isSign_ok : EntOK Tryz.prog 22 oIsS := fun args pre => by
  unfold oIsS
  split
  · rename_i k s a t
    refine of_run (ans_comes tab0_ok (isSign_comes k a s t)) fun r h => ?_
    rw [← h]
    simp only [Ans.run]
    cases k == 8 <;> rfl
  · trivial
end Go.Proofs.YtebieapmoaaahaaGreatDoor

/- Layer 4: does a piece begin so; must a blank stand between? -/
set_option linter.unusedVariables false
set_option linter.unusedSimpArgs false
namespace Go.Proofs.YtebieapmoaaahaaGreatDoor
open Go Sx
def tabBg (O : LxO) : Tab := (26, oWrt O) :: (84, oPre O) :: tab0
theorem tabBg_ok : TabOK Tryz.prog (tabBg lxo) := .cons written_ok (.cons pre_ok tab0_ok)
def oBgn (O : LxO) : Ent := fun args pre => match args, pre with
  | [.agg [.int .i64 k, .str s, .int .i64 a], .str t], [] => .chk (wrB O s) (.ret (.bool (O.pf (wrO O k s) t)) [])
  | _, _ => .fail
theorem begins_comes (O : LxO) (k a : Int) (s t : List UInt8) : Comes (tabBg O) nolv 57 [.agg [.int .i64 k, .str s, .int .i64 a], .str t] [] (chkA [wrB O s] (.ret (.bool (O.pf (wrO O k s) t)) [])) := by unfold Comes; kernel_rfl
theorem begins_ok : EntOK Tryz.prog 57 (oBgn lxo) := fun args pre => by
  unfold oBgn
  split
  · rename_i k s a t
    exact ans_comes tabBg_ok (begins_comes lxo k a s t)
  · trivial
def isB (k : Int) (s t : List UInt8) : Bool := bcond (k == 8) (s == t) false
def parG (O : LxO) (k : Int) (s : List UInt8) (m : Int) (t : List UInt8) : Bool :=
  bcond (k == 6) (isB m t [40]) (bcond (k == 3) (isB m t [40]) (bcond (k == 5) (isB m t [40]) (bcond (isB k s [60]) (bcond (O.pf (wrO O m t) [61]) true (O.pf (wrO O m t) [62])) (bcond (isB k s [62]) (O.pf (wrO O m t) [61]) false))))
/-- Must a blank stand between? -/
def parF (O : LxO) (k : Int) (s : List UInt8) (m : Int) (t : List UInt8) : Bool := bcond (k != 8) (bcond (m != 8) true (parG O k s m t)) (parG O k s m t)
def parA (O : LxO) (k : Int) (s : List UInt8) (m : Int) (t : List UInt8) : Ans :=
  .br (k == 6) (.ret (.bool (isB m t [40])) []) (.br (k == 3) (.ret (.bool (isB m t [40])) []) (.br (k == 5) (.ret (.bool (isB m t [40])) []) (.br (isB k s [60]) (chkA [wrB O t] (.br (O.pf (wrO O m t) [61]) (.ret (.bool true) []) (chkA [wrB O t] (.ret (.bool (O.pf (wrO O m t) [62])) []))))
    (.br (isB k s [62]) (chkA [wrB O t] (.ret (.bool (O.pf (wrO O m t) [61])) [])) (.ret (.bool false) [])))))
def tabPt (O : LxO) : Tab := (57, oBgn O) :: (22, oIsS) :: tab0
theorem tabPt_ok : TabOK Tryz.prog (tabPt lxo) := .cons begins_ok (.cons isSign_ok tab0_ok)
theorem parted_comes (O : LxO) (k a m c : Int) (s t : List UInt8) : Comes (tabPt O) nolv 23 [.agg [.int .i64 k, .str s, .int .i64 a], .agg [.int .i64 m, .str t, .int .i64 c]] [] (.br (k != 8) (.br (m != 8) (.ret (.bool true) []) (parA O k s m t)) (parA O k s m t)) := by unfold Comes; kernel_rfl
def oPar (O : LxO) : Ent := fun args pre => match args, pre with
  | [.agg [.int .i64 k, .str s, .int .i64 a], .agg [.int .i64 m, .str t, .int .i64 c]], [] => .chk (wrB O t) (.ret (.bool (parF O k s m t)) [])
  | _, _ => .fail
theorem parA_run {O : LxO} {k : Int} {s : List UInt8} {m : Int} {t : List UInt8} (h : wrB O t = true) : (parA O k s m t).run pure2 = pure2 (.bool (parG O k s m t)) [] := by
  unfold parA parG
  simp only [Ans.run]
  rw [chkA_run (all_one h), chkA_run (all_one h)]
  simp only [Ans.run]
  rw [chkA_run (all_one h)]
  cases k == 6 with
  | true => rfl
  | false => cases k == 3 with
    | true => rfl
    | false => cases k == 5 with
      | true => rfl
      | false => cases isB k s [60] with
        | true => cases O.pf (wrO O m t) [61] <;> rfl
        | false => cases isB k s [62] <;> rfl
theorem parted_ok : EntOK Tryz.prog 23 (oPar lxo) := fun args pre => by
  unfold oPar
  split
  · rename_i k s a m t c
    refine ⟨fun g => ?_, fun _ => trivial⟩
    refine of_run (ans_comes tabPt_ok (parted_comes lxo k a m c s t)) fun r h => ?_
    rw [← h]
    unfold parF
    simp only [Ans.run]
    rw [parA_run g]
    cases k != 8 <;> cases m != 8 <;> rfl
  · trivial
end Go.Proofs.YtebieapmoaaahaaGreatDoor

/- Layer 4: can a piece stand in a formula? -/
set_option linter.unusedVariables false
set_option linter.unusedSimpArgs false
namespace Go.Proofs.YtebieapmoaaahaaGreatDoor
open Go Sx
def tabIp (O : LxO) (T : LxT) : Tab := (26, oWrt O) :: (17, eTok T) :: tab0
theorem tabIp_ok : TabOK Tryz.prog (tabIp lxo lxt) := .cons written_ok (.cons tokens_ok tab0_ok)
def ipA (T : LxT) (k : Int) (s w : List UInt8) (n : Int) : Ans :=
  .br (T.L w).isEmpty (.br (T.e w == 0) (.ret (.bool false) []) (.ret (.bool false) []))
    (.br (T.e w == 0) (.br (((T.L w).length : Int) == n) (chkA (b2 0 (T.L w).length ((T.L w).map Tk.row)) (.br (kR ((T.L w).map Tk.row) 0 == k) (chkA (b2 0 (T.L w).length ((T.L w).map Tk.row)) (.ret (.bool (sR ((T.L w).map Tk.row) 0 == s)) [])) (.ret (.bool false) []))) (.ret (.bool false) [])) (.ret (.bool false) []))
theorem isPiece_comes (O : LxO) (T : LxT) (k a : Int) (s : List UInt8) : Comes (tabIp O T) nolv 21 [.agg [.int .i64 k, .str s, .int .i64 a]] [] (chkA [wrB O s] (.br (k == 7) (chkA [mxB ((wrO O k s).length + ([40] : List UInt8).length)] (ipA T k s (wrO O k s ++ [40]) 2)) (ipA T k s (wrO O k s) 1))) := by unfold Comes; kernel_rfl
/-- Is what is told just this piece, and so many? -/
def ipF (L : List Tk) (k : Int) (s : List UInt8) (n : Nat) : Bool := match L with
  | [] => false
  | t :: r => (t :: r).length == n && (t.k == k && t.s == s)
def pieF (T : LxT) (O : LxO) (k : Int) (s : List UInt8) : Bool := bcond (k == 7) (T.e (wrO O k s ++ [40]) == 0 && ipF (T.L (wrO O k s ++ [40])) k s 2) (T.e (wrO O k s) == 0 && ipF (T.L (wrO O k s)) k s 1)
def oPie (T : LxT) (O : LxO) : Ent := fun args pre => match args, pre with
  | [.agg [.int .i64 k, .str s, .int .i64 a]], [] => .chk (wrB O s) (.ret (.bool (pieF T O k s)) [])
  | _, _ => .fail
theorem ipA_run (T : LxT) (k : Int) (s w : List UInt8) (n : Nat) : (ipA T k s w n).run pure2 = pure2 (.bool (T.e w == 0 && ipF (T.L w) k s n)) [] := by
  unfold ipA
  simp only [Ans.run]
  cases hL : T.L w with
  | nil => cases T.e w == 0 <;> rfl
  | cons t r =>
    rw [chkA_run b20]
    simp only [Ans.run]
    rw [chkA_run b20, (row0 t r).1, (row0 t r).2]
    have e : ((((t :: r).length : Nat) : Int) == (n : Int)) = ((t :: r).length == n) := by
      rw [Bool.eq_iff_iff, beq_iff_eq, beq_iff_eq]; omega
    rw [e]
    unfold ipF
    simp only
    cases T.e w == 0 with
    | false => rfl
    | true => cases (t :: r).length == n with
      | false => rfl
      | true => cases t.k == k <;> rfl
theorem isPiece_ok : EntOK Tryz.prog 21 (oPie lxt lxo) := fun args pre => by
  unfold oPie
  split
  · rename_i k s a
    refine ⟨fun g => ?_, fun _ => trivial⟩
    refine of_run (ans_comes tabIp_ok (isPiece_comes lxo lxt k a s)) fun r h => ?_
    rw [← h, chkA_run (all_one g)]
    have g' := of_decide_eq_true g
    have hw : (wrO lxo k s).length ≤ 1000002 := by
      unfold wrO
      cases k == 2 with
      | true => show (wrT lxo s).length ≤ _; unfold wrT; simp only [List.length_append, List.length_cons, List.length_nil]; omega
      | false => show s.length ≤ _; omega
    have hm : mxB ((wrO lxo k s).length + ([40] : List UInt8).length) = true := decide_eq_true (by simp only [List.length_cons, List.length_nil]; omega)
    unfold pieF
    simp only [Ans.run]
    rw [chkA_run (all_one hm)]
    cases k == 7 with
    | true => exact ipA_run lxt k s _ 2
    | false => exact ipA_run lxt k s _ 1
  · trivial
end Go.Proofs.YtebieapmoaaahaaGreatDoor

/- Layer 4: lex.Print: what it calls. -/
set_option linter.unusedVariables false
set_option linter.unusedSimpArgs false
namespace Go.Proofs.YtebieapmoaaahaaGreatDoor
open Go Sx
def eWB4 : Ent := fun args pre => match args, pre with
  | [.ptr 0 0, .int .u8 32], [.raw (.cells [.ptr 0 0, .vec 1 m] 51), .vecB acc 5] => .chk (decide (acc.length = m ∧ m + 1 ≤ 1000000)) (.ret .niliface [bOn 2 (m + 1), .raw .dead, .vecB (acc ++ [32]) 5])
  | _, _ => .fail
theorem wb4_ok : EntOK Tryz.prog 24 eWB4 := fun args pre => by
  unfold eWB4
  split
  · rename_i m acc
    have e : Comes tab0 nolv 24 [.ptr 0 0, .int .u8 32] [bOn 1 m, .vecB acc 5] (.br (roomB acc m 1) (.ret .niliface [bOn 2 (m + 1), .raw .dead, .vecB (acc ++ [32]) 5]) .fail) := by unfold Comes; kernel_rfl
    refine of_run (ans_comes tab0_ok e) fun r h => ?_
    obtain ⟨h1, h⟩ := chk_run h
    have h1 := of_decide_eq_true h1
    rw [← h]
    simp only [Ans.run]
    rw [bcT (b := roomB acc m 1) (room_ok h1.1 h1.2)]
  · trivial
def tabPn (O : LxO) (T : LxT) : Tab := (21, oPie T O) :: (22, oIsS) :: (23, oPar O) :: (26, oWrt O) :: (24, eWB4) :: (25, eWS) :: (28, eBS) :: tab0
theorem tabPn_ok : TabOK Tryz.prog (tabPn lxo lxt) := .cons isPiece_ok (.cons isSign_ok (.cons parted_ok (.cons written_ok (.cons wb4_ok (.cons ws_ok (.cons bs_ok tab0_ok))))))
noncomputable abbrev loopPn : Code := (loopBodies (bodyOf Tryz.f11)).headD .skip
end Go.Proofs.YtebieapmoaaahaaGreatDoor

/- Layer 4: which reader told a piece, by its kind; marks that are doubled. Plain mathematics. -/
set_option linter.unusedVariables false
set_option linter.unusedSimpArgs false
namespace Go.Proofs.YtebieapmoaaahaaGreatDoor
open Go Sx
theorem num_k (l : List UInt8) : (numP l).k = 1 := by
  unfold numP
  cases lxo.p2 (lxo.dp digB l) && digB (firI (lxo.p1 (lxo.dp digB l))) <;> rfl
theorem txt_k {l : List UInt8} (ho : (txtP l).ok = true) : (txtP l).k = 2 := by
  unfold txtP at ho ⊢
  cases hb : betB 34 l with
  | false => rw [hb] at ho; cases ho
  | true => rfl
theorem fau_k {l : List UInt8} (ho : (fauP l).ok = true) : ((fauP l).k = 5 ∨ (fauP l).k = 4) ∧ (fauP l).s ∈ faL ∧ (fauP l).k = fauK (fauP l).s := by
  unfold fauP at ho ⊢
  split
  · rename_i hf; rw [hf] at ho; cases ho
  · rename_i f hf
    have hm := List.mem_of_find?_eq_some hf
    rcases fauK_or f hm with h | h
    · exact ⟨.inl h.1, hm, rfl⟩
    · exact ⟨.inr h.1, hm, rfl⟩
theorem quo_k {l : List UInt8} (ho : (quoP l).ok = true) : (quoP l).k = 5 := by
  unfold quoP at ho ⊢
  cases hb : betB 39 l && firI (betL 39 l) == 33 with
  | false => rw [hb] at ho; cases ho
  | true => rfl
theorem pln_k (w r : List UInt8) : (plnP w r).k = 5 ∨ (plnP w r).k = 3 ∨ (plnP w r).k = 6 := by
  unfold plnP
  cases refB w with
  | true => exact .inl rfl
  | false => cases truB w with
    | true => exact .inr (.inl rfl)
    | false => exact .inr (.inr rfl)
theorem coc_k {w r : List UInt8} (ho : (cocP w r).ok = true) : (cocP w r).k = 9 := by
  unfold cocP at ho ⊢
  cases hb : cocB r with
  | false => rw [hb] at ho; cases ho
  | true => rfl
theorem sgs_k {l : List UInt8} (ho : (sgsP l).ok = true) : (sgsP l).k = 8 ∧ (sgsP l).s ∈ sgL := by
  unfold sgsP at ho ⊢
  cases c2 : decide (2 ≤ l.length) && sgL.contains (l.take 2) with
  | true =>
    simp only [Bool.and_eq_true, decide_eq_true_eq] at c2
    exact ⟨rfl, List.contains_iff_mem.1 c2.2⟩
  | false =>
    rw [c2] at ho
    cases c1 : decide (1 ≤ l.length) && sgL.contains (l.take 1) with
    | true =>
      simp only [Bool.and_eq_true, decide_eq_true_eq] at c1
      exact ⟨rfl, List.contains_iff_mem.1 c1.2⟩
    | false => rw [c1] at ho; cases ho
/-- The reader by the first byte. -/
theorem pc_by (l : List UInt8) : pcF l = bcond (hdB (byB digB) l) (numP l) (bcond (hdB (fun b => (b.toNat : Int) == 34) l) (txtP l) (bcond (hdB (fun b => (b.toNat : Int) == 35) l) (fauP l) (bcond (hdB (fun b => (b.toNat : Int) == 39) l) (quoP l) (bcond (hdB (byB fstB) l) (worP l) (sgsP l))))) := by
  unfold pcF
  rw [firI_p low_dig, firI_eq (by omega), firI_eq (by omega), firI_eq (by omega), firI_p low_fst]
theorem hd_more {p : UInt8 → Bool} {l : List UInt8} (h : l ≠ []) (x : List UInt8) : hdB p (l ++ x) = hdB p l := by
  cases l with
  | nil => exact absurd rfl h
  | cons b l => rfl
/-- How a word goes on. -/
theorem wor_cases {w r : List UInt8} (ho : (worQ w r).ok = true) :
    (hdB (fun b => (b.toNat : Int) == 33) r = true ∧ worQ w r = behP w r) ∨ (hdB (fun b => (b.toNat : Int) == 40) r = true ∧ w.length ≤ 30 ∧ conB 36 w = false ∧ worQ w r = w7 w r) ∨ (hdB (fun b => (b.toNat : Int) == 91) r = true ∧ namB w = true ∧ worQ w r = cocP w r) ∨ worQ w r = plnP w r := by
  unfold worQ at ho ⊢
  rw [firI_eq (by omega), firI_eq (by omega), firI_eq (by omega)] at ho ⊢
  cases h1 : hdB (fun b => (b.toNat : Int) == 33) r with
  | true => exact .inl ⟨rfl, rfl⟩
  | false =>
    rw [h1] at ho
    cases h2 : hdB (fun b => (b.toNat : Int) == 40) r with
    | true =>
      cases h3 : decide (w.length ≤ 30) && !conB 36 w with
      | true =>
        simp only [Bool.and_eq_true, decide_eq_true_eq, Bool.not_eq_true'] at h3
        exact .inr (.inl ⟨rfl, h3.1, h3.2, rfl⟩)
      | false => exact .inr (.inr (.inr rfl))
    | false =>
      cases h3 : hdB (fun b => (b.toNat : Int) == 91) r with
      | true => cases h4 : namB w with
        | true => exact .inr (.inr (.inl ⟨rfl, rfl, rfl⟩))
        | false => exact .inr (.inr (.inr rfl))
      | false => exact .inr (.inr (.inr rfl))
/-- What a piece's kind tells of the reader. -/
theorem pc_kinds {l : List UInt8} (ho : (pcF l).ok = true) :
    (hdB (byB digB) l = true ∧ pcF l = numP l) ∨ (hdB (fun b => (b.toNat : Int) == 34) l = true ∧ pcF l = txtP l) ∨ (hdB (fun b => (b.toNat : Int) == 35) l = true ∧ pcF l = fauP l) ∨ (hdB (fun b => (b.toNat : Int) == 39) l = true ∧ pcF l = quoP l) ∨ (hdB (byB fstB) l = true ∧ pcF l = worP l) ∨
    (hdB (byB digB) l = false ∧ hdB (fun b => (b.toNat : Int) == 34) l = false ∧ hdB (fun b => (b.toNat : Int) == 35) l = false ∧ hdB (fun b => (b.toNat : Int) == 39) l = false ∧ hdB (byB fstB) l = false ∧ pcF l = sgsP l) := by
  rw [pc_by] at ho ⊢
  cases h1 : hdB (byB digB) l with
  | true => exact .inl ⟨rfl, rfl⟩
  | false => cases h2 : hdB (fun b => (b.toNat : Int) == 34) l with
    | true => exact .inr (.inl ⟨rfl, rfl⟩)
    | false => cases h3 : hdB (fun b => (b.toNat : Int) == 35) l with
      | true => exact .inr (.inr (.inl ⟨rfl, rfl⟩))
      | false => cases h4 : hdB (fun b => (b.toNat : Int) == 39) l with
        | true => exact .inr (.inr (.inr (.inl ⟨rfl, rfl⟩)))
        | false => cases h5 : hdB (byB fstB) l with
          | true => exact .inr (.inr (.inr (.inr (.inl ⟨rfl, rfl⟩))))
          | false => exact .inr (.inr (.inr (.inr (.inr ⟨rfl, rfl, rfl, rfl, rfl, rfl⟩))))
theorem tw_tw (p : UInt8 → Bool) : ∀ l : List UInt8, (l.takeWhile p).takeWhile p = l.takeWhile p
  | [] => rfl
  | b :: l => by
    rw [List.takeWhile_cons]
    cases h : p b with
    | true => simp only [if_true, List.takeWhile_cons, h, tw_tw p l]
    | false => rfl
theorem dw_of {p : UInt8 → Bool} {l : List UInt8} (h : l.takeWhile p = l) : l.dropWhile p = [] := by
  have := tdw_len p l
  rw [h] at this
  exact List.eq_nil_of_length_eq_zero (by omega)
/-- A word, with something behind it. -/
theorem pc_wordQ {w x : List UInt8} (hw : w.takeWhile (byB wrdB) = w) (hf : hdB (byB fstB) w = true) (hx : x = [] ∨ ∃ c t, x = c :: t ∧ byB wrdB c = false) : pcF (w ++ x) = worQ w x := by
  have hne : w ≠ [] := fun e => by rw [e] at hf; cases hf
  have hall : pcF (w ++ x) = worP (w ++ x) := by
    cases w with
    | nil => exact absurd rfl hne
    | cons b w =>
      have hf : byB fstB b = true := hf
      have h1 : byB digB b = false := by
        unfold byB fstB at hf; simp only [Bool.and_eq_true, Bool.not_eq_true'] at hf; exact hf.2.1
      have h2 : ∀ d : UInt8, byB fstB d = false → (((b.toNat : Nat) : Int) == (d.toNat : Int)) = false := fun d hd => by
        refine beq_eq_false_iff_ne.2 fun e => ?_
        have : b = d := UInt8.toNat_inj.1 (by omega)
        rw [this, hd] at hf; cases hf
      have e1 : hdB (byB digB) (b :: w ++ x) = false := h1
      have e2 : hdB (fun b => (b.toNat : Int) == 34) (b :: w ++ x) = false := h2 34 (by decide)
      have e3 : hdB (fun b => (b.toNat : Int) == 35) (b :: w ++ x) = false := h2 35 (by decide)
      have e4 : hdB (fun b => (b.toNat : Int) == 39) (b :: w ++ x) = false := h2 39 (by decide)
      have e5 : hdB (byB fstB) (b :: w ++ x) = true := hf
      rw [pc_by, e1, e2, e3, e4, e5]; rfl
  rw [hall]
  unfold worP
  rcases hx with rfl | ⟨c, t, rfl, hc⟩
  · rw [List.append_nil, hw, dw_of hw]
  · obtain ⟨a1, a2⟩ := tw_app (t := t) hc w
    rw [a1, a2, hw, dw_of hw]; rfl
theorem wor_word {l : List UInt8} (h : hdB (byB fstB) l = true) : (l.takeWhile (byB wrdB)).takeWhile (byB wrdB) = l.takeWhile (byB wrdB) ∧ hdB (byB fstB) (l.takeWhile (byB wrdB)) = true := by
  refine ⟨tw_tw _ l, ?_⟩
  cases l with
  | nil => cases h
  | cons b r => rw [List.takeWhile_cons, if_pos (show byB wrdB b = true from fst_wrd h)]; exact h
/-- What calls is a word, whatever stands behind its bracket. -/
theorem pc_seven {l : List UInt8} (ho : (pcF l).ok = true) (h7 : (pcF l).k = 7) (x : List UInt8) : pcF ((pcF l).s ++ 40 :: x) = ⟨7, (pcF l).s, true, 40 :: x⟩ ∧ hdB (byB fstB) l = true := by
  have key : ∀ w : List UInt8, w.takeWhile (byB wrdB) = w → hdB (byB fstB) w = true → w.length ≤ 30 → conB 36 w = false → pcF (w ++ 40 :: x) = ⟨7, w, true, 40 :: x⟩ := fun w h1 h2 h3 h4 => by
    rw [pc_wordQ h1 h2 (.inr ⟨40, x, rfl, by decide⟩)]
    unfold worQ
    rw [firI_eq (by omega), firI_eq (by omega)]
    have e1 : hdB (fun b => (b.toNat : Int) == 33) (40 :: x) = false := rfl
    have e2 : hdB (fun b => (b.toNat : Int) == 40) (40 :: x) = true := rfl
    rw [e1, e2, decide_eq_true h3, h4]; rfl
  rcases pc_kinds ho with ⟨_, e⟩ | ⟨_, e⟩ | ⟨_, e⟩ | ⟨_, e⟩ | ⟨hf, e⟩ | ⟨_, _, _, _, _, e⟩
  · rw [e, num_k] at h7; omega
  · rw [e] at ho h7; rw [txt_k ho] at h7; omega
  · rw [e] at ho h7; have := (fau_k ho).1; omega
  · rw [e] at ho h7; rw [quo_k ho] at h7; omega
  · rw [e] at ho h7 ⊢
    obtain ⟨w1, w2⟩ := wor_word hf
    unfold worP at ho h7 ⊢
    rcases wor_cases ho with ⟨_, e⟩ | ⟨_, c1, c2, e⟩ | ⟨_, _, e⟩ | e
    · rw [e] at h7; exact absurd h7 (by decide : ¬ (5 : Int) = 7)
    · rw [e]; exact ⟨key _ w1 w2 c1 c2, hf⟩
    · rw [e] at ho h7; rw [coc_k ho] at h7; omega
    · rw [e] at h7; have := pln_k (l.takeWhile (byB wrdB)) (l.dropWhile (byB wrdB)); omega
  · rw [e] at ho h7; have := (sgs_k ho).1; omega
/-- A sign, whatever stands behind. -/
theorem pc_eight {l : List UInt8} (ho : (pcF l).ok = true) (h8 : (pcF l).k = 8) : (pcF l).s ∈ sgL ∧ pcF l = sgsP l ∧ ∀ x, pcF (l ++ x) = sgsP (l ++ x) := by
  have hl : l ≠ [] := fun e => by have := pc_less ho; rw [e] at this; simp at this
  rcases pc_kinds ho with ⟨_, e⟩ | ⟨_, e⟩ | ⟨_, e⟩ | ⟨_, e⟩ | ⟨hf, e⟩ | ⟨h1, h2, h3, h4, h5, e⟩
  · rw [e, num_k] at h8; omega
  · rw [e] at ho h8; rw [txt_k ho] at h8; omega
  · rw [e] at ho h8; have := (fau_k ho).1; omega
  · rw [e] at ho h8; rw [quo_k ho] at h8; omega
  · rw [e] at ho h8
    unfold worP at ho h8
    rcases wor_cases ho with ⟨_, e⟩ | ⟨_, c1, c2, e⟩ | ⟨_, _, e⟩ | e
    · rw [e] at h8; exact absurd h8 (by decide : ¬ (5 : Int) = 8)
    · rw [e] at h8; exact absurd h8 (by decide : ¬ (7 : Int) = 8)
    · rw [e] at ho h8; rw [coc_k ho] at h8; omega
    · rw [e] at h8; have := pln_k (l.takeWhile (byB wrdB)) (l.dropWhile (byB wrdB)); omega
  · refine ⟨by rw [e] at ho ⊢; exact (sgs_k ho).2, e, fun x => ?_⟩
    rw [pc_by, hd_more hl, hd_more hl, hd_more hl, hd_more hl, hd_more hl, h1, h2, h3, h4, h5]; rfl
-- marks that are doubled
def dblQ : List UInt8 → List UInt8
  | [] => []
  | c :: r => if c = 34 then 34 :: 34 :: dblQ r else c :: dblQ r
theorem ra_nil {o n : List UInt8} (ho : o ≠ []) : Lib.replaceAll [] o n = [] := by
  have hi : Lib.index [] o = -1 := by cases o with | nil => exact absurd rfl ho | cons a t => rfl
  have e : Lib.count [] o = 0 := Lib.count_miss hi
  unfold Lib.replaceAll Lib.replace
  split
  · rfl
  · unfold Lib.replaceNum; rw [if_pos (.inl (by decide)), e]; rfl
theorem ra_eq {o n : List UInt8} (hne : (o == n) = false) (s : List UInt8) : Lib.replaceAll s o n = Lib.replaceK o n (Lib.count s o) s := by
  unfold Lib.replaceAll Lib.replace
  rw [hne]; simp only [Bool.false_eq_true, if_false]
  unfold Lib.replaceNum; rw [if_pos (.inl (by decide))]
theorem ra_hit {o n : List UInt8} (ho : o ≠ []) (hne : (o == n) = false) (s : List UInt8) : Lib.replaceAll (o ++ s) o n = n ++ Lib.replaceAll s o n := by
  have hi : Lib.index (o ++ s) o = ((0 : Nat) : Int) := Lib.index_first (i := 0) (Nat.zero_le _) (by simp [Lib.occAt]) (fun _ h => absurd h (Nat.not_lt_zero _))
  have hc := Lib.count_hit ho hi
  have hd : (o ++ s).drop (0 + o.length) = s := by simp
  rw [hd] at hc
  rw [ra_eq hne, ra_eq hne, hc, Nat.add_comm, Lib.replaceK_hit _ _ _ _ 0 hi, hd]; simp
theorem ra_skip {o n s : List UInt8} {c : UInt8} (ho : o ≠ []) (hne : (o == n) = false) (hp : o.isPrefixOf (c :: s) = false) : Lib.replaceAll (c :: s) o n = c :: Lib.replaceAll s o n := by
  have hi : Lib.index (c :: s) o = if (Lib.index s o == -1) = true then -1 else Lib.index s o + 1 := by
    rw [Lib.index, hp]; simp
  rcases Lib.index_spec s o with ⟨h1, _⟩ | ⟨i, h1, _⟩
  · rw [h1] at hi
    have hi : Lib.index (c :: s) o = -1 := hi
    rw [ra_eq hne, ra_eq hne, Lib.count_miss hi, Lib.count_miss h1]; rfl
  · have hi : Lib.index (c :: s) o = ((i + 1 : Nat) : Int) := by
      rw [hi, h1, if_neg (by simp)]; omega
    have hc1 := Lib.count_hit ho hi
    have hc2 := Lib.count_hit ho h1
    have hd : (c :: s).drop (i + 1 + o.length) = s.drop (i + o.length) := by rw [show i + 1 + o.length = (i + o.length) + 1 by omega]; rfl
    rw [hd] at hc1
    rw [ra_eq hne, ra_eq hne, hc1, hc2, Nat.add_comm 1, Lib.replaceK_hit _ _ _ _ _ hi, Lib.replaceK_hit _ _ _ _ _ h1, hd]; rfl
theorem ra_dbl : ∀ s : List UInt8, Lib.replaceAll s [34] [34, 34] = dblQ s
  | [] => ra_nil (by decide)
  | c :: s => by
    by_cases h : c = 34
    · subst h; rw [dblQ, if_pos rfl, ← ra_dbl s]; exact ra_hit (o := [34]) (by decide) (by decide) s
    · rw [dblQ, if_neg h, ← ra_dbl s]
      refine ra_skip (by decide) (by decide) ?_
      show ((34 : UInt8) == c && _) = false
      rw [beq_eq_false_iff_ne.2 (Ne.symm h), Bool.false_and]
theorem dblQ_len : ∀ s : List UInt8, s.length ≤ (dblQ s).length ∧ (dblQ s).length ≤ 2 * s.length
  | [] => ⟨Nat.le_refl _, Nat.le_refl _⟩
  | c :: s => by
    have := dblQ_len s
    rw [dblQ]
    split <;> simp only [List.length_cons] <;> omega
end Go.Proofs.YtebieapmoaaahaaGreatDoor

/- Layer 4: pieces that can stand, with what stands behind them. Plain mathematics. -/
set_option linter.unusedVariables false
set_option linter.unusedSimpArgs false
namespace Go.Proofs.YtebieapmoaaahaaGreatDoor
open Go Sx
/-- A piece as it is written. -/
def wrt (t : Tk) : List UInt8 := wrO lxo t.k t.s
def pieB (t : Tk) : Bool := pieF lxt lxo t.k t.s
def parB (a b : Tk) : Bool := parF lxo a.k a.s b.k b.s
theorem wrt_two {t : Tk} (h : t.k = 2) : wrt t = 34 :: (dblQ t.s ++ [34]) := by
  unfold wrt wrO wrT
  rw [h, ← ra_dbl]; rfl
theorem wrt_not {t : Tk} (h : t.k ≠ 2) : wrt t = t.s := by
  unfold wrt wrO
  rw [bcF (beq_f h)]
theorem pc_mk {x : Pc} {k : Int} {s : List UInt8} {b : Bool} {r : List UInt8} (h1 : x.k = k) (h2 : x.s = s) (h3 : x.ok = b) (h4 : x.r = r) : x = ⟨k, s, b, r⟩ := by
  subst h1 h2 h3 h4; rfl
theorem pc_blank (l : List UInt8) : (pcF (32 :: l)).ok = false := by
  have e1 : hdB (byB digB) (32 :: l) = false := by show byB digB 32 = false; decide
  have e2 : hdB (fun b => (b.toNat : Int) == 34) (32 :: l) = false := rfl
  have e3 : hdB (fun b => (b.toNat : Int) == 35) (32 :: l) = false := rfl
  have e4 : hdB (fun b => (b.toNat : Int) == 39) (32 :: l) = false := rfl
  have e5 : hdB (byB fstB) (32 :: l) = false := by show byB fstB 32 = false; decide
  rw [pc_by, e1, e2, e3, e4, e5]
  show (sgsP (32 :: l)).ok = false
  have k : ∀ n, sgL.contains (32 :: l.take n) = false := fun n => by
    cases h : sgL.contains (32 :: l.take n) with
    | false => rfl
    | true => exact absurd rfl (sg_32 _ (List.contains_iff_mem.1 h) 32 (List.mem_cons_self ..))
  unfold sgsP
  have k2 : sgL.contains ((32 :: l).take 2) = false := k 1
  have k1 : sgL.contains ((32 :: l).take 1) = false := k 0
  rw [k2, k1, Bool.and_false, Bool.and_false]; rfl
theorem blk_eq {b : UInt8} (h : byB blkB b = true) : b = 32 := by
  have : (b.toNat : Int) = 32 := beq_iff_eq.1 h
  exact UInt8.toNat_inj.1 (by show b.toNat = 32; omega)
theorem blD_of {l : List UInt8} (h : hdB (byB blkB) l = false) : blD l = l := by
  cases l with
  | nil => rfl
  | cons b t => unfold blD; rw [List.dropWhile_cons, if_neg (by rw [show byB blkB b = false from h]; decide)]
theorem ok_hd {l : List UInt8} (ho : (pcF l).ok = true) : hdB (byB blkB) l = false := by
  cases l with
  | nil => rfl
  | cons b t =>
    cases hb : hdB (byB blkB) (b :: t) with
    | false => rfl
    | true => rw [blk_eq hb, pc_blank] at ho; cases ho
theorem blD_rep (n : Nat) {l : List UInt8} (h : hdB (byB blkB) l = false) : blD (List.replicate n 32 ++ l) = l := by
  induction n with
  | zero => exact blD_of h
  | succ n ih => rw [List.replicate_succ, List.cons_append]; unfold blD at ih ⊢; rw [List.dropWhile_cons, if_pos blk_32]; exact ih
theorem tokP_nil {l : List UInt8} (hb : blD l = []) : tokP l = ([], none) := by
  unfold tokP
  cases l.length with
  | zero => rfl
  | succ n => rw [pcs_succ, if_pos hb]
theorem ok_ne {l : List UInt8} (ho : (pcF l).ok = true) : l ≠ [] := fun e => by
  have := pc_less ho
  rw [e] at this
  simp at this
theorem tokP_cons {l l' : List UInt8} (hb : blD l = l') (ho : (pcF l').ok = true) : tokP l = ((pcF l', l') :: (tokP (pcF l').r).1, (tokP (pcF l').r).2) := by
  subst hb
  have h1 := blD_le l
  have h2 := pc_less ho
  obtain ⟨n, hn⟩ : ∃ n, l.length = n + 1 := ⟨l.length - 1, by omega⟩
  unfold tokP
  rw [hn, pcs_succ, if_neg (ok_ne ho), if_pos ho, pcs_fuel n _ _ (by omega) (Nat.le_refl _)]
theorem tokP_bad {l : List UInt8} (hb : blD l ≠ []) (ho : (pcF (blD l)).ok ≠ true) : (tokP l).2 = some (blD l) := by
  have h1 := blD_le l
  have h0 : (blD l).length ≠ 0 := fun e => hb (List.eq_nil_of_length_eq_zero e)
  obtain ⟨n, hn⟩ : ∃ n, l.length = n + 1 := ⟨l.length - 1, by omega⟩
  unfold tokP
  rw [hn, pcs_succ, if_neg hb, if_neg ho]
theorem tokP_none {l : List UInt8} (h1 : (tokP l).1 = []) (h2 : (tokP l).2 = none) : blD l = [] := by
  by_cases hb : blD l = []
  · exact hb
  · by_cases ho : (pcF (blD l)).ok = true
    · rw [tokP_cons rfl ho] at h1; cases h1
    · rw [tokP_bad hb ho] at h2; cases h2
theorem tok_head {w : List UInt8} {t : Tk} {L : List Tk} (he : tokE w = 0) (hL : tokL w = t :: L) :
    w.length ≤ 200 ∧ (pcF (blD w)).ok = true ∧ (pcF (blD w)).k = t.k ∧ (pcF (blD w)).s = t.s ∧ (tokP (pcF (blD w)).r).2 = none ∧ (tokP (pcF (blD w)).r).1.length = L.length := by
  obtain ⟨h1, h2⟩ := tok_none he
  rw [(tok_of h1 h2).2.2] at hL
  by_cases hb : blD w = []
  · rw [tokP_nil hb] at hL; cases hL
  · by_cases ho : (pcF (blD w)).ok = true
    · rw [tokP_cons rfl ho] at hL h2
      simp only [List.map_cons, List.cons.injEq] at hL
      exact ⟨h1, ho, by rw [← hL.1]; rfl, by rw [← hL.1]; rfl, h2, by rw [← hL.2, List.length_map]⟩
    · rw [tokP_bad hb ho] at h2; cases h2
theorem dw_all {p : UInt8 → Bool} : ∀ {l : List UInt8}, l.dropWhile p = [] → ∀ x ∈ l, p x = true
  | [], _, x, hx => by simp at hx
  | b :: l, h, x, hx => by
    rw [List.dropWhile_cons] at h
    cases hb : p b with
    | false => rw [hb] at h; simp at h
    | true =>
      rw [hb] at h
      rcases List.mem_cons.1 hx with e | e
      · rw [e]; exact hb
      · exact dw_all (by simpa using h) x e
theorem end_34 {r x : List UInt8} (h : r <:+ x ++ [34]) (hb : blD r = []) : r = [] := by
  rcases List.eq_nil_or_concat r with e | ⟨r1, c, e⟩
  · exact e
  · exfalso
    obtain ⟨p, hp⟩ := h
    rw [List.concat_eq_append] at e
    rw [e, ← List.append_assoc] at hp
    have hc : c = 34 := by
      have := congrArg List.getLast? hp
      simpa using this
    unfold blD at hb
    have := dw_all hb c (by rw [e]; simp)
    rw [hc] at this
    exact absurd this (by decide)
/-- A piece that can stand is told as it, alone. -/
theorem pie_pc {t : Tk} (h : pieB t = true) (h7 : t.k ≠ 7) : pcF (wrt t) = ⟨t.k, t.s, true, []⟩ := by
  unfold pieB pieF at h
  rw [bcF (beq_f h7)] at h
  have h : (tokE (wrt t) == 0 && ipF (tokL (wrt t)) t.k t.s 1) = true := h
  simp only [Bool.and_eq_true, beq_iff_eq] at h
  obtain ⟨he, hp⟩ := h
  cases hL : tokL (wrt t) with
  | nil => rw [hL] at hp; cases hp
  | cons u r =>
    rw [hL] at hp
    unfold ipF at hp
    simp only [Bool.and_eq_true, beq_iff_eq] at hp
    obtain ⟨p1, p2, p3⟩ := hp
    obtain ⟨q1, q2, q3, q4, q5, q6⟩ := tok_head he hL
    have hr : blD (pcF (blD (wrt t))).r = [] := tokP_none (List.eq_nil_of_length_eq_zero (by simp only [List.length_cons] at p1; omega)) q5
    have hk := q3.trans p2
    have hs := q4.trans p3
    have key : blD (wrt t) = wrt t ∧ (pcF (blD (wrt t))).r = [] := by
      by_cases h2 : t.k = 2
      · have hw := wrt_two h2
        have hb : blD (wrt t) = wrt t := blD_of (by rw [hw]; rfl)
        refine ⟨hb, ?_⟩
        have hsuf := pc_suf (blD (wrt t))
        refine end_34 (x := 34 :: dblQ t.s) ?_ hr
        rw [hb, hw] at hsuf ⊢
        exact hsuf
      · have hw := wrt_not h2
        have kd := (pc_kd q2).len (by rw [hk]; exact h2)
        have hbl := blD_le (wrt t)
        rw [hs] at kd
        have hwl : (wrt t).length = t.s.length := by rw [hw]
        exact ⟨(blD_suf (wrt t)).eq_of_length (by omega), List.eq_nil_of_length_eq_zero (by omega)⟩
    obtain ⟨k1, k2⟩ := key
    rw [k1] at hk hs q2 k2
    exact pc_mk hk hs q2 k2
/-- A call that can stand. -/
theorem pie_call {t : Tk} (h : pieB t = true) (h7 : t.k = 7) (x : List UInt8) : pcF (t.s ++ 40 :: x) = ⟨7, t.s, true, 40 :: x⟩ := by
  have hw := wrt_not (t := t) (by omega)
  unfold pieB pieF at h
  rw [bcT (beq_iff_eq.2 h7)] at h
  have h : (tokE (wrt t ++ [40]) == 0 && ipF (tokL (wrt t ++ [40])) t.k t.s 2) = true := h
  simp only [Bool.and_eq_true, beq_iff_eq] at h
  obtain ⟨he, hp⟩ := h
  cases hL : tokL (wrt t ++ [40]) with
  | nil => rw [hL] at hp; cases hp
  | cons u r =>
    rw [hL] at hp
    unfold ipF at hp
    simp only [Bool.and_eq_true, beq_iff_eq] at hp
    obtain ⟨p1, p2, p3⟩ := hp
    obtain ⟨q1, q2, q3, q4, q5, q6⟩ := tok_head he hL
    have := (pc_seven q2 (by rw [q3, p2]; exact h7) x).1
    rw [q4.trans p3] at this
    exact this
theorem pie_ne {t : Tk} (h : pieB t = true) : wrt t ≠ [] := by
  by_cases h7 : t.k = 7
  · rw [wrt_not (by omega)]
    intro e
    have := pie_call h h7 []
    rw [e, List.nil_append, pc_br] at this
    exact absurd (congrArg Pc.k this) (by decide : ¬ (8 : Int) = 7)
  · exact ok_ne (by rw [pie_pc h h7])
theorem pie_hd {t : Tk} (h : pieB t = true) (x : List UInt8) : hdB (byB blkB) (wrt t ++ x) = false := by
  rw [hd_more (pie_ne h)]
  by_cases h7 : t.k = 7
  · have hw := wrt_not (t := t) (by omega)
    have := ok_hd (l := t.s ++ 40 :: []) (by rw [pie_call h h7 []])
    rw [hd_more (by rw [← hw]; exact pie_ne h)] at this
    rw [hw]; exact this
  · exact ok_hd (by rw [pie_pc h h7])
theorem sg_two {b c : UInt8} (h : sgL.contains [b, c] = true) : (b = 60 ∧ c = 62) ∨ (b = 60 ∧ c = 61) ∨ (b = 62 ∧ c = 61) := by
  have h := List.contains_iff_mem.1 h
  simp [sgL] at h
  exact h
def okH : List UInt8 → Bool
  | [] => false
  | c :: y => !byB wrdB c && c != 33 && c != 34 && c != 39 && c != 91 && upB c == c && (c != 40 || y == [])
theorem sg_okH : ∀ x ∈ sgL, okH x = true := by decide
theorem worQ_nil (w : List UInt8) : worQ w [] = plnP w [] := by
  unfold worQ
  rw [firI_eq (by omega), firI_eq (by omega), firI_eq (by omega)]; rfl
theorem fa_find (R : List UInt8) : ∀ f ∈ faL, faL.find? (fun g => preB ((f ++ R).map upB) g) = some f := by
  intro f hf
  simp only [faL, List.mem_cons, List.not_mem_nil, or_false] at hf
  rcases hf with rfl | rfl | rfl | rfl | rfl | rfl | rfl | rfl | rfl <;> kernel_rfl
theorem fa_hd : ∀ f ∈ faL, hdB (fun b => (b.toNat : Int) == 35) f = true := by decide
theorem pc_fau {l : List UInt8} (h : hdB (fun b => (b.toNat : Int) == 35) l = true) : pcF l = fauP l := by
  cases l with
  | nil => cases h
  | cons b z =>
    have hb : (b.toNat : Int) = 35 := beq_iff_eq.1 h
    have hb : b = 35 := UInt8.toNat_inj.1 (by show b.toNat = 35; omega)
    subst hb
    have e1 : hdB (byB digB) (35 :: z) = false := by show byB digB 35 = false; decide
    have e2 : hdB (fun b => (b.toNat : Int) == 34) (35 :: z) = false := rfl
    rw [pc_by, e1, e2, h]; rfl
/-- An error, whatever stands behind. -/
theorem fau_any {f : List UInt8} (hf : f ∈ faL) (R : List UInt8) : pcF (f ++ R) = ⟨fauK f, f, true, R⟩ := by
  have hne : f ≠ [] := fun e => by have := fa_hd f hf; rw [e] at this; cases this
  rw [pc_fau (by rw [hd_more hne]; exact fa_hd f hf)]
  unfold fauP
  rw [fa_find R f hf]
  show fau1 f (f ++ R) = _
  unfold fau1
  rw [Int.toNat_natCast]
  simp
/-- A piece with what is printed behind it. -/
theorem pc_rest {t : Tk} (h : pieB t = true) (h7 : t.k ≠ 7) {R : List UInt8} (hR : R = [] ∨ (∃ x, R = 32 :: x) ∨ ∃ u x, pieB u = true ∧ parB t u = false ∧ R = wrt u ++ x) : pcF (wrt t ++ R) = ⟨t.k, t.s, true, R⟩ := by
  have hp := pie_pc h h7
  have hok : (pcF (wrt t)).ok = true := by rw [hp]
  have hne := pie_ne h
  rcases hR with rfl | ⟨x, rfl⟩ | ⟨u, x, hu, hpar, rfl⟩
  · rw [List.append_nil]; exact hp
  · rw [pc_app hne (stop_blank _) hok, hp]; rfl
  · obtain ⟨c, y, hy⟩ : ∃ c y, wrt u = c :: y := by
      cases hw : wrt u with
      | nil => exact absurd hw (pie_ne hu)
      | cons c y => exact ⟨c, y, rfl⟩
    have pf : ∀ d : UInt8, lxo.pf (wrO lxo u.k u.s) [d] = ([c] == [d]) := fun d => by
      show ((wrt u).take 1 == [d]) = _
      rw [hy]; rfl
    rw [hy, List.cons_append]
    by_cases h8 : t.k = 8
    · obtain ⟨e0, e1, e2⟩ := pc_eight hok (by rw [hp]; exact h8)
      have hw := wrt_not (t := t) (by omega)
      unfold parB parF at hpar
      rw [h8] at hpar
      have hpar : bcond (t.s == [60]) (bcond (lxo.pf (wrO lxo u.k u.s) [61]) true (lxo.pf (wrO lxo u.k u.s) [62])) (bcond (t.s == [62]) (lxo.pf (wrO lxo u.k u.s) [61]) false) = false := hpar
      rw [pf, pf] at hpar
      rw [e2, sgs_app (fun b hb => ?_) (by rw [← e1]; exact hok), ← e1, hp]
      · rfl
      · rw [hw] at hb
        rw [hb] at hpar
        cases hc : sgL.contains [b, c] with
        | false => rfl
        | true =>
          exfalso
          rcases sg_two hc with ⟨rfl, rfl⟩ | ⟨rfl, rfl⟩ | ⟨rfl, rfl⟩ <;> exact absurd hpar (by decide)
    · unfold parB parF at hpar
      rw [bcT (b := t.k != 8) (bne_iff_ne.2 h8)] at hpar
      cases hu8 : u.k != 8 with
      | true => rw [hu8] at hpar; cases hpar
      | false =>
        have hu8 : u.k = 8 := by simpa using hu8
        rw [hu8] at hpar
        have hpar : parG lxo t.k t.s 8 u.s = false := hpar
        have huw := wrt_not (t := u) (by omega)
        have hup := pie_pc hu (by omega)
        have hus : u.s ∈ sgL := by
          have := (pc_eight (l := wrt u) (by rw [hup]) (by rw [hup]; exact hu8)).1
          rw [hup] at this; exact this
        have hcy : u.s = c :: y := by rw [← huw]; exact hy
        have hH := sg_okH _ hus
        rw [hcy] at hH
        simp only [okH, Bool.and_eq_true, Bool.not_eq_true', bne_iff_ne, ne_eq, beq_iff_eq, Bool.or_eq_true] at hH
        obtain ⟨⟨⟨⟨⟨⟨g1, g2⟩, g3⟩, g4⟩, g5⟩, g6⟩, g7⟩ := hH
        cases h35 : hdB (fun b => (b.toNat : Int) == 35) (wrt t) with
        | true =>
          have e := pc_fau h35
          have hf := fau_k (l := wrt t) (by rw [← e]; exact hok)
          rw [← e, hp] at hf
          obtain ⟨f1, f2, f3⟩ := hf
          simp only at f1 f2 f3
          rw [wrt_not (by omega), fau_any f2, ← f3]
        | false =>
          have hst : Stop c (wrt t) := {
            w := g1, n33 := g2, n34 := g3, n39 := g4, n91 := g5, up := g6
            fa := fun e => by rw [h35] at e; cases e
            call := fun e hf hd => by
              have hy0 : y = [] := g7.resolve_left (fun n => n e)
              have hw : (wrt t).takeWhile (byB wrdB) = wrt t := by
                have := List.takeWhile_append_dropWhile (p := byB wrdB) (l := wrt t)
                rw [hd, List.append_nil] at this; exact this
              have := pc_wordQ hw hf (.inl rfl)
              rw [List.append_nil, hp, worQ_nil] at this
              have hk := pln_k (wrt t) []
              rw [← this] at hk
              simp only at hk
              rw [hcy, e, hy0] at hpar
              rcases hk with hk | hk | hk <;> rw [hk] at hpar <;> cases (show true = false from hpar)
            sg := fun b hb => by
              cases hc : sgL.contains [b, c] with
              | false => rfl
              | true =>
                exfalso
                have k60 : (pcF [60]).k = 8 := by kernel_rfl
                have k62 : (pcF [62]).k = 8 := by kernel_rfl
                rw [hb] at hp
                rcases sg_two hc with ⟨rfl, _⟩ | ⟨rfl, _⟩ | ⟨rfl, _⟩
                · rw [hp] at k60; exact h8 k60
                · rw [hp] at k60; exact h8 k60
                · rw [hp] at k62; exact h8 k62 }
          rw [pc_app hne hst hok, hp]; rfl
/-- Pieces, each with so many blanks ahead; so many behind all. -/
def gT : List (Nat × Tk) → Nat → List UInt8
  | [], m => List.replicate m 32
  | (n, t) :: r, m => List.replicate n 32 ++ (wrt t ++ gT r m)
def gOk : List (Nat × Tk) → Prop
  | [] => True
  | [(_, t)] => pieB t = true ∧ t.k ≠ 7
  | (_, t) :: (n, u) :: r => pieB t = true ∧ (t.k = 7 → n = 0 ∧ u.k = 8 ∧ u.s = [40]) ∧ (t.k ≠ 7 → n = 0 → parB t u = false) ∧ gOk ((n, u) :: r)
theorem gOk_pie {n : Nat} {t : Tk} {r : List (Nat × Tk)} (h : gOk ((n, t) :: r)) : pieB t = true := by
  cases r with
  | nil => exact h.1
  | cons x r => exact h.1
def ksP (x : Pc × List UInt8) : Int × List UInt8 := (x.1.k, x.1.s)
theorem g_step {n : Nat} {t : Tk} {R : List UInt8} (h : pieB t = true) (hp : pcF (wrt t ++ R) = ⟨t.k, t.s, true, R⟩) : tokP (List.replicate n 32 ++ (wrt t ++ R)) = ((⟨t.k, t.s, true, R⟩, wrt t ++ R) :: (tokP R).1, (tokP R).2) := by
  rw [tokP_cons (blD_rep n (pie_hd h R)) (by rw [hp]), hp]
/-- WHAT IS WRITTEN SO IS TOLD AS IT. -/
theorem gT_ok : ∀ (L : List (Nat × Tk)) (m : Nat), gOk L → (tokP (gT L m)).2 = none ∧ (tokP (gT L m)).1.map ksP = L.map fun x => ksT x.2
  | [], m, _ => by
    have : blD (List.replicate m 32) = [] := by
      have := blD_rep m (l := []) rfl
      rwa [List.append_nil] at this
    rw [gT, tokP_nil this]; exact ⟨rfl, rfl⟩
  | [(n, t)], m, h => by
    have hp := pc_rest h.1 h.2 (R := List.replicate m 32) (by
      cases m with
      | zero => exact .inl rfl
      | succ m => exact .inr (.inl ⟨_, rfl⟩))
    have ih := gT_ok [] m trivial
    rw [gT, g_step h.1 (by rw [gT]; exact hp)]
    exact ⟨ih.1, by rw [List.map_cons, ih.2]; rfl⟩
  | (n, t) :: (n', u) :: r, m, h => by
    obtain ⟨h1, h2, h3, h4⟩ := h
    have ih := gT_ok ((n', u) :: r) m h4
    have hu := gOk_pie h4
    have hp : pcF (wrt t ++ gT ((n', u) :: r) m) = ⟨t.k, t.s, true, gT ((n', u) :: r) m⟩ := by
      by_cases h7 : t.k = 7
      · obtain ⟨e1, e2, e3⟩ := h2 h7
        have hw : gT ((n', u) :: r) m = 40 :: gT r m := by
          rw [gT, e1, wrt_not (by omega), e3]; rfl
        rw [hw, wrt_not (by omega), pie_call h1 h7, h7]
      · refine pc_rest h1 h7 ?_
        rw [gT]
        cases n' with
        | zero => exact .inr (.inr ⟨u, gT r m, hu, h3 h7 rfl, rfl⟩)
        | succ k => exact .inr (.inl ⟨_, rfl⟩)
    rw [gT, g_step h1 hp]
    exact ⟨ih.1, by rw [List.map_cons, ih.2]; rfl⟩
end Go.Proofs.YtebieapmoaaahaaGreatDoor

/- Layer 4: what is told is told again, alone. Plain mathematics. -/
set_option linter.unusedVariables false
set_option linter.unusedSimpArgs false
namespace Go.Proofs.YtebieapmoaaahaaGreatDoor
open Go Sx
structure Again (x : Pc) (l : List UInt8) : Prop where
  one : x.k ≠ 7 → pcF (wrO lxo x.k x.s) = ⟨x.k, x.s, true, []⟩
  two : x.k = 7 → pcF (x.s ++ [40]) = ⟨7, x.s, true, [40]⟩
  len : (wrO lxo x.k x.s).length + x.r.length = l.length
-- texts
theorem byteAt_get {l : List UInt8} {i : Nat} (h : i < l.length) : byteAt l i = (l[i].toNat : Int) := by
  unfold byteAt
  rw [List.getD_eq_getElem?_getD, List.getElem?_eq_getElem h]; rfl
-- references between marks
end Go.Proofs.YtebieapmoaaahaaGreatDoor

/- Layer 4: lists of pieces that are printed. Plain mathematics. -/
set_option linter.unusedVariables false
set_option linter.unusedSimpArgs false
namespace Go.Proofs.YtebieapmoaaahaaGreatDoor
open Go Sx
def gapN (p : Option Tk) (t : Tk) : Nat := match p with | none => 0 | some a => bcond (parB a t) 1 0
def gaps : Option Tk → List Tk → List (Nat × Tk)
  | _, [] => []
  | p, t :: r => (gapN p t, t) :: gaps (some t) r
def hdS : List Tk → Bool
  | [] => false
  | u :: _ => isB u.k u.s [40]
/-- Can all of them stand so? -/
def goodL : List Tk → Bool
  | [] => true
  | t :: r => pieB t && ((t.k != 7 || hdS r) && goodL r)
theorem isB_of {k : Int} {s t : List UInt8} (h : isB k s t = true) : k = 8 ∧ s = t := by
  unfold isB at h
  cases hk : k == 8 with
  | false => rw [hk] at h; cases h
  | true => rw [hk] at h; exact ⟨beq_iff_eq.1 hk, beq_iff_eq.1 h⟩
/-- Pieces as a text. -/
def prS (l : List Tk) : List UInt8 := gT (gaps none l) 0
def okL (l : List Tk) : Bool := goodL l && decide ((prS l).length ≤ 200)
end Go.Proofs.YtebieapmoaaahaaGreatDoor

/- Layer 4: lex.Print: rounds. -/
set_option linter.unusedVariables false
set_option linter.unusedSimpArgs false
namespace Go.Proofs.YtebieapmoaaahaaGreatDoor
open Go Sx
abbrev blO (m : Nat) : PObj := .raw (.cells [.ptr 1 0, .vec 2 m] 51)
def stPn0 (n : Nat) (rows : List (List CV)) (i : Int) : PState := ⟨[some (.vec 0 n)] ++ nn 3 ++ [some (.ptr 1 0)] ++ nn 2 ++ [some (.vec 0 n), some (.int .i64 n), some (.int .i64 i)] ++ nn 47, [some (tokO rows), some bNew] ++ nn 64⟩
def stPn1 (n : Nat) (rows : List (List CV)) (i : Int) (m : Nat) (acc : List UInt8) : PState := ⟨[some (.vec 0 n)] ++ nn 3 ++ [some (.ptr 1 0)] ++ nn 2 ++ [some (.vec 0 n), some (.int .i64 n), some (.int .i64 i)] ++ nn 47, [some (tokO rows), some (blO m), some (.vecB acc 5)] ++ nn 64⟩
def rtPn0 (rows : List (List CV)) : PState := ⟨nn 2 ++ [some (.str []), some (.int .i64 40), some (.ptr 1 0)] ++ nn 52, [some (tokO rows), some bNew] ++ nn 64⟩
def rtPn1 (rows : List (List CV)) (m : Nat) (acc : List UInt8) : PState := ⟨nn 2 ++ [some (.str []), some (.int .i64 40), some (.ptr 1 0)] ++ nn 52, [some (tokO rows), some (blO m), some (.vecB acc 5)] ++ nn 64⟩
def okPn0 (rows : List (List CV)) : PState := ⟨nn 4 ++ [some (.ptr 1 0)] ++ nn 52, [some (tokO rows), some bNew] ++ nn 64⟩
def okPn1 (rows : List (List CV)) (m : Nat) (acc : List UInt8) : PState := ⟨nn 4 ++ [some (.ptr 1 0)] ++ nn 52, [some (tokO rows), some (blO m), some (.vecB acc 5)] ++ nn 64⟩
section
variable (O : LxO) (T : LxT) (n : Nat) (rows : List (List CV)) (i : Int) (m : Nat) (acc : List UInt8)
def pnS : List UInt8 := wrO O (kR rows i) (sR rows i)
def pnW (m : Nat) (acc : List UInt8) : Option (Ex × PState) := chks (bcond (decide (((m + (pnS O rows i).length : Nat) : Int) > 200)) (some (.ret, rtPn1 rows (m + (pnS O rows i).length) (acc ++ pnS O rows i))) (some (.normal, stPn1 n rows (W (i + 1)) (m + (pnS O rows i).length) (acc ++ pnS O rows i))))
  [wrB O (sR rows i), decide (acc.length = m ∧ m + (pnS O rows i).length ≤ 1000000)]
def pnG : Option (Ex × PState) := bcond (decide (i > 0)) (chks (bcond (parF O (kR rows (W (i - 1))) (sR rows (W (i - 1))) (kR rows i) (sR rows i)) (chks (pnW O n rows i (m + 1) (acc ++ [32])) [decide (acc.length = m ∧ m + 1 ≤ 1000000)]) (pnW O n rows i m acc)) (b2 (W (i - 1)) n rows ++ [wrB O (sR rows i)])) (pnW O n rows i m acc)
/-- One round, by what it comes to where the piece can stand, and where it can't. -/
def pnR (bad good : Option (Ex × PState)) : Option (Ex × PState) :=
  chks (bcond (!pieF T O (kR rows i) (sR rows i)) bad (bcond (kR rows i == 7) (bcond (W (i + 1) == (n : Int)) bad (chks (bcond (!isB (kR rows (W (i + 1))) (sR rows (W (i + 1))) [40]) bad good) (b2 (W (i + 1)) n rows))) good)) (b2 i n rows ++ [wrB O (sR rows i)])
theorem roundPn1 : code (ent (R := Ex × PState) Tryz.prog (tabPn O T) nolv 64 1 20) Tryz.prog {} 1 64 1 loopPn (stPn1 n rows i m acc) (endK 1 64 (fun n => hasN [0, 4, 7, 8, 9] n) (fun n => hasN [2, 3, 4] n)) =
  bcond (decide (i < (n : Int))) (pnR O T n rows i (some (.ret, rtPn1 rows m acc)) (pnG O n rows i m acc)) (some (.exit 0, okPn1 rows m acc)) := by kernel_rfl
def pnW0 : Option (Ex × PState) := chks (bcond (decide (((pnS O rows 0).length : Int) > 200)) (some (.ret, rtPn1 rows (pnS O rows 0).length (pnS O rows 0))) (some (.normal, stPn1 n rows (W (0 + 1)) (pnS O rows 0).length (pnS O rows 0))))
  [wrB O (sR rows 0), decide (0 < (pnS O rows 0).length ∧ (pnS O rows 0).length ≤ 1000000)]
theorem roundPn0 : code (ent (R := Ex × PState) Tryz.prog (tabPn O T) nolv 64 1 20) Tryz.prog {} 1 64 1 loopPn (stPn0 n rows 0) (endK 1 64 (fun n => hasN [0, 4, 7, 8, 9] n) (fun n => hasN [2, 3, 4] n)) =
  bcond (decide (0 < (n : Int))) (pnR O T n rows 0 (some (.ret, rtPn0 rows)) (pnW0 O n rows)) (some (.exit 0, okPn0 rows)) := by kernel_rfl
end
end Go.Proofs.YtebieapmoaaahaaGreatDoor

/- Layer 4: lex.Print: the contract. -/
set_option linter.unusedVariables false
set_option linter.unusedSimpArgs false
namespace Go.Proofs.YtebieapmoaaahaaGreatDoor
open Go Sx
def tkOf (r : List CV) : Tk := ⟨(rowCV r 0).n, (rowCV r 1).s, (rowCV r 2).n⟩
theorem tkOf_row : ∀ L : List Tk, (L.map Tk.row).map tkOf = L
  | [] => rfl
  | t :: L => by rw [List.map_cons, List.map_cons, tkOf_row L]; rfl
section
variable {rows : List (List CV)} {i : Nat}
theorem at_R (h : i < rows.length) : kR rows i = (tkOf rows[i]).k ∧ sR rows i = (tkOf rows[i]).s := by
  have e : Sx.rowAt rows ((i : Int)).toNat = rows[i] := by
    unfold Sx.rowAt; rw [Int.toNat_natCast, List.getD_eq_getElem?_getD, List.getElem?_eq_getElem h]; rfl
  unfold kR sR
  rw [e]; exact ⟨rfl, rfl⟩
theorem b2_R (h : i < rows.length) : ∀ b ∈ b2 (i : Int) rows.length rows, b = true := by
  intro b hb
  simp only [List.mem_cons, List.not_mem_nil, or_false] at hb
  rcases hb with rfl | rfl
  · exact decide_eq_true (by omega)
  · unfold rR; rw [Bool.and_true, Bool.and_true]; exact decide_eq_true (by simpa using h)
/-- Texts short enough. -/
def shB (rows : List (List CV)) : Bool := rows.all fun r => Nat.ble (rowCV r 1).s.length 1000
theorem wr_short {t : Tk} (h : t.s.length ≤ 1000) : wrB lxo t.s = true ∧ (wrt t).length ≤ 2002 := by
  have hd := dblQ_len t.s
  refine ⟨decide_eq_true ⟨h, ?_⟩, ?_⟩
  · show (Lib.replaceAll t.s [34] [34, 34]).length ≤ _
    rw [ra_dbl]; omega
  · by_cases h2 : t.k = 2
    · rw [wrt_two h2]; simp only [List.length_cons, List.length_append, List.length_nil]; omega
    · rw [wrt_not h2]; omega
theorem sh_at (hs : shB rows = true) (h : i < rows.length) : (tkOf rows[i]).s.length ≤ 1000 := Nat.le_of_ble_eq_true (List.all_eq_true.1 hs _ (List.getElem_mem h))
theorem drop_R (h : i < rows.length) : (rows.map tkOf).drop i = tkOf rows[i] :: (rows.map tkOf).drop (i + 1) := by
  rw [List.drop_eq_getElem_cons (by rw [List.length_map]; exact h), List.getElem_map]
theorem pnR_ok (hs : shB rows = true) (hl : rows.length ≤ 100000) (h : i < rows.length) (bad good : Option (Ex × PState)) :
    pnR lxo lxt rows.length rows i bad good = bcond (pieB (tkOf rows[i]) && ((tkOf rows[i]).k != 7 || hdS ((rows.map tkOf).drop (i + 1)))) good bad := by
  obtain ⟨e1, e2⟩ := at_R h
  have hw : W ((i : Int) + 1) = ((i + 1 : Nat) : Int) := i64_in (by omega) (by omega)
  unfold pnR
  rw [chks_true (all_app (b2_R h) (all_one (by rw [e2]; exact (wr_short (sh_at hs h)).1))), e1, e2, hw]
  show bcond (!pieB (tkOf rows[i])) _ _ = _
  cases pieB (tkOf rows[i]) with
  | false => rfl
  | true =>
    show bcond ((tkOf rows[i]).k == 7) _ _ = bcond ((tkOf rows[i]).k != 7 || _) _ _
    unfold bne
    cases (tkOf rows[i]).k == 7 with
    | false => rfl
    | true =>
      show bcond _ _ _ = bcond (hdS ((rows.map tkOf).drop (i + 1))) _ _
      by_cases h1 : i + 1 = rows.length
      · rw [bcT (b := ((i + 1 : Nat) : Int) == (rows.length : Int)) (beq_iff_eq.2 (by omega)), List.drop_of_length_le (by rw [List.length_map]; omega)]; rfl
      · have h2 : i + 1 < rows.length := by omega
        obtain ⟨e3, e4⟩ := at_R h2
        rw [bcF (b := ((i + 1 : Nat) : Int) == (rows.length : Int)) (beq_f (by omega)), chks_true (b2_R h2), e3, e4, drop_R h2]
        show _ = bcond (isB (tkOf rows[i + 1]).k (tkOf rows[i + 1]).s [40]) _ _
        cases isB (tkOf rows[i + 1]).k (tkOf rows[i + 1]).s [40] <;> rfl
end
def accOf (B : Option (List UInt8)) : List UInt8 := match B with | none => [] | some a => a
def stPt (rows : List (List CV)) (i : Nat) (B : Option (List UInt8)) : PState := match B with | none => stPn0 rows.length rows i | some a => stPn1 rows.length rows i a.length a
def rtPt (rows : List (List CV)) (B : Option (List UInt8)) : PState := match B with | none => rtPn0 rows | some a => rtPn1 rows a.length a
def okPt (rows : List (List CV)) (B : Option (List UInt8)) : PState := match B with | none => okPn0 rows | some a => okPn1 rows a.length a
def prevR (rows : List (List CV)) : Nat → Option Tk
  | 0 => none
  | j + 1 => (rows.map tkOf)[j]?
def nxA (B : Option (List UInt8)) (p : Option Tk) (t : Tk) : List UInt8 := accOf B ++ List.replicate (gapN p t) 32 ++ wrt t
theorem pn_round {rows : List (List CV)} {i : Nat} (hs : shB rows = true) (hl : rows.length ≤ 100000) (h : i < rows.length) {B : Option (List UInt8)} (h0 : i = 0 ↔ B = none) (ha : (accOf B).length ≤ 200) :
    code (ent (R := Ex × PState) Tryz.prog (tabPn lxo lxt) nolv 64 1 20) Tryz.prog {} 1 64 1 loopPn (stPt rows i B) (endK 1 64 (fun n => hasN [0, 4, 7, 8, 9] n) (fun n => hasN [2, 3, 4] n)) =
    bcond (pieB (tkOf rows[i]) && ((tkOf rows[i]).k != 7 || hdS ((rows.map tkOf).drop (i + 1)))) (bcond (decide ((nxA B (prevR rows i) (tkOf rows[i])).length > 200)) (some (.ret, rtPt rows (some (nxA B (prevR rows i) (tkOf rows[i]))))) (some (.normal, stPt rows (i + 1) (some (nxA B (prevR rows i) (tkOf rows[i])))))) (some (.ret, rtPt rows B)) := by
  obtain ⟨e1, e2⟩ := at_R h
  have hw : W ((i : Int) + 1) = ((i + 1 : Nat) : Int) := i64_in (by omega) (by omega)
  obtain ⟨s1, s2⟩ := wr_short (sh_at hs h)
  have hS : pnS lxo rows i = wrt (tkOf rows[i]) := by unfold pnS; rw [e1, e2]; rfl
  cases B with
  | none =>
    obtain rfl := h0.2 rfl
    refine (roundPn0 lxo lxt rows.length rows).trans ?_
    rw [bcT (b := decide ((0 : Int) < (rows.length : Int))) (decide_eq_true (by omega))]
    refine (pnR_ok hs hl h _ _).trans ?_
    cases hc : pieB (tkOf rows[0]) && ((tkOf rows[0]).k != 7 || hdS ((rows.map tkOf).drop (0 + 1))) with
    | false => rfl
    | true =>
      simp only [Bool.and_eq_true] at hc
      have hne := pie_ne hc.1
      have hpos : 0 < (wrt (tkOf rows[0])).length := by
        cases hw0 : wrt (tkOf rows[0]) with
        | nil => exact absurd hw0 hne
        | cons a b => simp
      have hS0 : pnS lxo rows 0 = wrt (tkOf rows[0]) := hS
      show pnW0 lxo rows.length rows = _
      unfold pnW0
      rw [hS0, chks_true (all_cons (by show wrB lxo (sR rows ((0 : Nat) : Int)) = true; rw [e2]; exact s1) (all_one (decide_eq_true ⟨hpos, by omega⟩)))]
      have hd : decide ((((wrt (tkOf rows[0])).length : Nat) : Int) > 200) = decide ((wrt (tkOf rows[0])).length > 200) := by
        by_cases h2 : (wrt (tkOf rows[0])).length > 200
        · rw [decide_eq_true h2, decide_eq_true (by omega)]
        · rw [decide_eq_false h2, decide_eq_false (by omega)]
      rw [hd]; rfl
  | some acc =>
    have hi : i ≠ 0 := fun e => by have := h0.1 e; cases this
    have ha : acc.length ≤ 200 := ha
    refine (roundPn1 lxo lxt rows.length rows i acc.length acc).trans ?_
    rw [bcT (b := decide ((i : Int) < (rows.length : Int))) (decide_eq_true (by omega))]
    refine (pnR_ok hs hl h _ _).trans ?_
    obtain ⟨j, rfl⟩ : ∃ j, i = j + 1 := ⟨i - 1, by omega⟩
    have hj : j < rows.length := by omega
    have hpv : prevR rows (j + 1) = some (tkOf rows[j]) := by
      show (rows.map tkOf)[j]? = _
      rw [List.getElem?_map, List.getElem?_eq_getElem hj]; rfl
    obtain ⟨e3, e4⟩ := at_R hj
    have hwj : W (((j + 1 : Nat) : Int) - 1) = ((j : Nat) : Int) := by
      show IntKind.i64.wrap _ = _
      rw [i64_in (by omega) (by omega)]; omega
    have key : ∀ (a : List UInt8), a.length ≤ 1000 → pnW lxo rows.length rows ((j + 1 : Nat) : Int) a.length a = bcond (decide ((a ++ wrt (tkOf rows[j + 1])).length > 200)) (some (.ret, rtPt rows (some (a ++ wrt (tkOf rows[j + 1]))))) (some (.normal, stPt rows (j + 1 + 1) (some (a ++ wrt (tkOf rows[j + 1]))))) := fun a hal => by
      unfold pnW
      rw [hS, hw, e2, chks_true (all_cons s1 (all_one (decide_eq_true ⟨rfl, by omega⟩)))]
      have hd : decide (((a.length + (wrt (tkOf rows[j + 1])).length : Nat) : Int) > 200) = decide ((a ++ wrt (tkOf rows[j + 1])).length > 200) := by
        rw [List.length_append]
        by_cases h2 : a.length + (wrt (tkOf rows[j + 1])).length > 200
        · rw [decide_eq_true h2, decide_eq_true (by omega)]
        · rw [decide_eq_false h2, decide_eq_false (by omega)]
      have hln : a.length + (wrt (tkOf rows[j + 1])).length = (a ++ wrt (tkOf rows[j + 1])).length := by rw [List.length_append]
      rw [hd]
      unfold rtPt stPt
      simp only [hln]
    have hG : pnG lxo rows.length rows ((j + 1 : Nat) : Int) acc.length acc = bcond (decide ((nxA (some acc) (some (tkOf rows[j])) (tkOf rows[j + 1])).length > 200)) (some (.ret, rtPt rows (some (nxA (some acc) (some (tkOf rows[j])) (tkOf rows[j + 1]))))) (some (.normal, stPt rows (j + 1 + 1) (some (nxA (some acc) (some (tkOf rows[j])) (tkOf rows[j + 1]))))) := by
      unfold pnG
      rw [bcT (b := decide (((j + 1 : Nat) : Int) > 0)) (decide_eq_true (by omega)), hwj, chks_true (all_app (b2_R hj) (all_one (by rw [e2]; exact s1))), e1, e2, e3, e4]
      show bcond (parB (tkOf rows[j]) (tkOf rows[j + 1])) _ _ = (fun A : List UInt8 => bcond (decide (A.length > 200)) (some (Ex.ret, rtPt rows (some A))) (some (Ex.normal, stPt rows (j + 1 + 1) (some A)))) (acc ++ List.replicate (bcond (parB (tkOf rows[j]) (tkOf rows[j + 1])) 1 0) 32 ++ wrt (tkOf rows[j + 1]))
      cases parB (tkOf rows[j]) (tkOf rows[j + 1]) with
      | false =>
        have hz : acc ++ List.replicate (bcond false 1 0) 32 = acc := List.append_nil acc
        refine Eq.trans ?_ (by rw [hz])
        exact key acc (by omega)
      | true =>
        show chks (pnW lxo rows.length rows ((j + 1 : Nat) : Int) (acc.length + 1) (acc ++ [32])) _ = _
        have hz : acc ++ List.replicate (bcond true 1 0) 32 = acc ++ [32] := rfl
        have hk := key (acc ++ [32]) (by simp; omega)
        rw [List.length_append] at hk
        have hk : pnW lxo rows.length rows ((j + 1 : Nat) : Int) (acc.length + 1) (acc ++ [32]) = _ := hk
        refine (chks_true (all_one (decide_eq_true ⟨rfl, by omega⟩))).trans (hk.trans ?_)
        rw [hz]
    rw [hG, hpv]; rfl
/-- What the rounds come to. -/
def prX (rows : List (List CV)) : Option Tk → Option (List UInt8) → List Tk → Ex × PState
  | _, B, [] => (.exit 0, okPt rows B)
  | p, B, t :: r => bcond (pieB t && (t.k != 7 || hdS r)) (bcond (decide ((nxA B p t).length > 200)) (.ret, rtPt rows (some (nxA B p t))) (prX rows (some t) (some (nxA B p t)) r)) (.ret, rtPt rows B)
theorem prX_ne (rows : List (List CV)) : ∀ (L : List Tk) (p : Option Tk) (B : Option (List UInt8)), (prX rows p B L).1 ≠ .normal
  | [], p, B => by simp [prX]
  | t :: r, p, B => by
    rw [prX]
    cases pieB t && (t.k != 7 || hdS r) with
    | false => simp [bcond]
    | true => cases decide ((nxA B p t).length > 200) with
      | true => simp [bcond]
      | false => exact prX_ne rows r _ _
theorem printL_ok {rows : List (List CV)} (hs : shB rows = true) (hl : rows.length ≤ 100000) : Tri Tryz.prog (.loop loopPn) (stPt rows 0 none).toA (prX rows none none (rows.map tkOf)).1 (prX rows none none (rows.map tkOf)).2.toA 1 := by
  refine loop_rounds (ι := { x : Nat × Option (List UInt8) // x.1 ≤ rows.length ∧ (x.1 = 0 ↔ x.2 = none) ∧ (accOf x.2).length ≤ 200 }) (ent_sound (NF := 64) (m := 1) tabPn_ok host nolv_ok 20) (lv := {}) (NF := 64) (m := 1) no_loops (fun n => hasN [0, 4, 7, 8, 9] n) (fun n => hasN [2, 3, 4] n)
    (fun x => stPt rows x.1.1 x.1.2) (fun x => rows.length - x.1.1) (fun x => prX rows (prevR rows x.1.1) x.1.2 ((rows.map tkOf).drop x.1.1)) ?_ (fun x => prX_ne rows _ _ _) ⟨(0, none), by simp [accOf]⟩
  rintro ⟨⟨i, B⟩, h1, h2, h3⟩
  simp only at h1 h2 h3 ⊢
  by_cases h : i < rows.length
  · rw [pn_round hs hl h h2 h3, drop_R h, prX]
    cases pieB (tkOf rows[i]) && ((tkOf rows[i]).k != 7 || hdS ((rows.map tkOf).drop (i + 1))) with
    | false => exact .inr rfl
    | true =>
      by_cases h4 : (nxA B (prevR rows i) (tkOf rows[i])).length > 200
      · rw [decide_eq_true h4]; exact .inr rfl
      · rw [decide_eq_false h4]
        refine .inl ⟨⟨(i + 1, some (nxA B (prevR rows i) (tkOf rows[i]))), by show i + 1 ≤ _; omega, ⟨fun e => by simp at e, fun e => by cases e⟩, by show (nxA B (prevR rows i) (tkOf rows[i])).length ≤ 200; omega⟩, by simp only; omega, ?_, rfl⟩
        have hpv : prevR rows (i + 1) = some (tkOf rows[i]) := by
          show (rows.map tkOf)[i]? = _
          rw [List.getElem?_map, List.getElem?_eq_getElem h]; rfl
        simp only [hpv]; rfl
  · have hi : i = rows.length := by omega
    rw [List.drop_of_length_le (by rw [List.length_map]; omega), prX]
    right
    cases B with
    | none =>
      have hi0 := h2.2 rfl
      subst hi0
      refine (roundPn0 lxo lxt rows.length rows).trans ?_
      rw [bcF (b := decide ((0 : Int) < (rows.length : Int))) (decide_eq_false (by omega))]; rfl
    | some acc =>
      refine (roundPn1 lxo lxt rows.length rows i acc.length acc).trans ?_
      rw [bcF (b := decide ((i : Int) < (rows.length : Int))) (decide_eq_false (by omega))]; rfl
def faB : Option Tk → Option (List UInt8) → List Tk → Option (List UInt8)
  | _, B, [] => B
  | p, B, t :: r => bcond (pieB t && (t.k != 7 || hdS r)) (bcond (decide ((nxA B p t).length > 200)) (some (nxA B p t)) (faB (some t) (some (nxA B p t)) r)) B
theorem prX_eq (rows : List (List CV)) : ∀ (L : List Tk) (p : Option Tk) (acc : List UInt8), acc.length ≤ 200 → prX rows p (some acc) L = bcond (goodL L && decide ((acc ++ gT (gaps p L) 0).length ≤ 200)) (.exit 0, okPt rows (some (acc ++ gT (gaps p L) 0))) (.ret, rtPt rows (faB p (some acc) L))
  | [], p, acc, h => by
    have e : acc ++ gT (gaps p []) 0 = acc := List.append_nil acc
    rw [e, decide_eq_true h]; rfl
  | t :: r, p, acc, h => by
    have e : acc ++ gT (gaps p (t :: r)) 0 = nxA (some acc) p t ++ gT (gaps (some t) r) 0 := by
      rw [gaps, gT, nxA]; simp only [List.append_assoc]; rfl
    rw [e, prX, faB, goodL, ← Bool.and_assoc]
    cases h1 : pieB t && (t.k != 7 || hdS r) with
    | false => rfl
    | true =>
      rw [Bool.true_and]
      by_cases h2 : (nxA (some acc) p t).length > 200
      · have h3 : decide ((nxA (some acc) p t ++ gT (gaps (some t) r) 0).length ≤ 200) = false := decide_eq_false (by rw [List.length_append]; omega)
        rw [decide_eq_true h2, h3, Bool.and_false]; rfl
      · rw [decide_eq_false h2]
        exact prX_eq rows r (some t) _ (by omega)
theorem prX_all (rows : List (List CV)) {L : List Tk} (hL : L ≠ []) : prX rows none none L = bcond (okL L) (.exit 0, okPt rows (some (prS L))) (.ret, rtPt rows (faB none none L)) := by
  cases L with
  | nil => exact absurd rfl hL
  | cons t r =>
    have e : prS (t :: r) = nxA none none t ++ gT (gaps (some t) r) 0 := by
      unfold prS
      rw [gaps, gT, nxA]; simp only [List.append_assoc]; rfl
    unfold okL
    rw [e, prX, faB, goodL, ← Bool.and_assoc]
    cases h1 : pieB t && (t.k != 7 || hdS r) with
    | false => rfl
    | true =>
      rw [Bool.true_and]
      by_cases h2 : (nxA none none t).length > 200
      · have h3 : decide ((nxA none none t ++ gT (gaps (some t) r) 0).length ≤ 200) = false := decide_eq_false (by rw [List.length_append]; omega)
        rw [decide_eq_true h2, h3, Bool.and_false]; rfl
      · rw [decide_eq_false h2]
        exact prX_eq rows r (some t) _ (by omega)
def faS (rows : List (List CV)) : List UInt8 := (faB none none (rows.map tkOf)).getD []
def lansPn (rows : List (List CV)) : LAns := .chk (decide (rows.length ≤ 100000)) (.chk (Nat.blt 0 rows.length) (.chk (shB rows) (.br (okL (rows.map tkOf)) (.out (.exit 0) (okPn1 rows (prS (rows.map tkOf)).length (prS (rows.map tkOf)))) (.br (faB none none (rows.map tkOf)).isSome (.out .ret (rtPn1 rows (faS rows).length (faS rows))) (.out .ret (rtPn0 rows))))))
theorem lansPn_ok (rows : List (List CV)) : LAnsOK Tryz.prog loopPn 1 (stPn0 rows.length rows 0) (lansPn rows) := by
  refine ⟨fun h1 => ⟨fun h2 => ⟨fun h3 => ?_, fun _ => trivial⟩, fun _ => trivial⟩, fun _ => trivial⟩
  have hne : rows.map tkOf ≠ [] := fun e => by
    have := congrArg List.length e
    rw [List.length_map] at this
    simp at this
    rw [this] at h2; cases h2
  have key := printL_ok h3 (of_decide_eq_true h1)
  rw [prX_all rows hne] at key
  refine ⟨fun g => ?_, fun g => ?_⟩
  · rw [g] at key; exact key
  · rw [g] at key
    refine ⟨fun g2 => ?_, fun g2 => ?_⟩
    · obtain ⟨a, hf⟩ := Option.isSome_iff_exists.1 g2
      have e : faS rows = a := by unfold faS; rw [hf]; rfl
      rw [e]; rw [hf] at key; exact key
    · have hf : faB none none (rows.map tkOf) = none := by
        cases hb : faB none none (rows.map tkOf) with
        | none => rfl
        | some a => rw [hb] at g2; cases g2
      rw [hf] at key; exact key
noncomputable def lvPn (rows : List (List CV)) : FuncId → Lv := lvOf 11 (fun _ => some [0, 4, 7, 8, 9]) (oneL 3 (eAt 1 (stPn0 rows.length rows 0) (lansPn rows)))
theorem lvPn_ok (rows : List (List CV)) : LvOK Tryz.prog (lvPn rows) := lvOne_ok (x := loopPn) Tryz.func11 (by kernel_rfl) fun K t => eAt_ok (lansPn_ok rows) K t
def tupP (s : List UInt8) (e : Int) : AV := .tuple [.str s, .int .i64 e]
theorem print_comes (rows : List (List CV)) : Comes (tabPn lxo lxt) (lvPn rows) 11 [.vec 0 rows.length] [tokO rows] (.br (eqSt (stPn0 rows.length rows 0) (stPn0 rows.length rows 0)) (.br (decide (rows.length ≤ 100000)) (.br (Nat.blt 0 rows.length) (.br (shB rows)
    (.br (okL (rows.map tkOf)) (.br (decide (0 < (prS (rows.map tkOf)).length ∧ (prS (rows.map tkOf)).length = (prS (rows.map tkOf)).length ∧ (prS (rows.map tkOf)).length ≤ 1000000)) (.ret (tupP (prS (rows.map tkOf)) 0) [tokO rows]) .fail) (.br (faB none none (rows.map tkOf)).isSome (.ret (tupP [] 40) [tokO rows]) (.ret (tupP [] 40) [tokO rows]))) .fail) .fail) .fail) .fail) := by unfold Comes; kernel_rfl
theorem print_nil : Comes tab0 nolv 11 [.nilslice] [] (.ret (tupP [] 0) []) := by unfold Comes; kernel_rfl
def vsT (rows : List (List CV)) (o : Nat) : Tk := tkOf (Sx.rowAt rows o)
def vsA (T : LxT) (O : LxO) (rows : List (List CV)) (o : Nat) : Ans :=
  .br (decide (o < rows.length) && true && true) (.br (wrB O (vsT rows o).s) (.br (!pieF T O (vsT rows o).k (vsT rows o).s) (.ret (tupP [] 40) [tokO rows]) (.br ((vsT rows o).k == 7) (.ret (tupP [] 40) [tokO rows])
    (.br (wrB O (vsT rows o).s) (.br (decide (0 < (wrO O (vsT rows o).k (vsT rows o).s).length ∧ (wrO O (vsT rows o).k (vsT rows o).s).length ≤ 1000000)) (.br (decide (((wrO O (vsT rows o).k (vsT rows o).s).length : Int) > 200)) (.ret (tupP [] 40) [tokO rows])
      (.br (decide (0 < (wrO O (vsT rows o).k (vsT rows o).s).length ∧ (wrO O (vsT rows o).k (vsT rows o).s).length = (wrO O (vsT rows o).k (vsT rows o).s).length ∧ (wrO O (vsT rows o).k (vsT rows o).s).length ≤ 1000000)) (.ret (tupP (wrO O (vsT rows o).k (vsT rows o).s) 0) [tokO rows]) .fail)) .fail) .fail))) .fail) .fail
theorem print_vsl (T : LxT) (O : LxO) (rows : List (List CV)) (o : Nat) : Comes (tabPn O T) nolv 11 [.vsl 0 3 o 1] [tokO rows] (vsA T O rows o) := by unfold Comes; kernel_rfl
structure PrF where
  s : List (List CV) → List UInt8
  e : List (List CV) → Int
def prf : PrF := ⟨fun rows => bcond (okL (rows.map tkOf)) (prS (rows.map tkOf)) [], fun rows => bcond (okL (rows.map tkOf)) 0 40⟩
def ePrt (F : PrF) : Ent := fun args pre => match args, pre with
  | [.nilslice], [] => .ret (tupP [] 0) []
  | [.vec 0 n], [.vecR [.int .i64, .str, .int .i64] rows t] => .chk (Nat.beq t 25) (.chk (Nat.beq n rows.length) (.chk (decide (rows.length ≤ 100000)) (.chk (Nat.blt 0 rows.length) (.chk (shB rows) (.ret (tupP (F.s rows) (F.e rows)) [tokO rows])))))
  | [.vsl 0 w o n], [.vecR [.int .i64, .str, .int .i64] rows t] => .chk (Nat.beq t 25) (.chk (Nat.beq w 3) (.chk (Nat.beq n 1) (.chk (Nat.blt o rows.length) (.chk (shB rows) (.ret (tupP (F.s [Sx.rowAt rows o]) (F.e [Sx.rowAt rows o])) [tokO rows])))))
  | _, _ => .fail
theorem prS_pos {L : List Tk} (h : okL L = true) (hL : L ≠ []) : 0 < (prS L).length ∧ (prS L).length ≤ 200 := by
  unfold okL at h
  rw [Bool.and_eq_true, decide_eq_true_eq] at h
  refine ⟨?_, h.2⟩
  cases L with
  | nil => exact absurd rfl hL
  | cons t r =>
    have h1 := h.1
    rw [goodL, Bool.and_eq_true] at h1
    have hne := pie_ne h1.1
    unfold prS
    rw [gaps, gT]
    cases hw : wrt t with
    | nil => exact absurd hw hne
    | cons a b => simp only [List.length_append, List.length_cons]; omega
theorem prS_one (t : Tk) : prS [t] = wrt t := by
  show List.replicate 0 32 ++ (wrt t ++ List.replicate 0 32) = wrt t
  simp
theorem vs_run {rows : List (List CV)} {o : Nat} (ho : o < rows.length) (hs : shB rows = true) : (vsA lxt lxo rows o).run pure2 = pure2 (tupP (prf.s [Sx.rowAt rows o]) (prf.e [Sx.rowAt rows o])) [tokO rows] := by
  have e : Sx.rowAt rows o = rows[o] := by
    unfold Sx.rowAt; rw [List.getD_eq_getElem?_getD, List.getElem?_eq_getElem ho]; rfl
  have hsh := sh_at hs ho
  have hT : vsT rows o = tkOf rows[o] := by unfold vsT; rw [e]
  have hP : prf.s [Sx.rowAt rows o] = bcond (okL [tkOf rows[o]]) (prS [tkOf rows[o]]) [] ∧ prf.e [Sx.rowAt rows o] = bcond (okL [tkOf rows[o]]) 0 40 := by rw [e]; exact ⟨rfl, rfl⟩
  obtain ⟨s1, s2⟩ := wr_short hsh
  unfold vsA
  rw [hT, hP.1, hP.2]
  generalize tkOf rows[o] = t at s1 s2 hsh ⊢
  have hk : okL [t] = (pieB t && (t.k != 7) && decide ((wrt t).length ≤ 200)) := by
    unfold okL
    rw [prS_one]
    show (pieB t && ((t.k != 7 || false) && true) && _) = _
    rw [Bool.or_false, Bool.and_true]
  rw [hk, prS_one]
  have hb : (decide (o < rows.length) && true && true) = true := by rw [Bool.and_true, Bool.and_true]; exact decide_eq_true ho
  rw [hb, s1]
  show bcond true (bcond true (bcond (!pieB t) (pure2 (tupP [] 40) [tokO rows]) (bcond (t.k == 7) (pure2 (tupP [] 40) [tokO rows]) (bcond true (bcond (decide (0 < (wrt t).length ∧ (wrt t).length ≤ 1000000)) (bcond (decide (((wrt t).length : Int) > 200)) (pure2 (tupP [] 40) [tokO rows]) (bcond (decide (0 < (wrt t).length ∧ (wrt t).length = (wrt t).length ∧ (wrt t).length ≤ 1000000)) (pure2 (tupP (wrt t) 0) [tokO rows]) none)) none) none))) none) none = _
  cases h1 : pieB t with
  | false => rfl
  | true =>
    have hpos : 0 < (wrt t).length := by
      cases hw0 : wrt t with
      | nil => exact absurd hw0 (pie_ne h1)
      | cons a b => simp
    unfold bne
    cases t.k == 7 with
    | true => rfl
    | false =>
      rw [bcT (b := decide (0 < (wrt t).length ∧ (wrt t).length ≤ 1000000)) (decide_eq_true ⟨hpos, by omega⟩), bcT (b := decide (0 < (wrt t).length ∧ (wrt t).length = (wrt t).length ∧ (wrt t).length ≤ 1000000)) (decide_eq_true ⟨hpos, rfl, by omega⟩)]
      by_cases h2 : (wrt t).length ≤ 200
      · rw [decide_eq_true h2, bcF (b := decide (((wrt t).length : Int) > 200)) (decide_eq_false (by omega))]; rfl
      · rw [decide_eq_false h2, bcT (b := decide (((wrt t).length : Int) > 200)) (decide_eq_true (by omega))]; rfl
theorem print_ok : EntOK Tryz.prog 11 (ePrt prf) := fun args pre => by
  unfold ePrt
  split
  · exact ans_comes tab0_ok print_nil
  · rename_i n rows t
    refine ⟨fun g1 => ⟨fun g2 => ⟨fun g3 => ⟨fun g4 => ⟨fun g5 => ?_, fun _ => trivial⟩, fun _ => trivial⟩, fun _ => trivial⟩, fun _ => trivial⟩, fun _ => trivial⟩
    obtain rfl := Nat.eq_of_beq_eq_true g1
    obtain rfl := Nat.eq_of_beq_eq_true g2
    refine of_run (ans_comes tabPn_ok (print_comes rows) (lvPn_ok rows)) fun r h => ?_
    rw [← h]
    simp only [Ans.run, prf]
    rw [bcT (eqSt_refl _), bcT g3, bcT g4, bcT g5]
    cases hk : okL (rows.map tkOf) with
    | false => cases (faB none none (rows.map tkOf)).isSome <;> rfl
    | true =>
      have hne : rows.map tkOf ≠ [] := fun e => by
        have := congrArg List.length e
        rw [List.length_map] at this
        simp at this
        rw [this] at g4; cases g4
      obtain ⟨p1, p2⟩ := prS_pos hk hne
      rw [bcT (b := decide (0 < (prS (rows.map tkOf)).length ∧ True ∧ (prS (rows.map tkOf)).length ≤ 1000000)) (decide_eq_true ⟨p1, trivial, by omega⟩)]; rfl
  · rename_i w o n rows t
    refine ⟨fun g1 => ⟨fun g2 => ⟨fun g3 => ⟨fun g4 => ⟨fun g5 => ?_, fun _ => trivial⟩, fun _ => trivial⟩, fun _ => trivial⟩, fun _ => trivial⟩, fun _ => trivial⟩
    obtain rfl := Nat.eq_of_beq_eq_true g1
    obtain rfl := Nat.eq_of_beq_eq_true g2
    obtain rfl := Nat.eq_of_beq_eq_true g3
    refine of_run (ans_comes tabPn_ok (print_vsl lxt lxo rows o)) fun r h => ?_
    rw [← h, vs_run (by simpa using g4) g5]; rfl
  · trivial
end Go.Proofs.YtebieapmoaaahaaGreatDoor

/- Layer 4: the law of what is told back: its parts. -/
set_option linter.unusedVariables false
set_option linter.unusedSimpArgs false
namespace Go.Proofs.YtebieapmoaaahaaGreatDoor
open Go Sx
/-- Pieces that are told without error; lists that are the same: checked, not asked. -/
def eTokZ (T : LxT) : Ent := fun args pre => match args, pre with
  | [.str s], [] => .chk (T.e s == 0) (.br (T.L s).isEmpty (.ret (tupN 0 0) []) (.ret (tupV (T.L s).length 0 0) [tokO ((T.L s).map Tk.row)]))
  | _, _ => .fail
theorem tokN_z {s : List UInt8} (h : tokE s = 0) : tokN s = 0 := by
  obtain ⟨h1, h2⟩ := tok_none h
  exact (tok_of h1 h2).2.1
theorem tokensZ_ok : EntOK Tryz.prog 17 (eTokZ lxt) := fun args pre => by
  unfold eTokZ
  split
  · rename_i s
    refine ⟨fun g => ?_, fun _ => trivial⟩
    have h := tokens_ok [.str s] []
    unfold eTok at h
    simp only at h
    have he : lxt.e s = 0 := beq_iff_eq.1 g
    have hn : lxt.n s = 0 := tokN_z he
    rw [he, hn] at h
    exact h
  · trivial
def eSmT (F : SmF) : Ent := fun args pre => match args, pre with
  | [.nilslice, .nilslice], [] => .ret (.bool true) []
  | [.vec 0 n, .vec 1 m], [.vecR [.int .i64, .str, .int .i64] A t, .vecR [.int .i64, .str, .int .i64] B u] => .chk (Nat.beq t 25) (.chk (Nat.beq u 25) (.chk (Nat.beq n A.length) (.chk (Nat.beq m B.length) (.chk (decide (n ≤ 1000)) (.chk (F.r A B) (.ret (.bool true) [tokO A, tokO B]))))))
  | _, _ => .fail
theorem sameT_ok : EntOK Tryz.prog 18 (eSmT smf) := fun args pre => by
  unfold eSmT
  split
  · exact same_ok [.nilslice, .nilslice] []
  · rename_i n m A t B u
    refine ⟨fun g1 => ⟨fun g2 => ⟨fun g3 => ⟨fun g4 => ⟨fun g5 => ⟨fun g6 => ?_, fun _ => trivial⟩, fun _ => trivial⟩, fun _ => trivial⟩, fun _ => trivial⟩, fun _ => trivial⟩, fun _ => trivial⟩
    have h := same_ok [.vec 0 n, .vec 1 m] [.vecR [.int .i64, .str, .int .i64] A t, .vecR [.int .i64, .str, .int .i64] B u]
    unfold eSm at h
    simp only at h
    have h := ((((h.1 g1).1 g2).1 g3).1 g4).1 g5
    rw [g6] at h
    exact h
  · trivial
def tabB2 (T : LxT) (S : SmF) : Tab := (17, eTokZ T) :: (18, eSmT S) :: tab0
theorem tabB2_ok : TabOK Tryz.prog (tabB2 lxt smf) := .cons tokensZ_ok (.cons sameT_ok tab0_ok)
structure Bk where
  a : List UInt8
  b : List UInt8
  s : List UInt8
  X : List Tk
  Y : List Tk
  t : List UInt8
  u : List UInt8
  e : Int
  f : Int
end Go.Proofs.YtebieapmoaaahaaGreatDoor

/- Layer 4: the law of what is told back: its parts, told. -/
set_option linter.unusedVariables false
set_option linter.unusedSimpArgs false
namespace Go.Proofs.YtebieapmoaaahaaGreatDoor
open Go Sx
abbrev rwL (L : List Tk) : List (List CV) := L.map Tk.row
/-- What Same wants of two. -/
abbrev smC (S : SmF) (L M : List Tk) : List Bool := [Nat.beq L.length (rwL L).length, Nat.beq M.length (rwL M).length, decide (L.length ≤ 1000), S.r (rwL L) (rwL M)]
section
variable (T : LxT) (F : PcsF) (P : PrF) (S : SmF) (a b s : List UInt8) (d : Bk)
end
end Go.Proofs.YtebieapmoaaahaaGreatDoor

/- Layer 4: the law of what is told back. -/
set_option linter.unusedVariables false
set_option linter.unusedSimpArgs false
namespace Go.Proofs.YtebieapmoaaahaaGreatDoor
open Go Sx
theorem sh_of {L : List Tk} (h : ∀ t ∈ L, t.s.length ≤ 1000) : shB (rwL L) = true := by
  unfold shB
  refine List.all_eq_true.2 fun r hr => ?_
  obtain ⟨t, ht, rfl⟩ := List.mem_map.1 hr
  exact Nat.ble_eq_true_of_le (h t ht)
theorem pieces_all : ((List.range 44).all fun n => (pieceN n).all fun t => Nat.ble t.s.length 100) = true := by kernel_rfl
theorem pcsOf_short (b : List UInt8) : shB (rwL (pcsOf b)) = true ∧ (pcsOf b).length ≤ 36 := by
  refine ⟨sh_of fun t ht => ?_, pcsI_len b 18⟩
  unfold pcsOf pcsI at ht
  obtain ⟨c, _, hc⟩ := List.mem_flatMap.1 ht
  have h1 := List.all_eq_true.1 pieces_all _ (List.mem_range.2 (Nat.mod_lt c.toNat (by decide)))
  have := Nat.le_of_ble_eq_true (List.all_eq_true.1 h1 _ hc)
  omega
theorem rw_len (L : List Tk) : Nat.beq L.length (rwL L).length = true := by
  rw [show (rwL L).length = L.length from List.length_map ..]; exact Nat.beq_refl _
theorem prf_row (L : List Tk) : prf.s (rwL L) = bcond (okL L) (prS L) [] ∧ prf.e (rwL L) = bcond (okL L) 0 40 := by
  unfold prf
  simp only [rwL, tkOf_row]
  exact ⟨trivial, trivial⟩
theorem ks_empty {x y : List Tk} (h : x.map ksT = y.map ksT) : x.isEmpty = y.isEmpty := by
  cases x <;> cases y <;> first | rfl | (simp at h)
theorem smC_ok {L M : List Tk} (hl : L.length ≤ 1000) (h : L.map ksT = M.map ksT) : ∀ x ∈ smC smf L M, x = true := by
  refine all_cons (rw_len L) (all_cons (rw_len M) (all_cons (decide_eq_true hl) (all_one ?_)))
  show samR (rwL L) (rwL M) = true
  rw [sam_iff, h]; exact beq_self_eq_true _
end Go.Proofs.YtebieapmoaaahaaGreatDoor

/- Layer 4: the pieces that the laws are handed can stand. -/
set_option linter.unusedVariables false
set_option linter.unusedSimpArgs false
namespace Go.Proofs.YtebieapmoaaahaaGreatDoor
open Go Sx
def pieceOk (n : Nat) : Bool := match pieceN n with
  | [t] => pieB t && (t.k != 7 && Nat.ble (wrt t).length 10)
  | [t, u] => pieB t && (Nat.ble (wrt t).length 10 && (isB u.k u.s [40] && (pieB u && (u.k != 7 && Nat.ble (wrt u).length 10))))
  | _ => false
theorem piecesOk : ((List.range 44).all pieceOk) = true := by kernel_rfl
end Go.Proofs.YtebieapmoaaahaaGreatDoor

/- The evaluator, part P: a slice that grows may be told of its first rows alone. -/
set_option linter.unusedVariables false
set_option linter.unusedSimpArgs false
namespace Go.Proofs.YtebieapmoaaahaaGreatDoor.Sx
open Go
variable {P : Program} {R : Type}
def sameV (a b : AObj) : Prop := a = b ∨ ∃ cs t sz k, a = .vec cs t sz ∧ b = .vec (cs.take k) t sz
theorem sameV_obj {a b : AObj} (h : sameV a b) {E : Env} {w : World} {k : Nat} {c : Cap} (ho : ObjR E w k c a) : ObjR E w k c b := by
  rcases h with rfl | ⟨cs, t, sz, n, rfl, rfl⟩
  · exact ho
  · obtain ⟨xs, ys, hx, ⟨m, hw, hm⟩, hl, ho⟩ := ho
    have e : xs.take n ++ (xs.drop n ++ ys) = xs ++ ys := by rw [← List.append_assoc, List.take_append_drop]
    exact ⟨xs.take n, xs.drop n ++ ys, denC_take hx n, ⟨m, by rw [e]; exact hw, by rw [e]; exact hm⟩, by rw [e]; exact hl, ho⟩
theorem sameV_mine {a b : AObj} (h : sameV a b) : b.mine = a.mine := by
  rcases h with rfl | ⟨cs, t, sz, n, rfl, rfl⟩ <;> rfl
theorem sameV_owned {a b : AObj} (h : sameV a b) : b.owned = a.owned := by
  rcases h with rfl | ⟨cs, t, sz, n, rfl, rfl⟩ <;> rfl
theorem sameV_live {a b : AObj} (h : sameV a b) : b.live = a.live := by
  rcases h with rfl | ⟨cs, t, sz, n, rfl, rfl⟩ <;> rfl
theorem sameV_touches {a b : AObj} (h : sameV a b) {k j : Nat} {c : Cap} (ht : touches k c b j) : touches k c a j := by
  rcases h with rfl | ⟨cs, t, sz, n, rfl, rfl⟩ <;> exact ht
theorem Rel.shrink {w0 w : World} {M : Nat → Prop} {E : Env} {s t : AState} {a : Act} (h : Rel w0 M E s a w) (hs : t.slots = s.slots)
    (hm : ∀ n : Nat, (t.mem[n]? = some none → s.mem[n]? = some none) ∧ ∀ o, t.mem[n]? = some (some o) → ∃ o', s.mem[n]? = some (some o') ∧ sameV o' o) : Rel w0 M E t a w := {
  size := by rw [hs]; exact h.size
  slots := fun n v e => h.slots n v (by rw [← hs]; exact e)
  defers := h.defers
  fresh := fun n e => h.fresh n ((hm n).1 e)
  mem := fun n o e => by
    obtain ⟨o', e', hv⟩ := (hm n).2 o e
    obtain ⟨b, c, hb, hob, hmine⟩ := h.mem n o' e'
    exact ⟨b, c, hb, sameV_obj hv hob, fun h1 h2 => hmine (by rw [← sameV_mine hv]; exact h1) (sameV_touches hv h2)⟩
  apart := fun n m o o' b c b' c' h1 h2 h3 h4 h5 h6 hne ht => by
    obtain ⟨p, e1, v1⟩ := (hm n).2 o h1
    obtain ⟨p', e2, v2⟩ := (hm m).2 o' h2
    exact h.apart n m p p' b c b' c' e1 e2 (by rw [← sameV_owned v1]; exact h3) (by rw [← sameV_live v2]; exact h4) h5 h6 hne (sameV_touches v2 ht)
  frame := h.frame
  grow := h.grow
  os := h.os
  tape := h.tape
  output := h.output
  glob := h.glob }
theorem sameV_rows (sh : List CK) (rows : List (List CV)) (t : TypeId) (k : Nat) : sameV (PObj.vecR sh rows t).toA (PObj.vecR sh (rows.take k) t).toA := .inr ⟨_, _, _, k * sh.length, rfl, by rw [rowsA_take]; rfl⟩
theorem goes_shrink {fn : Func} {pre : List PObj} {k : AV → List PObj → Option R} {c : Code} {r : R} {sl : List (Option AV)} {me me' : List (Option PObj)}
    (hm : ∀ n : Nat, (me'[n]? = some none → me[n]? = some none) ∧ ∀ o, me'[n]? = some (some o) → ∃ o', me[n]? = some (some o') ∧ sameV o'.toA o.toA) (h : GoesTo P fn pre k c ⟨sl, me'⟩ r) : GoesTo P fn pre k c ⟨sl, me⟩ r := by
  obtain ⟨ex, s', t, hk⟩ := h
  refine ⟨ex, s', fun ro w0 M E a w hro hR => t ro w0 M E a w hro (hR.shrink rfl fun n => ⟨fun e => ?_, fun o e => ?_⟩), hk⟩
  · have e : (memA me')[n]? = some none := e
    show (memA me)[n]? = some none
    simp only [memA, List.getElem?_map, Option.map_eq_some_iff] at e ⊢
    obtain ⟨x, hx, hn⟩ := e
    cases x with
    | none => exact ⟨none, (hm n).1 hx, rfl⟩
    | some y => cases hn
  · have e : (memA me')[n]? = some (some o) := e
    show ∃ o', (memA me)[n]? = some (some o') ∧ _
    simp only [memA, List.getElem?_map, Option.map_eq_some_iff] at e ⊢
    obtain ⟨x, hx, z, rfl, rfl⟩ := e
    obtain ⟨y', h1, h2⟩ := (hm n).2 z hx
    exact ⟨y'.toA, ⟨some y', h1, y', rfl, rfl⟩, h2⟩
end Go.Proofs.YtebieapmoaaahaaGreatDoor.Sx

/- Layer 4: the law of blanks: its parts. -/
set_option linter.unusedVariables false
set_option linter.unusedSimpArgs false
namespace Go.Proofs.YtebieapmoaaahaaGreatDoor
open Go Sx
def tabBl (T : LxT) (F : PcsF) (P : PrF) (S : SmF) : Tab := (10, eTrue) :: (16, ePcs F) :: (11, ePrt P) :: (17, eTok T) :: (18, eSm S) :: tab0
theorem tabBl_ok : TabOK Tryz.prog (tabBl lxt pcsf prf smf) := .cons examples_ok (.cons pieces_ok (.cons print_ok (.cons tokens_ok (.cons same_ok tab0_ok))))
noncomputable abbrev blkC : Code := bodyOf Tryz.f5
noncomputable abbrev loopBo : Code := (loopBodies blkC).headD .skip
noncomputable abbrev blB1 : Code := blB (sqA (sqB loopBo))
noncomputable abbrev loopBi : Code := lpB (blB (sqB (sqA (restC 6 blB1))))
theorem bl_shape : restC 6 blkC = .seq (.seq (sqA (sqA (restC 6 blkC))) (.block 0 (.loop loopBo))) (restC 7 blkC) := by kernel_rfl
theorem bl_shape2 : loopBo = .seq (sqA loopBo) (.seq (.block 1 blB1) (sqB (sqB loopBo))) := by kernel_rfl
theorem bl_shape3 : restC 6 blB1 = .seq (.seq (sqA (sqA (restC 6 blB1))) (.block 2 (.loop loopBi))) (sqB (restC 6 blB1)) := by kernel_rfl
def stBo (a b : List UInt8) (n : Nat) (A : List (List CV)) (t : List UInt8) (i : Int) : PState := ⟨nn 1 ++ [some (.dsl 1 b.length)] ++ nn 3 ++ [some (.bool true), some (.vec 2 n), some (.str t), some (.int .i64 i)] ++ nn 116, [some (.flatU false a), some (.flatU false b), some (tokO A)] ++ nn 64⟩
def stBp (a b : List UInt8) (n : Nat) (A : List (List CV)) (t : List UInt8) : PState := ⟨nn 1 ++ [some (.dsl 1 b.length)] ++ nn 3 ++ [some (.bool true), some (.vec 2 n), some (.str t)] ++ nn 117, [some (.flatU false a), some (.flatU false b), some (tokO A)] ++ nn 64⟩
def stBx (a b : List UInt8) (n : Nat) (A : List (List CV)) (t : List UInt8) : PState := ⟨nn 5 ++ [some (.bool true), some (.vec 2 n), some (.str t)] ++ nn 117, [some (.flatU false a), some (.flatU false b), some (tokO A)] ++ nn 64⟩
def stBn (a b : List UInt8) (n : Nat) (A : List (List CV)) (t : List UInt8) (i q : Int) : PState := ⟨nn 1 ++ [some (.dsl 1 b.length)] ++ nn 3 ++ [some (.bool true), some (.vec 2 n), some (.str t), some (.int .i64 i), some (.int .i64 q)] ++ nn 115, [some (.flatU false a), some (.flatU false b), some (tokO A)] ++ nn 64⟩
def stBs (a b : List UInt8) (n : Nat) (A : List (List CV)) (t : List UInt8) (i q : Int) (s : List UInt8) : PState := ⟨nn 1 ++ [some (.dsl 1 b.length)] ++ nn 3 ++ [some (.bool true), some (.vec 2 n), some (.str t), some (.int .i64 i), some (.int .i64 q), some (.str s)] ++ nn 114, [some (.flatU false a), some (.flatU false b), some (tokO A)] ++ nn 64⟩
def stBk (a b : List UInt8) (n : Nat) (A : List (List CV)) (t : List UInt8) (i q : Int) (s : List UInt8) (k : Int) : PState := ⟨nn 1 ++ [some (.dsl 1 b.length)] ++ nn 3 ++ [some (.bool true), some (.vec 2 n), some (.str t), some (.int .i64 i), some (.int .i64 q), some (.str s)] ++ nn 1 ++ [some (.int .i64 k)] ++ nn 112, [some (.flatU false a), some (.flatU false b), some (tokO A)] ++ nn 64⟩
section
variable (T : LxT) (F : PcsF) (P : PrF) (S : SmF) (a b : List UInt8) (n : Nat) (A : List (List CV)) (t : List UInt8) (i q : Int) (s : List UInt8) (k : Int)
theorem bo1 : code (ent (R := Ex × PState) Tryz.prog (tabBl T F P S) nolv 64 1 20) Tryz.prog {} 2 64 1 (sqA loopBo) (stBo a b n A t i) (endK 2 64 (fun n => hasN [1, 5, 6, 7, 8] n) (fun n => hasN [5, 6, 7] n)) =
  bcond (decide (i < (n : Int))) (some (.normal, stBo a b n A t i)) (some (.exit 0, stBx a b n A t)) := by kernel_rfl
theorem bo3 : code (ent (R := Ex × PState) Tryz.prog (tabBl T F P S) nolv 64 1 20) Tryz.prog {} 2 64 1 (sqA (sqA (restC 6 blB1))) (stBs a b n A t i q s) (endK 2 64 (fun n => hasN [1, 5, 6, 7, 8, 9, 10, 12] n) (fun n => hasN [4] n)) = some (.normal, stBk a b n A t i q s 0) := by kernel_rfl
theorem bo4 : code (ent (R := Ex × PState) Tryz.prog (tabBl T F P S) nolv 64 1 20) Tryz.prog {} 2 64 1 loopBi (stBk a b n A t i q s k) (endK 2 64 (fun n => hasN [1, 5, 6, 7, 8, 9, 10, 12] n) (fun n => hasN [1, 5, 6, 7, 8, 9, 10] n)) =
  bcond (decide (k < q)) (chks (some (.normal, stBk a b n A (t ++ [32]) i q s (W (k + 1)))) [mxB (t.length + ([32] : List UInt8).length)]) (some (.exit 2, stBs a b n A t i q s)) := by kernel_rfl
theorem bo5 : code (ent (R := Ex × PState) Tryz.prog (tabBl T F P S) nolv 64 1 20) Tryz.prog {} 2 64 1 (sqB (restC 6 blB1)) (stBs a b n A t i q s) (endK 2 64 (fun n => hasN [1, 5, 6, 7, 8] n) (fun n => hasN [4] n)) =
  chks (some (.normal, stBo a b n A (t ++ s) i)) [mxB (t.length + s.length)] := by kernel_rfl
theorem bo6 : code (ent (R := Ex × PState) Tryz.prog (tabBl T F P S) nolv 64 1 20) Tryz.prog {} 2 64 1 (sqB (sqB loopBo)) (stBo a b n A t i) (endK 2 64 (fun n => hasN [1, 5, 6, 7, 8] n) (fun n => hasN [4] n)) = some (.normal, stBo a b n A t (W (i + 1))) := by kernel_rfl
end
end Go.Proofs.YtebieapmoaaahaaGreatDoor

/- Layer 4: the law of blanks: its parts, told. -/
set_option linter.unusedVariables false
set_option linter.unusedSimpArgs false
namespace Go.Proofs.YtebieapmoaaahaaGreatDoor
open Go Sx
def ePcsE (F : PcsF) : Ent := fun args pre => match args, pre with
  | [.dsl 0 l], [.flatU false b] => .chk (Nat.beq l b.length) (.chk (F.L b).isEmpty (.ret .nilslice [.flatU false b]))
  | _, _ => .fail
def ePcsN (F : PcsF) : Ent := fun args pre => match args, pre with
  | [.dsl 0 l], [.flatU false b] => .chk (Nat.beq l b.length) (.chk (!(F.L b).isEmpty) (.ret (.vec 1 (F.L b).length) [.flatU false b, tokO ((F.L b).map Tk.row)]))
  | _, _ => .fail
theorem piecesE_ok : EntOK Tryz.prog 16 (ePcsE pcsf) := fun args pre => by
  unfold ePcsE
  split
  · rename_i l b
    refine ⟨fun g1 => ⟨fun g2 => ?_, fun _ => trivial⟩, fun _ => trivial⟩
    have h := pieces_ok [.dsl 0 l] [.flatU false b]
    unfold ePcs at h
    simp only at h
    exact (h.1 g1).1 g2
  · trivial
theorem piecesN_ok : EntOK Tryz.prog 16 (ePcsN pcsf) := fun args pre => by
  unfold ePcsN
  split
  · rename_i l b
    refine ⟨fun g1 => ⟨fun g2 => ?_, fun _ => trivial⟩, fun _ => trivial⟩
    have h := pieces_ok [.dsl 0 l] [.flatU false b]
    unfold ePcs at h
    simp only at h
    exact (h.1 g1).2 (by simpa using g2)
  · trivial
def tabBlE (T : LxT) (F : PcsF) (S : SmF) : Tab := (10, eTrue) :: (16, ePcsE F) :: (17, eTokZ T) :: (18, eSmT S) :: tab0
theorem tabBlE_ok : TabOK Tryz.prog (tabBlE lxt pcsf smf) := .cons examples_ok (.cons piecesE_ok (.cons tokensZ_ok (.cons sameT_ok tab0_ok)))
def tabBlN (F : PcsF) : Tab := (10, eTrue) :: (16, ePcsN F) :: tab0
theorem tabBlN_ok : TabOK Tryz.prog (tabBlN pcsf) := .cons examples_ok (.cons piecesN_ok tab0_ok)
def rvB (a b : List UInt8) (v : Bool) : Option (AV × List PObj) := pure2 (.bool v) [.flatU false a, .flatU false b]
def up8 (n : Nat) : Int := if 8 < (n : Int) then 8 else (n : Int)
section
variable (T : LxT) (F : PcsF) (P : PrF) (S : SmF) (a b : List UInt8) (n : Nat) (A : List (List CV)) (t : List UInt8) (i q : Int)
theorem blE : code (ent (R := AV × List PObj) Tryz.prog (tabBlE T F S) nolv 64 1 20) Tryz.prog {} 2 64 1 blkC (startP Tryz.f5.ntmps [.dsl 0 a.length, .dsl 1 b.length] [.flatU false a, .flatU false b] 64) (finP Tryz.prog Tryz.f5 2 [.flatU false a, .flatU false b] pure2) =
  chks (bcond (T.L [32, 32]).isEmpty (rvB a b true) none) [Nat.beq a.length a.length, (F.L a).isEmpty, T.e [32, 32] == 0] := by kernel_rfl
theorem bl1 : runsC (ent (R := Ex × PState) Tryz.prog (tabBlN F) nolv 64 1 20) Tryz.prog {} 2 64 1 (endK 2 64 (fun n => hasN [1, 5, 6, 7] n) (fun n => hasN [4] n)) 6 blkC (startP Tryz.f5.ntmps [.dsl 0 a.length, .dsl 1 b.length] [.flatU false a, .flatU false b] 64) =
  chks (some (.normal, stBp a b (up8 (F.L a).length).toNat (rwL (F.L a)) [])) [Nat.beq a.length a.length, !(F.L a).isEmpty, decide (0 ≤ up8 (F.L a).length) && decide (0 < 3 ∧ (up8 (F.L a).length).toNat * 3 ≤ (tokO (rwL (F.L a))).lenP)] := by kernel_rfl
theorem bo0 : code (ent (R := Ex × PState) Tryz.prog tab0 nolv 64 1 20) Tryz.prog {} 2 64 1 (sqA (sqA (restC 6 blkC))) (stBp a b n A t) (endK 2 64 (fun n => hasN [1, 5, 6, 7, 8] n) (fun n => hasN [4] n)) = some (.normal, stBo a b n A t 0) := by kernel_rfl
def bnI (b : List UInt8) (i : Int) : Int := W (1 + (W (byteAt b ((i.tmod (b.length : Int)).toNat * 1))).tmod 4)
def bo2X (q : Int) : Option (Ex × PState) := bcond (decide (i > 0)) (chks (bcond (kR A (W (i - 1)) == 7) (some (.normal, stBn a b n A t i 0)) (some (.normal, stBn a b n A t i q))) (b2 (W (i - 1)) n A)) (some (.normal, stBn a b n A t i q))
theorem bo2a : runsC (ent (R := Ex × PState) Tryz.prog (tabBl T F P S) nolv 64 1 20) Tryz.prog {} 2 64 1 (endK 2 64 (fun n => hasN [1, 5, 6, 7, 8, 9] n) (fun n => hasN [4] n)) 3 blB1 (stBo a b n A t i) =
  bcond (decide ((b.length : Int) > 0)) (chks (bo2X a b n A t i (bnI b i)) [(b.length : Int) != 0, decide (0 ≤ i.tmod (b.length : Int) ∧ i.tmod (b.length : Int) < (b.length : Int)), decide ((i.tmod (b.length : Int)).toNat * 1 < b.length)]) (bo2X a b n A t i 1) := by kernel_rfl
theorem bo2b : runsC (ent (R := Ex × PState) Tryz.prog (tabBl T F P S) nolv 64 1 20) Tryz.prog {} 2 64 1 (endK 2 64 (fun n => hasN [1, 5, 6, 7, 8, 9, 10] n) (fun n => hasN [4] n)) 3 (restC 3 blB1) (stBn a b n A t i q) =
  chks (bcond (kR A i == 7) (chks (some (.normal, stBs a b n A t i q (sR A i))) (b2 i n A)) (bcond (P.e [Sx.rowAt A i.toNat] != 0) (some (.ret, ⟨nn 4 ++ [some (.bool false)] ++ nn 120, [some (.flatU false a), some (.flatU false b)] ++ nn 64⟩)) (some (.normal, stBs a b n A t i q (P.s [Sx.rowAt A i.toNat])))))
    ([decide (0 ≤ i) && (decide (0 ≤ W (i + 1)) && decide (i.toNat < (W (i + 1)).toNat ∧ (W (i + 1)).toNat ≤ n)), Nat.beq ((W (i + 1)).toNat - i.toNat) 1, Nat.blt i.toNat A.length, shB A] ++ b2 i n A) := by kernel_rfl
def blT (T : LxT) (S : SmF) (n : Nat) (A : List (List CV)) (w : List UInt8) (x : Option (AV × List PObj)) : Option (AV × List PObj) :=
  chks (bcond (T.L w).isEmpty none (chks x [Nat.beq (T.L w).length (rwL (T.L w)).length, Nat.beq n A.length, decide ((T.L w).length ≤ 1000), S.r (rwL (T.L w)) A])) [T.e w == 0]
def blZ : Option (AV × List PObj) := chks (blT T S n A (t ++ [32, 32]) (rvB a b true)) [mxB (t.length + 2)]
def blW : Option (AV × List PObj) := chks (blT T S (n + 1) (A.take n ++ [tkRow 8 [40] 0]) (t ++ [40] ++ [32, 32]) (rvB a b true)) [mxB (t.length + 1), decide (0 < n), decide (n ≤ A.length) && roomT n, true, decide ((tokO (A.take n)).len = n * 3) && roomT (n + 1), mxB ((t ++ [40]).length + 2)]
theorem bl9 : code (ent (R := AV × List PObj) Tryz.prog (tabB2 T S) nolv 64 1 20) Tryz.prog {} 2 64 1 (restC 7 blkC) (stBx a b (n + 1) A t) (finP Tryz.prog Tryz.f5 2 [.flatU false a, .flatU false b] pure2) =
  bcond (decide (((n + 1 : Nat) : Int) > 0)) (chks (bcond (kR A (W (((n + 1 : Nat) : Int) - 1)) == 7) (blW T S a b (n + 1) A t) (blZ T S a b (n + 1) A t)) (b2 (W (((n + 1 : Nat) : Int) - 1)) (n + 1) A)) (blZ T S a b (n + 1) A t) := by kernel_rfl
end
end Go.Proofs.YtebieapmoaaahaaGreatDoor

/- Layer 4: the law of blanks: mathematics. -/
set_option linter.unusedVariables false
set_option linter.unusedSimpArgs false
namespace Go.Proofs.YtebieapmoaaahaaGreatDoor
open Go Sx
/-- Pieces that can stand; a call has its bracket, but for the last one. -/
def okC : List Tk → Bool
  | [] => true
  | [t] => pieB t
  | t :: u :: r => pieB t && ((t.k != 7 || isB u.k u.s [40]) && okC (u :: r))
theorem okC_cons {t : Tk} {L : List Tk} (hp : pieB t = true) (h7 : t.k ≠ 7 ∨ hdS L = true) (hL : okC L = true) : okC (t :: L) = true := by
  cases L with
  | nil => exact hp
  | cons u r =>
    rw [okC, hp, hL, Bool.and_true, Bool.true_and, Bool.or_eq_true, bne_iff_ne]
    exact h7
theorem okC_tail {t : Tk} {L : List Tk} (h : okC (t :: L) = true) : pieB t = true ∧ okC L = true := by
  cases L with
  | nil => exact ⟨h, rfl⟩
  | cons u r =>
    rw [okC, Bool.and_eq_true, Bool.and_eq_true] at h
    exact ⟨h.1, h.2.2⟩
theorem piece_cases {n : Nat} (hn : n < 44) : (∃ t, pieceN n = [t] ∧ pieB t = true ∧ t.k ≠ 7 ∧ (wrt t).length ≤ 10) ∨ (∃ t u, pieceN n = [t, u] ∧ pieB t = true ∧ (wrt t).length ≤ 10 ∧ isB u.k u.s [40] = true ∧ pieB u = true ∧ u.k ≠ 7 ∧ (wrt u).length ≤ 10) := by
  have h := List.all_eq_true.1 piecesOk n (List.mem_range.2 hn)
  unfold pieceOk at h
  split at h
  · rename_i t ht
    simp only [Bool.and_eq_true, bne_iff_ne] at h
    exact .inl ⟨t, ht, h.1, h.2.1, Nat.le_of_ble_eq_true h.2.2⟩
  · rename_i t u ht
    simp only [Bool.and_eq_true, bne_iff_ne] at h
    exact .inr ⟨t, u, ht, h.1, Nat.le_of_ble_eq_true h.2.1, h.2.2.1, h.2.2.2.1, h.2.2.2.2.1, Nat.le_of_ble_eq_true h.2.2.2.2.2⟩
  · cases h
theorem piece_app {n : Nat} (hn : n < 44) {L : List Tk} (hL : okC L = true) : okC (pieceN n ++ L) = true := by
  rcases piece_cases hn with ⟨t, e, h1, h2, _⟩ | ⟨t, u, e, h1, _, h2, h3, h4, _⟩
  · rw [e]; exact okC_cons h1 (.inl h2) hL
  · rw [e]; exact okC_cons h1 (.inr h2) (okC_cons h3 (.inl h4) hL)
theorem okC_flat : ∀ b : List UInt8, okC (b.flatMap fun c => pieceN (c.toNat % 44)) = true
  | [] => rfl
  | c :: b => by rw [List.flatMap_cons]; exact piece_app (Nat.mod_lt _ (by decide)) (okC_flat b)
theorem okC_take : ∀ (L : List Tk) (m : Nat), okC L = true → okC (L.take m) = true
  | [], m, _ => by rw [List.take_nil]; rfl
  | t :: L, 0, _ => rfl
  | t :: L, m + 1, h => by
    obtain ⟨h1, h2⟩ := okC_tail h
    rw [List.take_succ_cons]
    refine okC_cons' h1 ?_ (okC_take L m h2)
    cases L with
    | nil => exact .inr (.inl (List.take_nil ..))
    | cons u r =>
      rw [okC, Bool.and_eq_true, Bool.and_eq_true, Bool.or_eq_true, bne_iff_ne] at h
      cases m with
      | zero => exact .inr (.inl rfl)
      | succ m => exact h.2.1.elim .inl fun e => .inr (.inr e)
where
  okC_cons' {t : Tk} {L : List Tk} (hp : pieB t = true) (h7 : t.k ≠ 7 ∨ L = [] ∨ hdS L = true) (hL : okC L = true) : okC (t :: L) = true := by
    rcases h7 with h | h | h
    · exact okC_cons hp (.inl h) hL
    · rw [h]; exact hp
    · exact okC_cons hp (.inr h) hL
theorem short_mem {b : List UInt8} {t : Tk} (h : t ∈ pcsOf b) : (wrt t).length ≤ 10 := by
  unfold pcsOf pcsI at h
  obtain ⟨c, _, hc⟩ := List.mem_flatMap.1 h
  rcases piece_cases (Nat.mod_lt c.toNat (show 0 < 44 by decide)) with ⟨t', e, _, _, h3⟩ | ⟨t', u, e, _, h2, _, _, _, h3⟩
  · rw [e] at hc; obtain rfl := List.mem_singleton.1 hc; exact h3
  · rw [e] at hc
    rcases List.mem_cons.1 hc with rfl | hc
    · exact h2
    · obtain rfl := List.mem_singleton.1 hc; exact h3
/-- So many blanks. -/
def bN (b : List UInt8) (j : Nat) : Nat := if b.length = 0 then 1 else 1 + (b.getD (j % b.length) 0).toNat % 4
theorem bN_bd (b : List UInt8) (j : Nat) : 1 ≤ bN b j ∧ bN b j ≤ 4 := by unfold bN; split <;> omega
def qG (b : List UInt8) (p : Option Tk) (j : Nat) : Nat := match p with | none => bN b j | some u => bcond (u.k == 7) 0 (bN b j)
theorem qG_le (b : List UInt8) (p : Option Tk) (j : Nat) : qG b p j ≤ 4 := by
  have := bN_bd b j
  unfold qG
  split
  · omega
  · rename_i u; cases u.k == 7 <;> simp [bcond] <;> omega
def QL (b : List UInt8) : Option Tk → Nat → List Tk → List (Nat × Tk)
  | _, _, [] => []
  | p, j, t :: r => (qG b p j, t) :: QL b (some t) (j + 1) r
def lastC : List Tk → Bool
  | [] => false
  | [t] => t.k == 7
  | _ :: u :: r => lastC (u :: r)
theorem QL_ok (b : List UInt8) : ∀ (L : List Tk) (p : Option Tk) (j : Nat), okC L = true → lastC L = false → gOk (QL b p j L)
  | [], p, j, _, _ => trivial
  | [t], p, j, h, hl => ⟨h, fun e => by have hl : (t.k == 7) = false := hl; rw [e] at hl; exact absurd hl (by decide)⟩
  | t :: u :: r, p, j, h, hl => by
    rw [okC, Bool.and_eq_true, Bool.and_eq_true, Bool.or_eq_true, bne_iff_ne] at h
    obtain ⟨h1, h2, h3⟩ := h
    refine ⟨h1, fun h7 => ?_, fun h7 hn => ?_, QL_ok b (u :: r) (some t) (j + 1) h3 hl⟩
    · obtain ⟨k8, k40⟩ := isB_of (h2.resolve_left (fun n => n h7))
      refine ⟨?_, k8, k40⟩
      show bcond (t.k == 7) 0 _ = 0
      rw [h7]; rfl
    · have hn : bcond (t.k == 7) 0 (bN b (j + 1)) = 0 := hn
      rw [bcF (beq_f h7)] at hn
      have := (bN_bd b (j + 1)).1
      omega
theorem QL_ks (b : List UInt8) : ∀ (L : List Tk) (p : Option Tk) (j : Nat), (QL b p j L).map (fun x => ksT x.2) = L.map ksT
  | [], p, j => rfl
  | t :: r, p, j => by rw [QL, List.map_cons, List.map_cons, QL_ks b r]
def lastO (p : Option Tk) : List Tk → Option Tk
  | [] => p
  | t :: r => lastO (some t) r
theorem QL_snoc (b : List UInt8) (t : Tk) : ∀ (L : List Tk) (p : Option Tk) (j : Nat), QL b p j (L ++ [t]) = QL b p j L ++ [(qG b (lastO p L) (j + L.length), t)]
  | [], p, j => rfl
  | u :: r, p, j => by
    rw [List.cons_append, QL, QL, QL_snoc b t r, lastO, List.cons_append, List.length_cons, show j + 1 + r.length = j + (r.length + 1) by omega]
theorem gT_snoc (n : Nat) (t : Tk) : ∀ Q : List (Nat × Tk), gT (Q ++ [(n, t)]) 0 = gT Q 0 ++ (List.replicate n 32 ++ wrt t)
  | [] => by
    show List.replicate n 32 ++ (wrt t ++ List.replicate 0 32) = [] ++ _
    simp
  | (m, u) :: Q => by rw [List.cons_append, gT, gT, gT_snoc n t Q]; simp only [List.append_assoc]
theorem gT_end (m : Nat) : ∀ Q : List (Nat × Tk), gT Q m = gT Q 0 ++ List.replicate m 32
  | [] => by show _ = [] ++ _; rw [List.nil_append]; rfl
  | (n, u) :: Q => by rw [gT, gT, gT_end m Q]; simp only [List.append_assoc]
theorem gT_len (b : List UInt8) : ∀ (L : List Tk) (p : Option Tk) (j : Nat), (∀ t ∈ L, (wrt t).length ≤ 10) → (gT (QL b p j L) 0).length ≤ 14 * L.length
  | [], p, j, _ => Nat.le_refl _
  | t :: r, p, j, h => by
    have h1 := h t (List.mem_cons_self ..)
    have h2 := gT_len b r (some t) (j + 1) fun u hu => h u (List.mem_cons_of_mem _ hu)
    have h3 := qG_le b p j
    rw [QL, gT]
    simp only [List.length_append, List.length_replicate, List.length_cons]; omega
theorem lastO_take : ∀ (X : List Tk) (p : Option Tk) (j : Nat) (h : j < X.length), lastO p (X.take (j + 1)) = some X[j]
  | [], p, j, h => by simp at h
  | t :: r, p, 0, h => by rw [List.take_succ_cons, List.take_zero]; rfl
  | t :: r, p, j + 1, h => by rw [List.take_succ_cons, lastO, lastO_take r (some t) j (by simpa using h)]; rfl
theorem lastC_get : ∀ (X : List Tk) (k : Nat) (h : X.length = k + 1), lastC X = (X[k].k == 7)
  | [t], 0, _ => rfl
  | [t], k + 1, h => by simp at h
  | t :: u :: r, 0, h => by simp at h
  | t :: u :: r, k + 1, h => by
    have h' : (u :: r).length = k + 1 := by simpa using h
    rw [lastC, lastC_get (u :: r) k h']; rfl
  | [], k, h => by simp at h
def brT : Tk := ⟨8, [40], 0⟩
theorem brT_ok : pieB brT = true ∧ wrt brT = [40] := ⟨by kernel_rfl, rfl⟩
theorem okC_snoc : ∀ L : List Tk, okC L = true → okC (L ++ [brT]) = true ∧ lastC (L ++ [brT]) = false
  | [], _ => ⟨brT_ok.1, rfl⟩
  | t :: L, h => by
    obtain ⟨h1, h2⟩ := okC_tail h
    obtain ⟨i1, i2⟩ := okC_snoc L h2
    refine ⟨okC_cons h1 ?_ i1, ?_⟩
    · cases L with
      | nil => exact .inr rfl
      | cons u r =>
        rw [okC, Bool.and_eq_true, Bool.and_eq_true, Bool.or_eq_true, bne_iff_ne] at h
        exact h.2.1.imp id fun e => e
    · cases L with
      | nil => rfl
      | cons u r => exact i2
/-- The text ahead of a piece. -/
def tI (b : List UInt8) (X : List Tk) (i : Nat) : List UInt8 := gT (QL b none 0 (X.take i)) 0
theorem tI_succ {b : List UInt8} {X : List Tk} {i : Nat} (h : i < X.length) : tI b X (i + 1) = tI b X i ++ List.replicate (qG b (lastO none (X.take i)) i) 32 ++ wrt X[i] := by
  unfold tI
  rw [List.take_add_one, List.getElem?_eq_getElem h]
  show gT (QL b none 0 (X.take i ++ [X[i]])) 0 = _
  rw [QL_snoc, gT_snoc, List.length_take, Nat.min_eq_left (by omega), Nat.zero_add]
  simp only [List.append_assoc]
theorem tI_len {b : List UInt8} {X : List Tk} (h : ∀ t ∈ X, (wrt t).length ≤ 10) (i : Nat) : (tI b X i).length ≤ 14 * X.length := by
  have := gT_len b (X.take i) none 0 fun t ht => h t (List.mem_of_mem_take ht)
  have h2 : (X.take i).length ≤ X.length := by rw [List.length_take]; exact Nat.min_le_right _ _
  unfold tI
  omega
/-- WITH BLANKS IT IS TOLD AS IT. -/
theorem blank_told {b : List UInt8} {X : List Tk} (hX : okC X = true) (hl : lastC X = false) (hs : ∀ t ∈ X, (wrt t).length ≤ 10) (hn : X.length ≤ 9) : tokE (gT (QL b none 0 X) 2) = 0 ∧ (tokL (gT (QL b none 0 X) 2)).map ksT = X.map ksT := by
  obtain ⟨g1, g2⟩ := gT_ok (QL b none 0 X) 2 (QL_ok b X none 0 hX hl)
  have hlen := gT_len b X none 0 hs
  obtain ⟨t1, t2, t3⟩ := tok_of (s := gT (QL b none 0 X) 2) (by rw [gT_end, List.length_append, List.length_replicate]; omega) g1
  refine ⟨t1, ?_⟩
  rw [t3, ks_map]
  exact g2.trans (QL_ks b X none 0)
end Go.Proofs.YtebieapmoaaahaaGreatDoor

/- Layer 4: the law of blanks. -/
set_option linter.unusedVariables false
set_option linter.unusedSimpArgs false
namespace Go.Proofs.YtebieapmoaaahaaGreatDoor
open Go Sx
section
variable {a b : List UInt8} {X : List Tk}
/-- What is known of the pieces. -/
structure Bl (X : List Tk) : Prop where
  ok : okC X = true
  sh : ∀ t ∈ X, (wrt t).length ≤ 10
  ss : shB (rwL X) = true
  le : X.length ≤ 8
theorem okC_mem : ∀ {L : List Tk}, okC L = true → ∀ t ∈ L, pieB t = true
  | [], _, t, h => by simp at h
  | u :: L, hk, t, h => by
    obtain ⟨h1, h2⟩ := okC_tail hk
    rcases List.mem_cons.1 h with rfl | h
    · exact h1
    · exact okC_mem h2 t h
theorem X_row {i : Nat} (h : i < X.length) : kR (rwL X) i = X[i].k ∧ sR (rwL X) i = X[i].s := by
  have := at_row (L := X) (i := i) (t := X[i]) (List.getElem?_eq_getElem h)
  exact ⟨this.1, this.2.1⟩
theorem bnI_ok (hb : 0 < b.length) (i : Nat) : bnI b (i : Int) = ((bN b i : Nat) : Int) ∧ (∀ x ∈ [((b.length : Int) != 0), decide (0 ≤ (i : Int).tmod (b.length : Int) ∧ (i : Int).tmod (b.length : Int) < (b.length : Int)), decide (((i : Int).tmod (b.length : Int)).toNat * 1 < b.length)], x = true) := by
  have hm : (i : Int).tmod (b.length : Int) = ((i % b.length : Nat) : Int) := rfl
  have hlt : i % b.length < b.length := Nat.mod_lt _ hb
  refine ⟨?_, all_cons (bne_iff_ne.2 (by omega)) (all_cons (decide_eq_true (by rw [hm]; omega)) (all_one (decide_eq_true (by rw [hm]; omega))))⟩
  unfold bnI bN
  rw [hm, Int.toNat_natCast, Nat.mul_one, byteAt_get hlt, if_neg (by omega), List.getD_eq_getElem?_getD, List.getElem?_eq_getElem hlt]
  have h1 := (b[i % b.length]).toNat_lt
  have hw : W ((b[i % b.length].toNat : Nat) : Int) = ((b[i % b.length].toNat : Nat) : Int) := i64_in (by omega) (by omega)
  rw [hw]
  show W (1 + ((b[i % b.length].toNat % 4 : Nat) : Int)) = _
  have h2 : b[i % b.length].toNat % 4 < 4 := Nat.mod_lt _ (by decide)
  have hw2 : W (1 + ((b[i % b.length].toNat % 4 : Nat) : Int)) = 1 + ((b[i % b.length].toNat % 4 : Nat) : Int) := i64_in (by omega) (by omega)
  rw [hw2]
  show _ = ((1 + b[i % b.length].toNat % 4 : Nat) : Int)
  omega
theorem part2a (hX : Bl X) {i : Nat} (h : i < X.length) (t : List UInt8) : runsC (ent (R := Ex × PState) Tryz.prog (tabBl lxt pcsf prf smf) nolv 64 1 20) Tryz.prog {} 2 64 1 (endK 2 64 (fun n => hasN [1, 5, 6, 7, 8, 9] n) (fun n => hasN [4] n)) 3 blB1 (stBo a b X.length (rwL X) t (i : Int)) =
    some (.normal, stBn a b X.length (rwL X) t (i : Int) ((qG b (lastO none (X.take i)) i : Nat) : Int)) := by
  have hle := hX.le
  have key : ∀ q : Nat, q = bN b i → bo2X a b X.length (rwL X) t (i : Int) (q : Int) = some (.normal, stBn a b X.length (rwL X) t (i : Int) ((qG b (lastO none (X.take i)) i : Nat) : Int)) := fun q hq => by
    unfold bo2X
    cases i with
    | zero =>
      rw [bcF (b := decide (((0 : Nat) : Int) > 0)) (decide_eq_false (by omega)), hq]; rfl
    | succ j =>
      have hj : j < X.length := by omega
      have hw : W (((j + 1 : Nat) : Int) - 1) = ((j : Nat) : Int) := by
        show IntKind.i64.wrap _ = _
        rw [i64_in (by omega) (by omega)]; omega
      rw [bcT (b := decide (((j + 1 : Nat) : Int) > 0)) (decide_eq_true (by omega)), hw, chks_true (b2_ok hj), (X_row hj).1, lastO_take X none j hj]
      show bcond (X[j].k == 7) _ _ = some (Ex.normal, stBn a b X.length (rwL X) t _ ((bcond (X[j].k == 7) 0 (bN b (j + 1)) : Nat) : Int))
      cases X[j].k == 7 with
      | true => rfl
      | false => rw [hq]; rfl
  refine (bo2a lxt pcsf prf smf a b X.length (rwL X) t i).trans ?_
  by_cases hb : 0 < b.length
  · obtain ⟨e1, e2⟩ := bnI_ok hb i
    rw [bcT (b := decide ((b.length : Int) > 0)) (decide_eq_true (by omega)), chks_true e2, e1]
    exact key _ rfl
  · rw [bcF (b := decide ((b.length : Int) > 0)) (decide_eq_false (by omega))]
    exact key 1 (by unfold bN; rw [if_pos (by omega)])
theorem part2b (hX : Bl X) {i : Nat} (h : i < X.length) (t : List UInt8) (q : Int) : runsC (ent (R := Ex × PState) Tryz.prog (tabBl lxt pcsf prf smf) nolv 64 1 20) Tryz.prog {} 2 64 1 (endK 2 64 (fun n => hasN [1, 5, 6, 7, 8, 9, 10] n) (fun n => hasN [4] n)) 3 (restC 3 blB1) (stBn a b X.length (rwL X) t (i : Int) q) =
    some (.normal, stBs a b X.length (rwL X) t (i : Int) q (wrt X[i])) := by
  have hle := hX.le
  have hp := okC_mem hX.ok X[i] (List.getElem_mem h)
  have hw10 := hX.sh X[i] (List.getElem_mem h)
  have hl : (rwL X).length = X.length := List.length_map ..
  have hw : W ((i : Int) + 1) = ((i + 1 : Nat) : Int) := i64_in (by omega) (by omega)
  obtain ⟨e1, e2⟩ := X_row h
  have hrow : Sx.rowAt (rwL X) i = X[i].row := by
    unfold Sx.rowAt; rw [List.getD_eq_getElem?_getD, List.getElem?_map, List.getElem?_eq_getElem h]; rfl
  refine (bo2b lxt pcsf prf smf a b X.length (rwL X) t i q).trans ?_
  rw [hw, Int.toNat_natCast, Int.toNat_natCast, hrow, e1, e2, chks_true (b2_ok h)]
  refine (chks_true (all_app (all_cons ?_ (all_cons ?_ (all_cons ?_ (all_one hX.ss)))) (b2_ok h))).trans ?_
  · rw [decide_eq_true (show 0 ≤ (i : Int) by omega), decide_eq_true (show 0 ≤ ((i + 1 : Nat) : Int) by omega), decide_eq_true (show i < i + 1 ∧ i + 1 ≤ X.length by omega)]; rfl
  · rw [show i + 1 - i = 1 by omega]; rfl
  · rw [hl]; simpa using h
  · by_cases h7 : X[i].k = 7
    · rw [bcT (b := X[i].k == 7) (beq_iff_eq.2 h7), wrt_not (by omega)]
    · obtain ⟨p1, p2⟩ := prf_row [X[i]]
      have hk : okL [X[i]] = true := by
        unfold okL
        rw [prS_one, decide_eq_true (show (wrt X[i]).length ≤ 200 by omega), Bool.and_true]
        show (pieB X[i] && ((X[i].k != 7 || false) && true)) = true
        rw [hp, bne_iff_ne.2 h7]; rfl
      rw [hk] at p1 p2
      have p1 : prf.s [X[i].row] = prS [X[i]] := p1
      have p2 : prf.e [X[i].row] = 0 := p2
      rw [bcF (b := X[i].k == 7) (beq_f h7), p1, p2, prS_one]; rfl
theorem loopBi_ok (n : Nat) (A : List (List CV)) (t : List UInt8) (i : Int) (q : Nat) (s : List UInt8) (ht : t.length + q ≤ 1000) : Tri Tryz.prog (.loop loopBi) (stBk a b n A t i (q : Int) s 0).toA (.exit 2) (stBs a b n A (t ++ List.replicate q 32) i (q : Int) s).toA 2 := by
  have hH : HOK Tryz.prog (ent (R := Ex × PState) Tryz.prog (tabBl lxt pcsf prf smf) nolv 64 1 20) := ent_sound (NF := 64) (m := 1) tabBl_ok host nolv_ok 20
  have key := tri_up (P := Tryz.prog) (body := loopBi) (ex := .exit 2) (out := (stBs a b n A (t ++ List.replicate q 32) i (q : Int) s).toA) (K := 2) (fun k => (stBk a b n A (t ++ List.replicate k 32) i (q : Int) s (k : Int)).toA) (by simp) q (fun k hk => ?_) ?_ 0 (Nat.zero_le _)
  · rw [show t ++ List.replicate 0 32 = t from List.append_nil t] at key; exact key
  · have h := bo4 lxt pcsf prf smf a b n A (t ++ List.replicate k 32) i (q : Int) s (k : Int)
    rw [bcT (b := decide ((k : Int) < (q : Int))) (decide_eq_true (by omega)), chks_true (all_one (mx_ok (by simp only [List.length_append, List.length_replicate, List.length_cons, List.length_nil]; omega))),
      show W ((k : Int) + 1) = ((k + 1 : Nat) : Int) from i64_in (by omega) (by omega)] at h
    have e : t ++ List.replicate k 32 ++ [32] = t ++ List.replicate (k + 1) 32 := by rw [List.replicate_succ', List.append_assoc]
    rw [e] at h
    exact round_sound hH no_loops h
  · have h := bo4 lxt pcsf prf smf a b n A (t ++ List.replicate q 32) i (q : Int) s (q : Int)
    rw [bcF (b := decide ((q : Int) < (q : Int))) (decide_eq_false (by omega))] at h
    exact round_sound hH no_loops h
theorem loopBo_ok (hX : Bl X) : Tri Tryz.prog (.loop loopBo) (stBo a b X.length (rwL X) [] 0).toA (.exit 0) (stBx a b X.length (rwL X) (tI b X X.length)).toA 2 := by
  have hH : HOK Tryz.prog (ent (R := Ex × PState) Tryz.prog (tabBl lxt pcsf prf smf) nolv 64 1 20) := ent_sound (NF := 64) (m := 1) tabBl_ok host nolv_ok 20
  have hle := hX.le
  have key := tri_up (P := Tryz.prog) (body := loopBo) (ex := .exit 0) (out := (stBx a b X.length (rwL X) (tI b X X.length)).toA) (K := 2) (fun i => (stBo a b X.length (rwL X) (tI b X i) (i : Int)).toA) (by simp) X.length (fun i hi => ?_) ?_ 0 (Nat.zero_le _)
  · exact key
  · have hl := tI_len (b := b) hX.sh i
    have hl2 := tI_len (b := b) hX.sh (i + 1)
    have hw10 := hX.sh X[i] (List.getElem_mem hi)
    have hq := qG_le b (lastO none (X.take i)) i
    have h1 := bo1 lxt pcsf prf smf a b X.length (rwL X) (tI b X i) (i : Int)
    rw [bcT (b := decide ((i : Int) < (X.length : Int))) (decide_eq_true (by omega))] at h1
    have h2 := part2a (a := a) (b := b) hX hi (tI b X i)
    have h3 := part2b (a := a) (b := b) hX hi (tI b X i) ((qG b (lastO none (X.take i)) i : Nat) : Int)
    have h4 := bo3 lxt pcsf prf smf a b X.length (rwL X) (tI b X i) (i : Int) ((qG b (lastO none (X.take i)) i : Nat) : Int) (wrt X[i])
    have hin := loopBi_ok (a := a) (b := b) X.length (rwL X) (tI b X i) (i : Int) (qG b (lastO none (X.take i)) i) (wrt X[i]) (by omega)
    have h5 := bo5 lxt pcsf prf smf a b X.length (rwL X) (tI b X i ++ List.replicate (qG b (lastO none (X.take i)) i) 32) (i : Int) ((qG b (lastO none (X.take i)) i : Nat) : Int) (wrt X[i])
    rw [chks_true (all_one (mx_ok (by rw [List.length_append, List.length_replicate]; omega))), ← tI_succ hi] at h5
    have h6 := bo6 lxt pcsf prf smf a b X.length (rwL X) (tI b X (i + 1)) (i : Int)
    rw [show W ((i : Int) + 1) = ((i + 1 : Nat) : Int) from i64_in (by omega) (by omega)] at h6
    have tB := tri_seq (tri_seq (round_sound hH no_loops h4) (tri_block hin)) (round_sound hH no_loops h5)
    rw [← bl_shape3] at tB
    have tB2 := tri_cut hH h2 (tri_cut hH h3 (by rw [restC_add 3 3 blB1]; exact tB))
    rw [bl_shape2]
    exact tri_seq (round_sound hH no_loops h1) (tri_seq (tri_blockN tB2) (round_sound hH no_loops h6))
  · have h1 := bo1 lxt pcsf prf smf a b X.length (rwL X) (tI b X X.length) (X.length : Int)
    rw [bcF (b := decide ((X.length : Int) < (X.length : Int))) (decide_eq_false (by omega))] at h1
    rw [bl_shape2]
    exact tri_seqX (by simp) (round_sound hH no_loops h1)
theorem blT_ok {w : List UInt8} {Y : List Tk} (h1 : tokE w = 0) (h2 : (tokL w).map ksT = Y.map ksT) (hY : Y ≠ []) (x : Option (AV × List PObj)) : blT lxt smf Y.length (rwL Y) w x = x := by
  unfold blT
  have hE : (tokL w).isEmpty = false := by
    rw [ks_empty h2]
    cases Y with
    | nil => exact absurd rfl hY
    | cons t r => rfl
  rw [chks_true (all_one (show (lxt.e w == 0) = true from beq_iff_eq.2 h1))]
  show bcond (tokL w).isEmpty none _ = x
  rw [hE]
  exact chks_true (smC_ok (L := tokL w) (by have := tokL_len w; omega) h2)
theorem bl9_ok (hX : Bl X) (hne : X ≠ []) : GoesTo Tryz.prog Tryz.f5 [.flatU false a, .flatU false b] pure2 (restC 7 blkC) (stBx a b X.length (rwL X) (tI b X X.length)) (.bool true, [.flatU false a, .flatU false b]) := by
  have h4 : HOK Tryz.prog (ent (R := AV × List PObj) Tryz.prog (tabB2 lxt smf) nolv 64 1 20) := ent_sound (NF := 64) (m := 1) tabB2_ok host nolv_ok 20
  have hle := hX.le
  obtain ⟨k, hk⟩ : ∃ k, X.length = k + 1 := ⟨X.length - 1, by
    have : X.length ≠ 0 := fun e => hne (List.eq_nil_of_length_eq_zero e)
    omega⟩
  refine goes_code (NF := 64) (m := 1) (pre := [.flatU false a, .flatU false b]) h4 no_loops ?_
  have hI : tI b X X.length = gT (QL b none 0 X) 0 := by unfold tI; rw [List.take_length]
  have hlen := tI_len (b := b) hX.sh X.length
  have hw : W (((k + 1 : Nat) : Int) - 1) = ((k : Nat) : Int) := by
    show IntKind.i64.wrap _ = _
    rw [i64_in (by omega) (by omega)]; omega
  have h := bl9 lxt smf a b k (rwL X) (tI b X X.length)
  rw [← hk] at h
  refine h.trans ?_
  rw [bcT (b := decide ((X.length : Int) > 0)) (decide_eq_true (by omega)), hk, hw, ← hk, chks_true (b2_ok (by omega)), (X_row (show k < X.length by omega)).1, ← lastC_get X k hk]
  have hl : (rwL X).length = X.length := List.length_map ..
  cases hc : lastC X with
  | false =>
    obtain ⟨t1, t2⟩ := blank_told (b := b) hX.ok hc hX.sh (by omega)
    rw [gT_end, ← hI] at t1 t2
    show blZ lxt smf a b X.length (rwL X) (tI b X X.length) = _
    unfold blZ
    rw [chks_true (all_one (mx_ok (by omega)))]
    exact blT_ok t1 t2 hne _
  | true =>
    obtain ⟨o1, o2⟩ := okC_snoc X hX.ok
    have hs : ∀ t ∈ X ++ [brT], (wrt t).length ≤ 10 := fun t ht => by
      rcases List.mem_append.1 ht with h | h
      · exact hX.sh t h
      · rw [List.mem_singleton.1 h, brT_ok.2]; decide
    obtain ⟨t1, t2⟩ := blank_told (b := b) o1 o2 hs (by rw [List.length_append]; show X.length + 1 ≤ 9; omega)
    have hq : gT (QL b none 0 (X ++ [brT])) 2 = tI b X X.length ++ [40] ++ [32, 32] := by
      have hlast : lastO none X = some X[k] := by
        have := lastO_take X none k (by omega)
        rwa [← hk, List.take_length] at this
      have h7 : (X[k].k == 7) = true := by rw [← lastC_get X k hk]; exact hc
      rw [gT_end, QL_snoc, gT_snoc, hlast, ← hI, brT_ok.2]
      show tI b X X.length ++ (List.replicate (bcond (X[k].k == 7) 0 _) 32 ++ [40]) ++ [32, 32] = _
      rw [h7]; rfl
    rw [hq] at t1 t2
    show blW lxt smf a b X.length (rwL X) (tI b X X.length) = _
    have hrows : (rwL X).take X.length ++ [tkRow 8 [40] 0] = rwL (X ++ [brT]) := by
      rw [List.take_of_length_le (by omega)]
      show _ = (X ++ [brT]).map Tk.row
      rw [List.map_append]; rfl
    have hrl : (tokO ((rwL X).take X.length)).len = X.length * 3 := by
      rw [List.take_of_length_le (by omega)]; exact row_len X
    unfold blW
    rw [hrows, hrl]
    have hall : ∀ x ∈ [mxB ((tI b X X.length).length + 1), decide (0 < X.length), decide (X.length ≤ (rwL X).length) && roomT X.length, true, decide (X.length * 3 = X.length * 3) && roomT (X.length + 1), mxB ((tI b X X.length ++ [40]).length + 2)], x = true := by
      refine all_cons (mx_ok (by omega)) (all_cons (decide_eq_true (by omega)) (all_cons ?_ (all_cons rfl (all_cons ?_ (all_one (mx_ok ?_))))))
      · rw [decide_eq_true (show X.length ≤ (rwL X).length by omega), roomT_ok (by omega)]; rfl
      · rw [decide_eq_true rfl, roomT_ok (by omega)]; rfl
      · rw [List.length_append]; show _ + 1 + 2 ≤ _; omega
    refine (chks_true hall).trans ?_
    · have e : X.length + 1 = (X ++ [brT]).length := by rw [List.length_append]; rfl
      rw [e]
      exact blT_ok t1 t2 (by simp) _
end
theorem ok32 : tokE [32, 32] = 0 ∧ tokL [32, 32] = [] := ⟨by kernel_rfl, by kernel_rfl⟩
theorem blanks_law (a b : List UInt8) : Meets Tryz.prog 5 [.dsl 0 a.length, .dsl 1 b.length] ([PObj.flatU false a, PObj.flatU false b].map PObj.toA) (.bool true) ([PObj.flatU false a, PObj.flatU false b].map PObj.toA) := by
  have hbody : Tryz.f5.body = some blkC := by kernel_rfl
  suffices hg : GoesTo Tryz.prog Tryz.f5 [.flatU false a, .flatU false b] pure2 blkC (startP Tryz.f5.ntmps [.dsl 0 a.length, .dsl 1 b.length] [.flatU false a, .flatU false b] 64) (.bool true, [.flatU false a, .flatU false b]) by
    obtain ⟨res, post, k1, k2⟩ := goes_meets (R := AV × List PObj) (NF := 64) (args := [.dsl 0 a.length, .dsl 1 b.length]) (pre := [.flatU false a, .flatU false b]) (k := pure2) (r := (.bool true, [.flatU false a, .flatU false b])) host Tryz.func5 hbody hg
    cases k2
    exact k1
  cases he : (pcsOf a).isEmpty with
  | true =>
    have hE : HOK Tryz.prog (ent (R := AV × List PObj) Tryz.prog (tabBlE lxt pcsf smf) nolv 64 1 20) := ent_sound (NF := 64) (m := 1) tabBlE_ok host nolv_ok 20
    refine goes_code (NF := 64) (m := 1) (pre := [.flatU false a, .flatU false b]) hE no_loops ?_
    have hq : _ = chks (bcond (tokL [32, 32]).isEmpty (rvB a b true) none) [Nat.beq a.length a.length, (pcsOf a).isEmpty, tokE [32, 32] == 0] := blE lxt pcsf smf a b
    refine hq.trans ?_
    rw [chks_true (all_cons (Nat.beq_refl _) (all_cons he (all_one (show (tokE [32, 32] == 0) = true by rw [ok32.1]; rfl))))]
    rw [ok32.2]; rfl
  | false =>
    have hN : HOK Tryz.prog (ent (R := Ex × PState) Tryz.prog (tabBlN pcsf) nolv 64 1 20) := ent_sound (NF := 64) (m := 1) tabBlN_ok host nolv_ok 20
    have h0 : HOK Tryz.prog (ent (R := Ex × PState) Tryz.prog tab0 nolv 64 1 20) := ent_sound (NF := 64) (m := 1) tab0_ok host nolv_ok 20
    obtain ⟨sa, la⟩ := pcsOf_short a
    have hpos : 0 < (pcsOf a).length := by
      cases h : pcsOf a with
      | nil => rw [h] at he; cases he
      | cons t r => simp
    have hm : (up8 (pcsOf a).length).toNat = min (pcsOf a).length 8 := by unfold up8; split <;> omega
    obtain ⟨X, hX⟩ : ∃ X, X = (pcsOf a).take (up8 (pcsOf a).length).toNat := ⟨_, rfl⟩
    have hXl : X.length = (up8 (pcsOf a).length).toNat := by rw [hX, List.length_take]; omega
    have hne : X ≠ [] := fun e => by rw [e] at hXl; simp at hXl; omega
    have hB : Bl X := {
      ok := by rw [hX]; exact okC_take _ _ (okC_flat _)
      sh := fun t ht => short_mem (by rw [hX] at ht; exact List.mem_of_mem_take ht)
      ss := by
        refine sh_of fun t ht => ?_
        have ht : t ∈ pcsOf a := by rw [hX] at ht; exact List.mem_of_mem_take ht
        have h1 := List.all_eq_true.1 sa t.row (List.mem_map_of_mem ht)
        exact Nat.le_of_ble_eq_true h1
      le := by omega }
    have hp1 := bl1 pcsf a b
    have hp1 : _ = chks (some (Ex.normal, stBp a b (up8 (pcsOf a).length).toNat (rwL (pcsOf a)) [])) [Nat.beq a.length a.length, !(pcsOf a).isEmpty, decide (0 ≤ up8 (pcsOf a).length) && decide (0 < 3 ∧ (up8 (pcsOf a).length).toNat * 3 ≤ (tokO (rwL (pcsOf a))).lenP)] := hp1
    rw [chks_true (all_cons (Nat.beq_refl _) (all_cons (show (!(pcsOf a).isEmpty) = true by rw [he]; rfl) (all_one (by
      rw [decide_eq_true (show 0 ≤ up8 (pcsOf a).length by unfold up8; split <;> omega)]
      have hln : (tokO (rwL (pcsOf a))).lenP = (pcsOf a).length * 3 := by
        show (rwL (pcsOf a)).length * 3 = _
        rw [show (rwL (pcsOf a)).length = (pcsOf a).length from List.length_map ..]
      rw [hln, Bool.true_and]
      exact decide_eq_true ⟨by decide, by omega⟩))))] at hp1
    refine goes_runs (pre := [.flatU false a, .flatU false b]) hN no_loops hp1 rfl ?_
    rw [← hXl]
    refine goes_shrink (me' := [some (.flatU false a), some (.flatU false b), some (tokO (rwL X))] ++ nn 64) (fun n => ?_) ?_
    · match n with
      | 0 => exact ⟨fun e => e, fun o e => ⟨o, e, .inl rfl⟩⟩
      | 1 => exact ⟨fun e => e, fun o e => ⟨o, e, .inl rfl⟩⟩
      | 2 =>
        refine ⟨fun e => (by cases e), fun o e => ⟨tokO (rwL (pcsOf a)), rfl, ?_⟩⟩
        cases e
        have hr : rwL X = (rwL (pcsOf a)).take X.length := by
          rw [hXl, hX]; exact List.map_take ..
        show sameV (PObj.vecR shTok (rwL (pcsOf a)) _).toA (PObj.vecR shTok (rwL X) _).toA
        rw [hr]; exact sameV_rows _ _ _ _
      | n + 3 => exact ⟨fun e => e, fun o e => ⟨o, e, .inl rfl⟩⟩
    · have hs := bo0 a b X.length (rwL X) []
      have hloop := loopBo_ok (a := a) (b := b) hB
      show GoesTo Tryz.prog Tryz.f5 [.flatU false a, .flatU false b] pure2 (restC 6 blkC) (stBp a b X.length (rwL X) []) _
      rw [bl_shape]
      exact goes_tri (pre := [.flatU false a, .flatU false b]) (tri_seq (round_sound h0 no_loops hs) (tri_block hloop)) (bl9_ok hB hne)
end Go.Proofs.YtebieapmoaaahaaGreatDoor

/- Structs of plain fields (numbers, bools, strings), by value: opened and shut. -/
set_option linter.unusedVariables false
set_option linter.unusedSimpArgs false
namespace Go.Proofs.YtebieapmoaaahaaGreatDoor.Sx
open Go Go.ChangeShapes Go.WideShapes Go.ChangeAt Go.RowKit Go.Joins Go.Deep

/-- A plain field's kind; its value. -/
inductive FK where
  | int (k : IntKind)
  | bool
  | str
inductive FV where
  | int (k : IntKind) (n : Int)
  | bool (b : Bool)
  | str (s : ByteArray)
def FV.kind : FV → FK
  | .int k _ => .int k
  | .bool _ => .bool
  | .str _ => .str
def FV.val : FV → Value
  | .int k n => .int k n
  | .bool b => .bool b
  | .str s => .string s
def FV.ok : FV → Prop
  | .int k n => (Lit.int k n).wf = true
  | .bool _ => True
  | .str s => s.size ≤ maxLen

section
variable {H : Type} {enc : TypeId × Value → H} {P : Program} {w : World} {base : Nat} {spare : Nat → Bool} {held : Bool}





end


end Go.Proofs.YtebieapmoaaahaaGreatDoor.Sx

/- The plain wrap with tables laid AND the world's shape: both at once. -/
set_option linter.unusedVariables false
namespace Go.Proofs.YtebieapmoaaahaaGreatDoor
open Go
theorem returnsInHanded_both {H : Type} {enc : TypeId × Value → H} {a : Assume} {C : Checked} {os : Os} {f : FuncId} {fn : Func} {s : ChangeSpec} {conds : List PathCond} {apart fresh handsOn again : Bool} {X : World → Array Value → Prop}
    (hX : ∀ (w w' : World) (args : Array Value), w.heap = w'.heap → X w args → X w' args)
    (own : ownKnob C.prog.godebug = none) (started : os.Started) (noInit : C.prog.inits.idxOf? f = none) (hfn : C.prog.funcs[f]? = some fn)
    (witness : ∃ (w : World) (tape : Tape) (i : Input), w.os = os ∧ (w.forCall tape i).Shaped C.prog ∧ i.vars = [] ∧ Input.okWide C.prog (w.forCall tape i) .any w.heap.size f i ∧
      ((s.pre enc C.prog fn conds apart (w.forCall tape i).memory i.args ∧ X (w.forCall tape i).memory i.args) ∧ sizedMet enc C.prog fn (OpenSpec.ofChange s) apart (w.forCall tape i).memory i.args) ∧ a.holds C.prog (lone (Frame.enter C.prog f i.args .normal) [] (w.forCall tape i)))
    (contract : ∀ (W : World) (base : Nat) (args : Array Value) (ds gs : List (DataW H)) (before : List MemPlace),
      (∀ (j : Nat) t v, fn.params[j]? = some t → args[j]? = some v → Value.okWide C.prog W .any base t v) →
      DataW.Whole enc C.prog fn.params.toList s.vars apart W args.toList ds gs before → X W args → W.ShapedOpen C.prog →
      Calls C.prog f args W fun e W' => ∃ v, e = .returned v ∧ s.post enc C.prog fn apart fresh handsOn again W args v W') :
    ReturnsInHanded a C os f .any (fun w args => (s.pre enc C.prog fn conds apart w args ∧ X w args) ∧ sizedMet enc C.prog fn (OpenSpec.ofChange s) apart w args) (s.post enc C.prog fn apart fresh handsOn again) := by
  refine returnsInHanded_of_calls own started noInit witness ?_
  intro w tape i _ hsh _ hok hpre hholds
  obtain ⟨_, _, _, fn', hfn', _, _, _, _, hval⟩ := hok
  obtain rfl := Option.some.inj (hfn'.symm.trans hfn)
  obtain ⟨⟨⟨ds, gs, before, hw, hc⟩, hx⟩, hz⟩ := hpre
  refine (contract (w.forCall tape i) w.heap.size i.args ds gs before hval (DataW.Whole.of_heap (w' := w.forCall tape i) (by rfl) hw) (hX _ _ _ (by rfl) hx) hsh).mono fun e W' ⟨v, he, hp⟩ => ?_
  subst he
  exact ChangeSpec.post_blind hp
end Go.Proofs.YtebieapmoaaahaaGreatDoor
