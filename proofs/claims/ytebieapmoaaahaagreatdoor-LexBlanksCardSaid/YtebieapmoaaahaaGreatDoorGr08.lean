/- Layer 4: where pieces stand: plain mathematics. -/
import Derived.Test.YtebieapmoaaahaaGreatDoorGr07
import Derived.Test.YtebieapmoaaahaaGreatDoorGr04
set_option linter.unusedVariables false
set_option linter.unusedSimpArgs false
namespace Go.Proofs.YtebieapmoaaahaaGreatDoor
open Go Sx
theorem dwS (p : UInt8 → Bool) (l : List UInt8) : l.dropWhile p <:+ l := List.dropWhile_suffix p
theorem drS (n : Nat) (l : List UInt8) : l.drop n <:+ l := List.drop_suffix n l
theorem bcS {b : Bool} {x y l : List UInt8} (h1 : x <:+ l) (h2 : y <:+ l) : bcond b x y <:+ l := by cases b <;> assumption
theorem p1S (l : List UInt8) : lxo.p1 l <:+ l := bcS (drS 1 l) (List.suffix_refl l)
theorem blS (c : Int) (l : List UInt8) : betL c l <:+ l := by
  unfold betL; split
  · exact List.suffix_refl l
  · exact drS _ l
theorem tkS (n : Nat) (l : List UInt8) : List.take (l.length - n) (List.drop n l) <:+ l := by
  rw [List.take_of_length_le (by simp)]; exact drS n l
theorem behS' (w r : List UInt8) : (behP w r).r <:+ r := by
  show (cut1 r).dropWhile _ <:+ r
  rw [cut1_eq]
  exact (dwS _ _).trans (drS 1 r)
theorem cocS' (w r : List UInt8) : (cocP w r).r <:+ r := by
  unfold cocP
  cases cocB r with
  | false => exact List.suffix_refl r
  | true =>
    show bcond (decide (ixC 93 (cut1 r) ≥ 0)) ((cut1 r).drop _) [] <:+ r
    rw [cut1_eq]
    exact bcS ((drS _ _).trans (drS 1 r)) (List.nil_suffix)
theorem plnS (w r : List UInt8) : (plnP w r).r <:+ r := by
  unfold plnP
  cases refB w <;> cases truB w <;> exact List.suffix_refl r
theorem worS (w r : List UInt8) : (worQ w r).r <:+ r := by
  unfold worQ
  cases firI r == 33 with
  | true => exact behS' w r
  | false =>
    cases firI r == 40 with
    | true => cases decide (w.length ≤ 30) && !conB 36 w with
      | true => exact List.suffix_refl r
      | false => exact plnS w r
    | false => cases firI r == 91 && namB w with
      | true => exact cocS' w r
      | false => exact plnS w r
theorem sgsS (l : List UInt8) : (sgsP l).r <:+ l := by
  unfold sgsP
  cases decide (2 ≤ l.length) && sgL.contains (l.take 2) with
  | true => exact tkS _ l
  | false => cases decide (1 ≤ l.length) && sgL.contains (l.take 1) with
    | true => exact tkS _ l
    | false => exact List.suffix_refl l
/-- What is left is the end of what was. -/
theorem pc_suf (l : List UInt8) : (pcF l).r <:+ l := by
  unfold pcF
  cases digB (firI l) with
  | true =>
    show (numP l).r <:+ l
    unfold numP
    cases lxo.p2 (lxo.dp digB l) && digB (firI (lxo.p1 (lxo.dp digB l))) with
    | true => exact ((dwS _ _).trans (p1S _)).trans (dwS _ l)
    | false => exact dwS _ l
  | false => cases firI l == 34 with
    | true =>
      show (txtP l).r <:+ l
      unfold txtP
      cases betB 34 l <;> exact blS 34 l
    | false => cases firI l == 35 with
      | true =>
        show (fauP l).r <:+ l
        unfold fauP
        split
        · exact List.suffix_refl l
        · exact tkS _ l
      | false => cases firI l == 39 with
        | true =>
          show (quoP l).r <:+ l
          unfold quoP
          cases betB 39 l && firI (betL 39 l) == 33 with
          | true => exact (behS' _ _).trans (blS 39 l)
          | false => exact blS 39 l
        | false => cases fstB (firI l) with
          | true => exact (worS _ _).trans (dwS _ l)
          | false => exact sgsS l
theorem blD_suf (l : List UInt8) : blD l <:+ l := dwS _ l
end Go.Proofs.YtebieapmoaaahaaGreatDoor

/- Layer 4: the law of places. -/
set_option linter.unusedVariables false
set_option linter.unusedSimpArgs false
namespace Go.Proofs.YtebieapmoaaahaaGreatDoor
open Go Sx
-- the law
end Go.Proofs.YtebieapmoaaahaaGreatDoor

/- Layer 4: the law of words: its parts. -/
set_option linter.unusedVariables false
set_option linter.unusedSimpArgs false
namespace Go.Proofs.YtebieapmoaaahaaGreatDoor
open Go Sx
noncomputable abbrev wdB : Code := bodyOf Tryz.f8
def stW1 (l : Nat) (b w : List UInt8) (i : Int) : PState := ⟨[some (.dsl 0 l)] ++ nn 2 ++ [some (.bool true), some (.str w), some (.int .i64 i)] ++ nn 213, [some (.flatU false b)] ++ nn 64⟩
def stW2 (b w : List UInt8) : PState := ⟨nn 3 ++ [some (.bool true), some (.str w)] ++ nn 214, [some (.flatU false b)] ++ nn 64⟩
structure Wd where
  b : List UInt8
  w : List UInt8
  L : List Tk
  M : List Tk
  e : Int
  f : Int
  g : Int
end Go.Proofs.YtebieapmoaaahaaGreatDoor

/- Layer 4: the law of words: its parts, told. -/
set_option linter.unusedVariables false
set_option linter.unusedSimpArgs false
namespace Go.Proofs.YtebieapmoaaahaaGreatDoor
open Go Sx
noncomputable def lvW1 (l : Nat) (b w : List UInt8) : Lv := { keep := fun _ => some [0, 3, 4, 5], ent := oneL 6 (eAt 1 (stW1 l b [] 0) (.chk (Nat.beq l b.length) (.out (.exit 0) (stW2 b w)))) }
theorem partA (T : LxT) (O : LxO) (F : RdF) (l : Nat) (b w : List UInt8) : runsC (ent (R := Ex × PState) Tryz.prog (tabK T O F) nolv 64 1 20) Tryz.prog (lvW1 l b w) 1 64 1 (endK 1 64 (fun n => hasN [3, 4] n) (fun n => hasN [2] n)) 5 wdB (startP Tryz.f8.ntmps [.dsl 0 l] [.flatU false b] 64) =
  bcond (eqSt (stW1 l b [] 0) (stW1 l b [] 0)) (bcond (Nat.beq l b.length) (some (.normal, stW2 b w)) none) none := by kernel_rfl
end Go.Proofs.YtebieapmoaaahaaGreatDoor

/- Layer 4: the law of words: its parts, told (the loop). -/
set_option linter.unusedVariables false
set_option linter.unusedSimpArgs false
namespace Go.Proofs.YtebieapmoaaahaaGreatDoor
open Go Sx
end Go.Proofs.YtebieapmoaaahaaGreatDoor

/- Layer 4: the law of words: its parts, told (the bracket). -/
set_option linter.unusedVariables false
set_option linter.unusedSimpArgs false
namespace Go.Proofs.YtebieapmoaaahaaGreatDoor
open Go Sx
end Go.Proofs.YtebieapmoaaahaaGreatDoor

/- Layer 4: the law of words: its parts, told (the end). -/
set_option linter.unusedVariables false
set_option linter.unusedSimpArgs false
namespace Go.Proofs.YtebieapmoaaahaaGreatDoor
open Go Sx
end Go.Proofs.YtebieapmoaaahaaGreatDoor

/- Layer 4: the law of words. -/
set_option linter.unusedVariables false
set_option linter.unusedSimpArgs false
namespace Go.Proofs.YtebieapmoaaahaaGreatDoor
open Go Sx
theorem all_cons {b : Bool} {l : List Bool} (h : b = true) (hl : ∀ x ∈ l, x = true) : ∀ x ∈ b :: l, x = true := fun x hx => (List.mem_cons.1 hx).elim (fun e => e.trans h) (hl x)
theorem b20 {t : Tk} {L : List Tk} : ∀ x ∈ b2 0 (t :: L).length ((t :: L).map Tk.row), x = true := b2_ok (i := 0) (L := t :: L) (by simp)
theorem row0 (t : Tk) (L : List Tk) : kR ((t :: L).map Tk.row) 0 = t.k ∧ sR ((t :: L).map Tk.row) 0 = t.s := by
  have := at_row (L := t :: L) (i := 0) (t := t) rfl
  exact ⟨this.1, this.2.1⟩
end Go.Proofs.YtebieapmoaaahaaGreatDoor
