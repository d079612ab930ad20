/- Layer 2, the law in parts: its end, areas and places. -/
import Derived.Test.YtanhlbdcjonaoaaGreatDoorGr17
import Derived.Test.YtanhlbdcjonaoaaGreatDoorRtV
import Derived.Test.YtanhlbdcjonaoaaGreatDoorRtW
import Derived.Test.YtanhlbdcjonaoaaGreatDoorRtX
import Derived.Test.YtanhlbdcjonaoaaGreatDoorGr05
import Derived.ChangeSame
import Derived.JoinedOf
import Derived.JoinedAt
import Derived.RowKit3
import Derived.Lib.SmallJoins
import Derived.WalkKit
import Derived.ProofKit
import Derived.OpenShut
set_option linter.unusedVariables false
set_option linter.unusedSimpArgs false
namespace Go.Proofs.YtanhlbdcjonaoaaGreatDoor
open Go Sx
theorem partD (x : LawF) (X Y : Rf) (a b : Ar) (p0 p1 p2 n m q : Int) :
    code (ent Tryz.prog (tabLw x) nolv 64 18446744073709551616 30) Tryz.prog {} 0 64 18446744073709551616 (restC 8 (bodyOf Tryz.f3)) (stL X Y a b p0 p1 p2 n m q) (finP Tryz.prog Tryz.f3 0 [] pure2) = (lastT a b p0 p1 p2).run pure2 := by kernel_rfl
end Go.Proofs.YtanhlbdcjonaoaaGreatDoor

/- Layer 2, the law: the functions that it calls, put in. -/
set_option linter.unusedVariables false
set_option linter.unusedSimpArgs false
namespace Go.Proofs.YtanhlbdcjonaoaaGreatDoor
open Go Sx

def lw : LawF where
  F := refS
  okF := fun X => inI X.r && inI X.c && decide (X.s.length ≤ 9223372036854775807)
  W := txV
  w := txE
  okW := fun X => decide (X.s.length ≤ 9223372036854775807)
  G := rdV
  g := rdE
  R := rcG2
  okl := okM
  C := colC
  E := colE
  okc := inI
  B := rightB
  V := mvO
  v := erM
  okV := fun X m n => inI m && inI n && decide (X.s.length ≤ 9223372036854775807)
  A := arA
  e := erA
  okA := fun X Y => decide (X.s.length ≤ 9223372036854775807) && decide (Y.s.length ≤ 9223372036854775807)
  Q := quS
  p := pickS
  okp := fun a n => inI a && decide (0 < n)

theorem refOfW_ok : EntOK Tryz.prog 6 (entRfW lw.okF lw.F) := fun args pre => by
  unfold entRfW
  split
  · rename_i s r c a b d; exact refOf_ok [.agg [.str s, .int .i64 r, .int .i64 c, .bool a, .bool b, .bool d]] []
  · trivial
theorem pickW_ok : EntOK Tryz.prog 7 (entPk lw.okp lw.p) := fun args pre => by
  unfold entPk
  split
  · rename_i a n; exact pick_ok [.int .i64 a, .int .i64 n] []
  · trivial
theorem txW_ok : EntOK Tryz.prog 15 (entTxW lw.okW lw.W lw.w) := fun args pre => by
  unfold entTxW
  split
  · rename_i s r c a b d; exact textA_ok [.agg [.str s, .int .i64 r, .int .i64 c, .bool a, .bool b, .bool d]] []
  · trivial
theorem txWD_ok : EntOK Tryz.prog 5 (entTxW lw.okW lw.W lw.w) := fun args pre => by
  unfold entTxW
  split
  · rename_i s r c a b d; exact textD_ok [.agg [.str s, .int .i64 r, .int .i64 c, .bool a, .bool b, .bool d]] []
  · trivial
theorem rdW_ok : EntOK Tryz.prog 9 (entRdW lw.okl lw.G lw.g) := fun args pre => by
  unfold entRdW
  split
  · rename_i l; exact rdG_ok [.str l] []
  · trivial
theorem rdWD_ok : EntOK Tryz.prog 10 (entRdW lw.okl lw.G lw.g) := fun args pre => by
  unfold entRdW
  split
  · rename_i l; exact readD_ok [.str l] []
  · trivial
theorem colP_ok : EntOK Tryz.prog 13 (eColX lw.okc lw.C lw.E) := fun args pre => by
  unfold eColX
  split
  · rename_i n
    have h := column_ok [.int .i64 n] []
    refine ⟨fun hi => ?_, fun _ => trivial⟩
    have h := h.1 hi
    show AnsOK _ _ _ _ (.ret (.tuple [.str (colC n), .int .i64 (colE n)]) [])
    unfold colC colE
    cases hb : colB n with
    | true => exact h.1 hb
    | false => exact h.2 hb
  · trivial
theorem rightP_ok : EntOK Tryz.prog 16 (entRiW lw.okW lw.B) := fun args pre => by
  unfold entRiW
  split
  · rename_i s r c a b d; exact ⟨fun _ => right_ok [.agg [.str s, .int .i64 r, .int .i64 c, .bool a, .bool b, .bool d]] [], fun _ => trivial⟩
  · trivial
theorem rightW_ok : EntOK Tryz.prog 17 (entRiW lw.okW lw.B) := fun args pre => by
  unfold entRiW
  split
  · rename_i s r c a b d; exact rightD_ok [.agg [.str s, .int .i64 r, .int .i64 c, .bool a, .bool b, .bool d]] []
  · trivial
theorem mvP_ok : EntOK Tryz.prog 18 (entMvW lw.okV lw.V lw.v) := fun args pre => by
  unfold entMvW
  split
  · rename_i s r c a b d m n; exact ⟨fun _ => moved_ok [.agg [.str s, .int .i64 r, .int .i64 c, .bool a, .bool b, .bool d], .int .i64 m, .int .i64 n] [], fun _ => trivial⟩
  · trivial
theorem mvW_ok : EntOK Tryz.prog 19 (entMvW lw.okV lw.V lw.v) := fun args pre => by
  unfold entMvW
  split
  · rename_i s r c a b d m n; exact movedD_ok [.agg [.str s, .int .i64 r, .int .i64 c, .bool a, .bool b, .bool d], .int .i64 m, .int .i64 n] []
  · trivial
theorem arP_ok : EntOK Tryz.prog 20 (entArW lw.okA lw.A lw.e) := fun args pre => by
  unfold entArW
  split
  · rename_i s r c a b d s2 r2 c2 a2 b2 d2 n; exact ⟨fun _ => area_ok [.agg [.str s, .int .i64 r, .int .i64 c, .bool a, .bool b, .bool d], .agg [.str s2, .int .i64 r2, .int .i64 c2, .bool a2, .bool b2, .bool d2], .int .i64 n] [], fun _ => trivial⟩
  · trivial
theorem arW_ok : EntOK Tryz.prog 21 (entArW lw.okA lw.A lw.e) := fun args pre => by
  unfold entArW
  split
  · rename_i s r c a b d s2 r2 c2 a2 b2 d2 n; exact areaD_ok [.agg [.str s, .int .i64 r, .int .i64 c, .bool a, .bool b, .bool d], .agg [.str s2, .int .i64 r2, .int .i64 c2, .bool a2, .bool b2, .bool d2], .int .i64 n] []
  · trivial
theorem tabLw_ok : TabOK Tryz.prog (tabLw lw) :=
  .cons awake_ok (.cons refOfW_ok (.cons pickW_ok (.cons txW_ok (.cons txWD_ok (.cons rdW_ok (.cons rdWD_ok (.cons readColP_ok (.cons readColD2_ok (.cons colP_ok (.cons colX_ok (.cons rightP_ok (.cons rightW_ok (.cons mvP_ok (.cons mvW_ok (.cons arP_ok (.cons arW_ok (.cons quotX_ok (.cons areas_ok (.cons refArea_ok (.cons refAt_ok tab0_ok))))))))))))))))))))
end Go.Proofs.YtanhlbdcjonaoaaGreatDoor

/- Layer 2, the law: it is so for every input. -/
set_option linter.unusedVariables false
set_option linter.unusedSimpArgs false
namespace Go.Proofs.YtanhlbdcjonaoaaGreatDoor
open Go Sx

theorem sameR_self (X : Rf) : sameR X X = true := by unfold sameR; simp
theorem ckT {b : Bool} {x : OX} (h : b = true) : ckX b x = x := by unfold ckX; rw [bcT h]
theorem oneX_next {x : LawF} {u : List UInt8} {nx : OX} (h : x.okl u = true) : oneX x u nx = nx := by
  unfold oneX
  rw [ckT h, ckT h, ckT h, ckT h, sameR_self]
  simp [bcond]
theorem oneCX_next {x : LawF} {m : Int} {nx : OX} (h : x.okc m = true) : oneCX x m nx = nx := by
  unfold oneCX
  rw [ckT h, ckT h]
  simp [bcond]
theorem oneMX_next {x : LawF} {r : Rf} {m n : Int} {nx : OX} (h : x.okV r m n = true) : oneMX x r m n nx = nx := by
  unfold oneMX
  rw [ckT h, ckT h, sameR_self]
  simp [bcond]
theorem oneAX_next {x : LawF} {r q : Rf} {n : Int} {nx : OX} (h1 : x.okp n 9 = true) (h2 : x.okA r q = true) : oneAX x r q n nx = nx := by
  unfold oneAX
  rw [ckT h1, ckT h2, ckT h1, ckT h2, sameA_self]
  simp [bcond]
theorem oneFX_next {x : LawF} {r Y : Rf} {n m q : Int} {nx : OX} (h1 : x.okW r = true) (h2 : x.okp m 21 = true) (h3 : x.okp q 21 = true) (h4 : x.okV r m q = true) (h5 : x.okV r (w64 (x.p m 21 - 10)) (w64 (x.p q 21 - 10)) = true) (h6 : x.okF Y = true) (h7 : x.okp n 9 = true) (h8 : x.okA r Y = true) (h9 : x.okA r (x.F Y) = true) : oneFX x r Y n m q nx = nx := by
  unfold oneFX
  rw [ckT h1, ckT h1, ckT h1, ckT h1, ckT h2, ckT h3, oneMX_next h4, oneMX_next h5, ckT h6, oneAX_next h7 h8, oneAX_next h7 h9]
  simp [bcond]

theorem txt_len2 {Z : Rf} (hZ : rightB Z = true) : (txtS Z).length ≤ 1000 := by
  have := right_len hZ
  unfold txtS
  cases Z.d with
  | true => simp [bcond]
  | false =>
    have h1 := (col_len Z.c.toNat).2
    have h2 := (row_len (Z.r + 1).toNat).2
    have h3 : ∀ (b : Bool) (x : List UInt8) (n : Nat), x.length ≤ n → (bcond b x []).length ≤ n := fun b x n hx => by cases b <;> simp [bcond]; exact hx
    have h4 : (wriS Z.s).length ≤ 62 := by
      by_cases h0 : Z.s = []
      · rw [h0]; exact Nat.le_of_ble_eq_true rfl
      · have := (wri_len h0).2; omega
    have h5 := h3 (!(Z.s == [])) (wriS Z.s ++ [33]) 63 (by simp only [List.length_append, List.length_cons, List.length_nil]; omega)
    have h6 := h3 Z.b [36] 1 (by simp)
    have h7 := h3 Z.a [36] 1 (by simp)
    simp only [bcond, List.length_append] at *
    omega
theorem txV_len {Z : Rf} (hZ : rightB Z = true) : (txV Z).length ≤ 1000 := by
  unfold txV; rw [bcT hZ]; exact txt_len2 hZ
theorem hd_le (k : Int) (t : List UInt8) : (hdC k t).length ≤ t.length := by unfold hdC; simp; omega
theorem tl_le (k : Int) (t : List UInt8) : (tlC k t).length ≤ t.length := by unfold tlC; simp
theorem x1_le (s : List UInt8) : (x1F s).length ≤ 60 := by unfold x1F a60; simp; split <;> omega
theorem okM_of {l : List UInt8} (h : l.length ≤ 1000000) : okM l = true := decide_eq_true h

theorem tells_law (X Y : Rf) (a b : Ar) (p0 p1 p2 : Int) (s : List UInt8) (n m q : Int) (hX1 : inI X.r = true) (hX2 : inI X.c = true) (hX3 : X.s.length ≤ 9223372036854775807) (hY1 : inI Y.r = true) (hY2 : inI Y.c = true) (hY3 : Y.s.length ≤ 9223372036854775807)
    (ha : a.inB = true) (hb : b.inB = true) (h0 : inI p0 = true) (h1 : inI p1 = true) (h2 : inI p2 = true) (hs : s.length ≤ 9223372036854775807) (hn : inI n = true) (hm : inI m = true) (hq : inI q = true) :
    Meets Tryz.prog 3 (argsL X Y a b p0 p1 p2 s n m q) [] (.bool true) [] := by
  have fX : lw.okF X = true := by show (inI X.r && inI X.c && decide (X.s.length ≤ 9223372036854775807)) = true; rw [hX1, hX2, decide_eq_true hX3]; rfl
  have fY : lw.okF Y = true := by show (inI Y.r && inI Y.c && decide (Y.s.length ≤ 9223372036854775807)) = true; rw [hY1, hY2, decide_eq_true hY3]; rfl
  have rX : rightB (lw.F X) = true := refS_right X
  have rY : rightB (lw.F Y) = true := refS_right Y
  have lX := right_len rX
  have lY := right_len rY
  have wX : lw.okW X = true := decide_eq_true hX3
  have wFX : lw.okW (lw.F X) = true := decide_eq_true (by omega)
  have tl : (lw.W (lw.F X)).length ≤ 1000 := txV_len rX
  have tw : w64 (((lw.W (lw.F X)).length : Int) + 1) = ((lw.W (lw.F X)).length : Int) + 1 := i64_in (by omega) (by omega)
  have pk : ∀ {u v : Int}, inI u = true → 0 < v → lw.okp u v = true := fun h1 h2 => by show (_ && _) = true; rw [h1, decide_eq_true h2]; rfl
  have hk := pickS_bd (a := n) (n := ((lw.W (lw.F X)).length : Int) + 1) (by omega)
  have vk : ∀ (Z : Rf) (u v : Int), inI u = true → inI v = true → Z.s.length ≤ 9223372036854775807 → lw.okV Z u v = true := fun Z u v g1 g2 g3 => by show (inI u && inI v && decide (Z.s.length ≤ 9223372036854775807)) = true; rw [g1, g2, decide_eq_true g3]; rfl
  have ak : ∀ (Z U : Rf), Z.s.length ≤ 9223372036854775807 → U.s.length ≤ 9223372036854775807 → lw.okA Z U = true := fun Z U g1 g2 => by show (decide (Z.s.length ≤ 9223372036854775807) && decide (U.s.length ≤ 9223372036854775807)) = true; rw [decide_eq_true g1, decide_eq_true g2]; rfl
  have hA := partA lw X Y a b p0 p1 p2 s n m q
  have eA : runsC (ent (R := Ex × PState) Tryz.prog (tabLw lw) nolv 64 18446744073709551616 30) Tryz.prog {} 0 64 18446744073709551616 (endK 0 64 keepL keepR) 6 (bodyOf Tryz.f3) (startP 317 (argsL X Y a b p0 p1 p2 s n m q) [] 64) = some (.normal, stL X Y a b p0 p1 p2 n m q) := by
    rw [hA, tw]
    have hk' : 0 ≤ lw.p n (((lw.W (lw.F X)).length : Int) + 1) ∧ lw.p n (((lw.W (lw.F X)).length : Int) + 1) < ((lw.W (lw.F X)).length : Int) + 1 := hk
    have kp : lw.okp n (((lw.W (lw.F X)).length : Int) + 1) = true := pk hn (by omega)
    clear hA hk
    have c0 : cutB (a60 s) s = true := decide_eq_true (by unfold a60; split <;> omega)
    rw [ckT c0, ckT fX, ckT wFX, ckT kp]
    generalize lw.p n (((lw.W (lw.F X)).length : Int) + 1) = k at hk' kp ⊢
    generalize lw.W (lw.F X) = t at *
    have x1 := x1_le s
    generalize hu : x1F s = u at *
    have c1 : cutB k t = true := decide_eq_true (by omega)
    have c2 : cutB (mn1 u) u = true := decide_eq_true (by unfold mn1; split <;> omega)
    have g1 := hd_le k t
    have g2 := hd_le (mn1 u) u
    have g3 := tl_le (mnL k t) t
    have sw : swA k = k + 1 := by unfold swA; exact i64_in (by omega) (by omega)
    have c4 : cutB (mnL k t) t = true := decide_eq_true (by unfold mnL; rw [sw]; split <;> omega)
    have c3 : lnB (hdC k t) (hdC (mn1 u) u) = true := lnB_ok (by omega) (by omega)
    have c5 : lnB (hdC k t ++ hdC (mn1 u) u) (tlC (mnL k t) t) = true := lnB_ok (by rw [List.length_append]; omega) (by omega)
    have c8 : lnB (hdC k t) (tlC (mnL k t) t) = true := lnB_ok (by omega) (by omega)
    have ql : (lw.Q u).length ≤ 200 := by
      have := dbl_len u
      show (quS u).length ≤ 200
      unfold quS; simp only [List.length_cons, List.length_append, List.length_nil]; omega
    have c9 : lw.okl u = true := okM_of (by omega)
    have c10 : lnB (lw.Q u) [33, 65, 49] = true := lnB_ok (by omega) (by simp)
    unfold preX txtsX
    rw [hu, ckT c1, ckT c2, ckT c3, ckT c4, ckT c5, ckT c1, ckT c4, ckT c8, ckT c9, ckT c10,
      oneX_next c9, oneX_next (okM_of (l := t) (by omega)), oneX_next (okM_of (by simp only [List.length_append]; omega)), oneX_next (okM_of (by simp only [List.length_append]; omega)), oneX_next (okM_of (by simp only [List.length_append, List.length_cons, List.length_nil]; omega))]
  have eB : runsC (ent (R := Ex × PState) Tryz.prog (tabLw lw) nolv 64 18446744073709551616 30) Tryz.prog {} 0 64 18446744073709551616 (endK 0 64 keepL keepR) 1 (restC 6 (bodyOf Tryz.f3)) (stL X Y a b p0 p1 p2 n m q) = some (.normal, stL X Y a b p0 p1 p2 n m q) := by
    have h6 : 0 ≤ lw.p n 60 ∧ lw.p n 60 < 60 := pickS_bd (by omega)
    rw [partB, ckT (pk hn (by omega)), oneCX_next hn, oneCX_next]
    exact inI_iff.2 (by rw [show w64 (lw.p n 60 - 4) = lw.p n 60 - 4 from i64_in (by omega) (by omega)]; omega)
  have eC : runsC (ent (R := Ex × PState) Tryz.prog (tabLw lw) nolv 64 18446744073709551616 30) Tryz.prog {} 0 64 18446744073709551616 (endK 0 64 keepL keepR) 1 (restC 7 (bodyOf Tryz.f3)) (stL X Y a b p0 p1 p2 n m q) = some (.normal, stL X Y a b p0 p1 p2 n m q) := by
    have i21 : ∀ u : Int, inI (w64 (lw.p u 21 - 10)) = true := fun u => by
      have h6 : 0 ≤ lw.p u 21 ∧ lw.p u 21 < 21 := pickS_bd (by omega)
      exact inI_iff.2 (by rw [show w64 (lw.p u 21 - 10) = lw.p u 21 - 10 from i64_in (by omega) (by omega)]; omega)
    rw [partC, ckT fX, oneFX_next wX (pk hm (by omega)) (pk hq (by omega)) (vk X m q hm hq hX3) (vk X _ _ (i21 m) (i21 q) hX3) fY (pk hn (by omega)) (ak X Y hX3 hY3) (ak X _ hX3 (by omega)),
      oneFX_next wFX (pk hm (by omega)) (pk hq (by omega)) (vk _ m q hm hq (by omega)) (vk _ _ _ (i21 m) (i21 q) (by omega)) fY (pk hn (by omega)) (ak _ Y (by omega) hY3) (ak _ _ (by omega) (by omega))]
  have eD : code (ent Tryz.prog (tabLw lw) nolv 64 18446744073709551616 30) Tryz.prog {} 0 64 18446744073709551616 (restC 8 (bodyOf Tryz.f3)) (stL X Y a b p0 p1 p2 n m q) (finP Tryz.prog Tryz.f3 0 [] pure2) = some (.bool true, []) := by
    rw [partD]
    have ia : (areaS a).inB = true := by have := areaS_bd a; rw [Ar.in_iff]; omega
    have ib : (areaS b).inB = true := by have := areaS_bd b; rw [Ar.in_iff]; omega
    unfold lastT
    simp only [Ans.run, Ans.chk, ha, hb, h0, h1, h2, ia, ib, Bool.and_self, bcond]
    rfl
  have hbody : Tryz.f3.body = some (bodyOf Tryz.f3) := by kernel_rfl
  have nl : ∀ c : Code, LoopsOK Tryz.prog {} ([] : List PObj).length c := fun c x hx id e h1 h2 => by cases h2
  have hH : HOK Tryz.prog (ent (R := Ex × PState) Tryz.prog (tabLw lw) nolv 64 18446744073709551616 30) := ent_sound tabLw_ok host nolv_ok 30
  obtain ⟨res, post, k1, k2⟩ := goes_meets (R := AV × List PObj) (NF := 64) (args := argsL X Y a b p0 p1 p2 s n m q) (pre := []) (k := pure2) (r := (.bool true, [])) host Tryz.func3 hbody
    (goes_cut (pre := []) hH (nl _) eA (goes_cut (pre := []) hH (nl _) eB (by rw [restC_add]; exact goes_cut (pre := []) hH (nl _) eC (by rw [restC_add]; exact goes_code (pre := []) (ent_sound tabLw_ok host nolv_ok 30) (nl _) eD))))
  cases k2
  exact k1
end Go.Proofs.YtanhlbdcjonaoaaGreatDoor

/- A law out of a contract: what the given statements ask of a call, told of one that meets a contract. -/
set_option linter.unusedVariables false
set_option linter.unusedSimpArgs false
namespace Go.Proofs.YtanhlbdcjonaoaaGreatDoor.Sx
open Go Go.ChangeShapes Go.WideShapes Go.ChangeAt Go.RowKit Go.Joins Go.Deep

/-- Nothing that was there is another one. -/
structure Kept (W W' : World) : Prop where
  but : W.keptBut W' (fun _ => False)
  frozen : ∀ b off, b < W.heap.size → W'.frozen? ⟨b, off, none⟩ = W.frozen? ⟨b, off, none⟩

theorem Kept.of {W W' : World} (hos : W'.os = W.os) (hout : W'.output = W.output) (h : ∀ i : Nat, i < W.heap.size → W'.heap[i]? = W.heap[i]?) : Kept W W' where
  but := ⟨hos, hout, fun i hi => by
    have := (World.keptBut_refl W (fun _ => False)).2.2 i hi
    rw [h i hi]; exact this⟩
  frozen := fun b off hb => by unfold World.frozen?; simp only [h b hb]

theorem law_calls {P : Program} {f : FuncId} {vs : List AV} {res : AV} {xs : List Value} {x : Value} (hent : ∀ args w, (callFunc f args).run P w = .ok (.enter f args) w) (h : Meets P f vs [] res [])
    (hx : denL (fun _ => none) vs = some xs) (hr : den (fun _ => none) res = some x) (w : World) (hgl : GlobOK w fun _ => False) : Calls P f xs.toArray w fun e w' => e = .returned x ∧ Kept w w' := by
  have hp : PreR (fun _ => none) w [] := { objs := fun n o h => by simp at h, fresh := fun _ _ => rfl, apart := fun n m o o' b c b' c' h => by simp at h, glob := fun g hg => let ⟨a, _, c⟩ := hgl g hg; ⟨a, fun ⟨n, o, c, h, _⟩ => by simp at h, c⟩ }
  have key : ∀ e w', (∃ E' x, e = Ending.returned x ∧ den E' res = some x ∧ PostR (fun _ => none) E' w w' [] []) → e = .returned x ∧ Kept w w' := by
    rintro e w' ⟨E', y, rfl, hd, hpost⟩
    have hE : E' = fun _ => none := funext fun n => hpost.cut n (Nat.zero_le _)
    subst hE
    rw [hr] at hd
    cases hd
    exact ⟨rfl, Kept.of hpost.os hpost.output fun i hi => hpost.keep i hi fun n o c hn => by simp at hn⟩
  rcases h w (fun _ => none) xs hx hp with ⟨g, as, h1, h2⟩ | ⟨v, w', h1, h2⟩
  · rw [hent] at h1
    cases h1
    exact h2.mono key
  · rw [hent] at h1
    cases h1

section
variable {H : Type} {enc : TypeId × Value → H} {P : Program}
theorem post_of_kept {f : Func} {s : ChangeSpec} {apart fresh handsOn again : Bool} {W W' : World} {args : Array Value} {v : Value} {ds gs : List (DataW H)} {before pa pv : List MemPlace}
    (hW : DataW.Whole enc P f.params.toList s.vars apart W args.toList ds gs before)
    (hres : ∀ (b : Nat) (sp : Nat → Bool) (hd : Bool), DataW.TrodAll enc P W' b sp hd f.resultTypes.toList (v.resultList f.resultTypes.size) (s.fn H (ds ++ gs)).results [])
    (hargs : ∀ sp : Nat → Bool, (∀ p ∈ before, sp p.block = true) → DataW.TrodAll enc P W' 0 sp true f.params.toList args.toList (s.fn H (ds ++ gs)).args pa)
    (hvars : ∀ sp : Nat → Bool, (∀ p ∈ before, sp p.block = true) → DataW.TrodVars enc P W' sp s.vars (s.fn H (ds ++ gs)).vars pv)
    (hps : before = pa ++ pv) (hk : Kept W W')
    (hok : ∀ (j : Nat) (t : TypeId) (r : Value), f.resultTypes[j]? = some t → (v.resultList f.resultTypes.size)[j]? = some r → Value.okWide P W' .any 0 t r) :
    s.post enc P f apart fresh handsOn again W args v W' := by
  have hlt : ∀ p ∈ before, p.block < W.heap.size := fun p hp => hW.lt p hp
  have hold : ∀ p ∈ before, (fun b => decide (b < W.heap.size)) p.block = true := fun p hp => by simpa using hlt p hp
  refine ⟨ds, gs, before, [], pa, pv, hW, hres _ _ _, hargs _ hold, hvars _ hold, World.keptBut_mono (fun p hp => hp.elim) hk.but, fun _ => ?_⟩
  obtain ⟨_, _, _, _, _, hz, hn⟩ := hW
  refine ⟨hok, _, _, ([] ++ pa) ++ pv, ⟨[] ++ pa, pv, trodAll_append (hargs _ (fun _ _ => rfl)) (hres _ _ _), hvars _ (fun _ _ => rfl), rfl, ?_, ?_⟩, ?_⟩
  · intro b off hp
    have hb : MemPlace.cell b off ∈ before := by rw [hps]; simpa using hp
    rw [hk.frozen b off (hlt _ hb)]
    exact hz b off hb
  · intro ha
    have := hn ha
    rw [hps] at this
    simpa using this
  · intro p hp _
    rw [hps]
    simpa using hp

/-- A struct of two numbers, by value. -/
theorem open_two {w : World} {base b0 : Nat} {spare : Nat → Bool} {held : Bool} {r : Reach} {t : TypeId} {f0 f1 : Field} {k0 k1 : IntKind} {v : Value} {d : DataW H} {p : List MemPlace} (hs : P.underlying t = some (.struct #[f0, f1])) (hone : oneCellFields P #[f0, f1] = true) (hC : P.cellsOf t = 2)
    (u0 : P.underlying f0.type = some (.int k0)) (u1 : P.underlying f1.type = some (.int k1)) (hv : Value.okWide P w r b0 t v) (h : DataW.Trod enc P w base spare held t v d p) :
    ∃ a b : Int, v = .agg #[.int k0 a, .int k1 b] ∧ d = .agg [.lit (.int k0 a), .lit (.int k1 b)] ∧ p = [] ∧ (Lit.int k0 a).wf = true ∧ (Lit.int k1 b).wf = true := by
  obtain ⟨c0, c1, y0, y1, m, rfl, rfl, rfl, hy0, hy1⟩ := open_agg2 hs hone hC hv h
  obtain ⟨a, e0, rfl, wa⟩ := DataW.trod_int u0 hy0
  obtain ⟨b, e1, rfl, wb⟩ := DataW.trod_int u1 hy1
  simp at e0 e1
  subst e0 e1
  exact ⟨a, b, rfl, rfl, rfl, wa, wb⟩
theorem shut_two {w : World} {base : Nat} {spare : Nat → Bool} {held : Bool} {t : TypeId} {f0 f1 : Field} {k0 k1 : IntKind} {a b : Int} (hs : P.underlying t = some (.struct #[f0, f1])) (hone : oneCellFields P #[f0, f1] = true) (hC : P.cellsOf t = 2)
    (u0 : P.underlying f0.type = some (.int k0)) (u1 : P.underlying f1.type = some (.int k1)) (wa : (Lit.int k0 a).wf = true) (wb : (Lit.int k1 b).wf = true) :
    DataW.Trod enc P w base spare held t (.agg #[.int k0 a, .int k1 b]) (.agg [.lit (.int k0 a), .lit (.int k1 b)]) [] :=
  shut_agg2 (y0 := (.lit (.int k0 a), [])) (y1 := (.lit (.int k1 b), [])) hs hone hC ⟨1, by simp [DataW.trod, u0, wa]⟩ ⟨1, by simp [DataW.trod, u1, wb]⟩
end

theorem wf_i64 {n : Int} (h : (Lit.int .i64 n).wf = true) : -9223372036854775808 ≤ n ∧ n < 9223372036854775808 := by
  simp only [Lit.wf, IntKind.has, IntKind.min, IntKind.max, IntKind.bits, IntKind.signed, Bool.and_eq_true, decide_eq_true_eq] at h
  simp at h
  omega
theorem str_max {s : ByteArray} (h : s.size ≤ maxLen) : s.data.toList.length ≤ 9223372036854775807 := by
  have e : s.data.toList.length = s.size := Array.length_toList
  rw [e]; exact Nat.le_trans h (Nat.le_of_ble_eq_true (by kernel_rfl))
theorem den_str {E : Env} {s : ByteArray} : den E (.str s.data.toList) = some (.string s) := by
  simp [den]

end Go.Proofs.YtanhlbdcjonaoaaGreatDoor.Sx

/- Structs of plain fields (numbers, bools, strings), by value: opened and shut. -/
set_option linter.unusedVariables false
set_option linter.unusedSimpArgs false
namespace Go.Proofs.YtanhlbdcjonaoaaGreatDoor.Sx
open Go Go.ChangeShapes Go.WideShapes Go.ChangeAt Go.RowKit Go.Joins Go.Deep

/-- A plain field's kind; its value. -/
inductive FK where
  | int (k : IntKind)
  | bool
  | str
inductive FV where
  | int (k : IntKind) (n : Int)
  | bool (b : Bool)
  | str (s : ByteArray)
def FV.kind : FV → FK
  | .int k _ => .int k
  | .bool _ => .bool
  | .str _ => .str
def FV.val : FV → Value
  | .int k n => .int k n
  | .bool b => .bool b
  | .str s => .string s
def FV.dat {H : Type} : FV → DataW H
  | .int k n => .lit (.int k n)
  | .bool b => .lit (.bool b)
  | .str s => .lit (.string s.data.toList)
def FV.ok : FV → Prop
  | .int k n => (Lit.int k n).wf = true
  | .bool _ => True
  | .str s => s.size ≤ maxLen
def fkOf (P : Program) (t : TypeId) : Option FK :=
  match P.underlying t with
  | some (.int k) => some (.int k)
  | some .bool => some .bool
  | some .string => some .str
  | _ => none

section
variable {H : Type} {enc : TypeId × Value → H} {P : Program} {w : World} {base : Nat} {spare : Nat → Bool} {held : Bool}

theorem trod_plain {t : TypeId} {k : FK} {n : Nat} {cs : List Value} {x : DataW H × List MemPlace} (hk : fkOf P t = some k) (h : DataW.trod enc P w base spare held n t cs = some x) :
    ∃ f : FV, f.kind = k ∧ cs = [f.val] ∧ x = (f.dat, []) ∧ f.ok := by
  unfold fkOf at hk
  split at hk
  · rename_i k' hu
    cases hk
    obtain ⟨a, rfl, rfl, wa⟩ := DataW.trod_int hu h
    exact ⟨.int k' a, rfl, rfl, rfl, wa⟩
  · rename_i hu
    cases hk
    obtain ⟨b, rfl, rfl⟩ := DataW.trod_bool hu h
    exact ⟨.bool b, rfl, rfl, rfl, trivial⟩
  · rename_i hu
    cases hk
    obtain ⟨s, rfl, rfl, hs⟩ := DataW.trod_string hu h
    exact ⟨.str s, rfl, rfl, rfl, hs⟩
  · cases hk
theorem trod_plain_mk {t : TypeId} {f : FV} {n : Nat} (hk : fkOf P t = some f.kind) (hf : f.ok) : DataW.trod enc P w base spare held (n + 1) t [f.val] = some (f.dat, []) := by
  unfold fkOf at hk
  split at hk
  · rename_i k' hu
    cases f with
    | int k a => cases hk; simp only [FV.ok] at hf; simp [DataW.trod, hu, FV.val, FV.dat, hf]
    | bool b => cases hk
    | str s => cases hk
  · rename_i hu
    cases f with
    | bool b => simp [DataW.trod, hu, FV.val, FV.dat]
    | int k a => cases hk
    | str s => cases hk
  · rename_i hu
    cases f with
    | str s => simp only [FV.ok] at hf; simp [DataW.trod, hu, FV.val, FV.dat, hf]
    | int k a => cases hk
    | bool b => cases hk
  · cases hk

theorem flat_aux : ∀ (ks : List FK) (cs : List Value) (ys : List (DataW H × List MemPlace)), cs.length = ks.length → ys.length = ks.length →
    (∀ (i : Nat) k c y, ks[i]? = some k → cs[i]? = some c → ys[i]? = some y → ∃ f : FV, f.kind = k ∧ c = f.val ∧ y = (f.dat, []) ∧ f.ok) →
    ∃ xs : List FV, xs.map FV.kind = ks ∧ cs = xs.map FV.val ∧ ys = xs.map (fun f => (f.dat, [])) ∧ ∀ x ∈ xs, x.ok
  | [], [], [], _, _, _ => ⟨[], rfl, rfl, rfl, by simp⟩
  | [], _ :: _, _, h, _, _ => by simp at h
  | [], [], _ :: _, _, h, _ => by simp at h
  | _ :: _, [], _, h, _, _ => by simp at h
  | _ :: _, _ :: _, [], _, h, _ => by simp at h
  | k :: ks, c :: cs, y :: ys, h1, h2, h => by
    obtain ⟨f, e1, e2, e3, e4⟩ := h 0 k c y rfl rfl rfl
    obtain ⟨xs, g1, g2, g3, g4⟩ := flat_aux ks cs ys (by simpa using h1) (by simpa using h2) (fun i k c y a b d => h (i + 1) k c y (by simpa using a) (by simpa using b) (by simpa using d))
    refine ⟨f :: xs, by simp [e1, g1], by simp [e2, g2], by simp [e3, g3], ?_⟩
    intro x hx
    rcases List.mem_cons.1 hx with rfl | hx
    · exact e4
    · exact g4 x hx

theorem open_flat {b0 : Nat} {r : Reach} {t : TypeId} {fs : Array Field} {ks : List FK} {v : Value} {d : DataW H} {p : List MemPlace} (hs : P.underlying t = some (.struct fs)) (hone : oneCellFields P fs = true) (hC : P.cellsOf t = fs.size)
    (hk : fs.toList.map (fun f => fkOf P f.type) = ks.map some) (hv : Value.okWide P w r b0 t v) (h : DataW.Trod enc P w base spare held t v d p) :
    ∃ xs : List FV, v = .agg (xs.map FV.val).toArray ∧ d = .agg (xs.map FV.dat) ∧ p = [] ∧ (∀ x ∈ xs, x.ok) ∧ xs.map FV.kind = ks := by
  obtain ⟨cs, rfl, hsz⟩ := okWide_struct hs hv
  obtain ⟨fuel, hf⟩ := h
  obtain ⟨ys, n, _, hx, _, hlen, hg⟩ := DataW.trod_struct hs hf
  have hkl : ks.length = fs.size := by have := congrArg List.length hk; simpa using this.symm
  have hcs : cs.toList.length = fs.size := by simpa [hC] using hsz
  obtain ⟨xs, g1, g2, g3, g4⟩ := flat_aux ks cs.toList ys (by omega) (by omega) (fun i k c y a b e => by
    have hi : i < fs.size := by rw [← hkl]; exact (List.getElem?_eq_some_iff.1 a).1
    have hfi : fs[i]? = some fs[i] := Array.getElem?_eq_getElem hi
    obtain ⟨o, c1⟩ := hone_of hone i _ hfi
    have h1 := hg i _ hfi
    rw [o, c1, e] at h1
    have hci : i < cs.toList.length := by omega
    have hd : ((Value.agg cs).cells.toList.drop i).take 1 = [c] := by
      show (cs.toList.drop i).take 1 = [c]
      rw [List.drop_eq_getElem_cons hci]
      have : cs.toList[i] = c := by rw [List.getElem?_eq_getElem hci] at b; exact Option.some.inj b
      simp [this]
    rw [hd] at h1
    have hki : fkOf P fs[i].type = some k := by
      have := congrArg (·[i]?) hk
      simp only [List.getElem?_map, Array.getElem?_toList, hfi, a, Option.map_some] at this
      exact Option.some.inj this
    obtain ⟨f, f1, f2, f3, f4⟩ := trod_plain hki h1
    exact ⟨f, f1, (List.cons.inj f2).1, f3, f4⟩)
  simp only [Prod.mk.injEq] at hx
  refine ⟨xs, ?_, ?_, ?_, g4, g1⟩
  · congr 1; rw [← g2]
  · rw [hx.1, g3]; simp [List.map_map, Function.comp_def]
  · rw [hx.2, g3]; simp [List.flatMap_map]

theorem mapM_some' {α β : Type} (g : α → Option β) : ∀ (l : List α) (ys : List β), l.length = ys.length → (∀ (i : Nat) a, l[i]? = some a → g a = ys[i]?) → l.mapM g = some ys
  | [], [], _, _ => rfl
  | [], _ :: _, h, _ => by simp at h
  | _ :: _, [], h, _ => by simp at h
  | a :: l, y :: ys, h, hg => by
    have h0 := hg 0 a rfl
    have ih := mapM_some' g l ys (by simpa using h) (fun i a e => by have := hg (i + 1) a (by simpa using e); simpa using this)
    simp only [List.getElem?_cons_zero] at h0
    simp [List.mapM_cons, h0, ih]

theorem shut_flat {t : TypeId} {fs : Array Field} {xs : List FV} (hs : P.underlying t = some (.struct fs)) (hone : oneCellFields P fs = true) (hC : P.cellsOf t = fs.size)
    (hk : fs.toList.map (fun f => fkOf P f.type) = (xs.map FV.kind).map some) (hok : ∀ x ∈ xs, x.ok) :
    DataW.Trod enc P w base spare held t (.agg (xs.map FV.val).toArray) (.agg (xs.map FV.dat)) [] := by
  have hkl : xs.length = fs.size := by have := congrArg List.length hk; simpa using this.symm
  refine ⟨1 + 1, ?_⟩
  show DataW.trod enc P w base spare held (1 + 1) t (xs.map FV.val).toArray.toList = _
  have hM : fs.toList.mapM (fun f => DataW.trod enc P w base spare held 1 f.type ((((xs.map FV.val).toArray.toList).drop f.offset).take (P.cellsOf f.type))) = some (xs.map fun f => (f.dat, [])) := by
    refine mapM_some' _ fs.toList (xs.map fun f => (f.dat, [])) (by simp [hkl]) ?_
    intro i f hf
    have hf' : fs[i]? = some f := by simpa using hf
    obtain ⟨o, c1⟩ := hone_of hone i _ hf'
    have hi : i < xs.length := by rw [hkl]; exact (Array.getElem?_eq_some_iff.1 hf').1
    have hki : fkOf P f.type = some xs[i].kind := by
      have := congrArg (·[i]?) hk
      simp only [List.getElem?_map, hf, List.getElem?_eq_getElem hi, Option.map_some] at this
      exact Option.some.inj this
    rw [o, c1]
    have hd : ((xs.map FV.val).toArray.toList.drop i).take 1 = [xs[i].val] := by
      show ((xs.map FV.val).drop i).take 1 = _
      rw [List.drop_eq_getElem_cons (by simpa using hi)]
      simp
    rw [hd, trod_plain_mk hki (hok _ (List.getElem_mem hi))]
    simp [List.getElem?_eq_getElem hi]
  rw [trod_struct_mk hs (by simp [hC, hkl]) hM]
  simp [List.map_map, Function.comp_def, List.flatMap_map]
end

/-- Three, five numbers. -/
theorem three_ints {xs : List FV} (h : xs.map FV.kind = [.int .i64, .int .i64, .int .i64]) : ∃ a b c : Int, xs = [.int .i64 a, .int .i64 b, .int .i64 c] := by
  match xs, h with
  | [.int _ a, .int _ b, .int _ c], h => simp [FV.kind] at h; obtain ⟨rfl, rfl, rfl⟩ := h; exact ⟨a, b, c, rfl⟩
theorem five_ints {xs : List FV} (h : xs.map FV.kind = [.int .i64, .int .i64, .int .i64, .int .i64, .int .i64]) : ∃ a b c d e : Int, xs = [.int .i64 a, .int .i64 b, .int .i64 c, .int .i64 d, .int .i64 e] := by
  match xs, h with
  | [.int _ a, .int _ b, .int _ c, .int _ d, .int _ e], h => simp [FV.kind] at h; obtain ⟨rfl, rfl, rfl, rfl, rfl⟩ := h; exact ⟨a, b, c, d, e, rfl⟩
theorem kinds_siibbb {xs : List FV} (h : xs.map FV.kind = [.str, .int .i64, .int .i64, .bool, .bool, .bool]) : ∃ (s : ByteArray) (r c : Int) (a b d : Bool), xs = [.str s, .int .i64 r, .int .i64 c, .bool a, .bool b, .bool d] := by
  match xs, h with
  | [.str s, .int _ r, .int _ c, .bool a, .bool b, .bool d], h => simp [FV.kind] at h; obtain ⟨rfl, rfl⟩ := h; exact ⟨s, r, c, a, b, d, rfl⟩

end Go.Proofs.YtanhlbdcjonaoaaGreatDoor.Sx
