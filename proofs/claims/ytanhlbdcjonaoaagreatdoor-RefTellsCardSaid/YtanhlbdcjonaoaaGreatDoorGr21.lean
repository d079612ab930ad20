/- Layer 2, the law in parts: its end, areas and places. -/
import Derived.Test.YtanhlbdcjonaoaaGreatDoorGr17
import Derived.Test.YtanhlbdcjonaoaaGreatDoorRtV
import Derived.Test.YtanhlbdcjonaoaaGreatDoorRtW
import Derived.Test.YtanhlbdcjonaoaaGreatDoorRtX
set_option linter.unusedVariables false
set_option linter.unusedSimpArgs false
namespace Go.Proofs.YtanhlbdcjonaoaaGreatDoor
open Go Sx
theorem partD (x : LawF) (X Y : Rf) (a b : Ar) (p0 p1 p2 n m q : Int) :
    code (ent Tryz.prog (tabLw x) nolv 64 18446744073709551616 30) Tryz.prog {} 0 64 18446744073709551616 (restC 8 (bodyOf Tryz.f3)) (stL X Y a b p0 p1 p2 n m q) (finP Tryz.prog Tryz.f3 0 [] pure2) = (lastT a b p0 p1 p2).run pure2 := by kernel_rfl
end Go.Proofs.YtanhlbdcjonaoaaGreatDoor

/- Layer 2, the law: the functions that it calls, put in. -/
set_option linter.unusedVariables false
set_option linter.unusedSimpArgs false
namespace Go.Proofs.YtanhlbdcjonaoaaGreatDoor
open Go Sx

def lw : LawF where
  F := refS
  okF := fun X => inI X.r && inI X.c && decide (X.s.length ≤ 9223372036854775807)
  W := txV
  w := txE
  okW := fun X => decide (X.s.length ≤ 9223372036854775807)
  G := rdV
  g := rdE
  R := rcG2
  okl := okM
  C := colC
  E := colE
  okc := inI
  B := rightB
  V := mvO
  v := erM
  okV := fun X m n => inI m && inI n && decide (X.s.length ≤ 9223372036854775807)
  A := arA
  e := erA
  okA := fun X Y => decide (X.s.length ≤ 9223372036854775807) && decide (Y.s.length ≤ 9223372036854775807)
  Q := quS
  p := pickS
  okp := fun a n => inI a && decide (0 < n)

theorem refOfW_ok : EntOK Tryz.prog 6 (entRfW lw.okF lw.F) := fun args pre => by
  unfold entRfW
  split
  · rename_i s r c a b d; exact refOf_ok [.agg [.str s, .int .i64 r, .int .i64 c, .bool a, .bool b, .bool d]] []
  · trivial
theorem pickW_ok : EntOK Tryz.prog 7 (entPk lw.okp lw.p) := fun args pre => by
  unfold entPk
  split
  · rename_i a n; exact pick_ok [.int .i64 a, .int .i64 n] []
  · trivial
theorem txW_ok : EntOK Tryz.prog 15 (entTxW lw.okW lw.W lw.w) := fun args pre => by
  unfold entTxW
  split
  · rename_i s r c a b d; exact textA_ok [.agg [.str s, .int .i64 r, .int .i64 c, .bool a, .bool b, .bool d]] []
  · trivial
theorem txWD_ok : EntOK Tryz.prog 5 (entTxW lw.okW lw.W lw.w) := fun args pre => by
  unfold entTxW
  split
  · rename_i s r c a b d; exact textD_ok [.agg [.str s, .int .i64 r, .int .i64 c, .bool a, .bool b, .bool d]] []
  · trivial
theorem rdW_ok : EntOK Tryz.prog 9 (entRdW lw.okl lw.G lw.g) := fun args pre => by
  unfold entRdW
  split
  · rename_i l; exact rdG_ok [.str l] []
  · trivial
theorem rdWD_ok : EntOK Tryz.prog 10 (entRdW lw.okl lw.G lw.g) := fun args pre => by
  unfold entRdW
  split
  · rename_i l; exact readD_ok [.str l] []
  · trivial
theorem colP_ok : EntOK Tryz.prog 13 (eColX lw.okc lw.C lw.E) := fun args pre => by
  unfold eColX
  split
  · rename_i n
    have h := column_ok [.int .i64 n] []
    refine ⟨fun hi => ?_, fun _ => trivial⟩
    have h := h.1 hi
    show AnsOK _ _ _ _ (.ret (.tuple [.str (colC n), .int .i64 (colE n)]) [])
    unfold colC colE
    cases hb : colB n with
    | true => exact h.1 hb
    | false => exact h.2 hb
  · trivial
theorem rightP_ok : EntOK Tryz.prog 16 (entRiW lw.okW lw.B) := fun args pre => by
  unfold entRiW
  split
  · rename_i s r c a b d; exact ⟨fun _ => right_ok [.agg [.str s, .int .i64 r, .int .i64 c, .bool a, .bool b, .bool d]] [], fun _ => trivial⟩
  · trivial
theorem rightW_ok : EntOK Tryz.prog 17 (entRiW lw.okW lw.B) := fun args pre => by
  unfold entRiW
  split
  · rename_i s r c a b d; exact rightD_ok [.agg [.str s, .int .i64 r, .int .i64 c, .bool a, .bool b, .bool d]] []
  · trivial
theorem mvP_ok : EntOK Tryz.prog 18 (entMvW lw.okV lw.V lw.v) := fun args pre => by
  unfold entMvW
  split
  · rename_i s r c a b d m n; exact ⟨fun _ => moved_ok [.agg [.str s, .int .i64 r, .int .i64 c, .bool a, .bool b, .bool d], .int .i64 m, .int .i64 n] [], fun _ => trivial⟩
  · trivial
theorem mvW_ok : EntOK Tryz.prog 19 (entMvW lw.okV lw.V lw.v) := fun args pre => by
  unfold entMvW
  split
  · rename_i s r c a b d m n; exact movedD_ok [.agg [.str s, .int .i64 r, .int .i64 c, .bool a, .bool b, .bool d], .int .i64 m, .int .i64 n] []
  · trivial
theorem arP_ok : EntOK Tryz.prog 20 (entArW lw.okA lw.A lw.e) := fun args pre => by
  unfold entArW
  split
  · rename_i s r c a b d s2 r2 c2 a2 b2 d2 n; exact ⟨fun _ => area_ok [.agg [.str s, .int .i64 r, .int .i64 c, .bool a, .bool b, .bool d], .agg [.str s2, .int .i64 r2, .int .i64 c2, .bool a2, .bool b2, .bool d2], .int .i64 n] [], fun _ => trivial⟩
  · trivial
theorem arW_ok : EntOK Tryz.prog 21 (entArW lw.okA lw.A lw.e) := fun args pre => by
  unfold entArW
  split
  · rename_i s r c a b d s2 r2 c2 a2 b2 d2 n; exact areaD_ok [.agg [.str s, .int .i64 r, .int .i64 c, .bool a, .bool b, .bool d], .agg [.str s2, .int .i64 r2, .int .i64 c2, .bool a2, .bool b2, .bool d2], .int .i64 n] []
  · trivial
theorem tabLw_ok : TabOK Tryz.prog (tabLw lw) :=
  .cons awake_ok (.cons refOfW_ok (.cons pickW_ok (.cons txW_ok (.cons txWD_ok (.cons rdW_ok (.cons rdWD_ok (.cons readColP_ok (.cons readColD2_ok (.cons colP_ok (.cons colX_ok (.cons rightP_ok (.cons rightW_ok (.cons mvP_ok (.cons mvW_ok (.cons arP_ok (.cons arW_ok (.cons quotX_ok (.cons areas_ok (.cons refArea_ok (.cons refAt_ok tab0_ok))))))))))))))))))))
end Go.Proofs.YtanhlbdcjonaoaaGreatDoor

/- Layer 2, the law: it is so for every input. -/
set_option linter.unusedVariables false
set_option linter.unusedSimpArgs false
namespace Go.Proofs.YtanhlbdcjonaoaaGreatDoor
open Go Sx

theorem sameR_self (X : Rf) : sameR X X = true := by unfold sameR; simp
theorem ckT {b : Bool} {x : OX} (h : b = true) : ckX b x = x := by unfold ckX; rw [bcT h]
theorem oneX_next {x : LawF} {u : List UInt8} {nx : OX} (h : x.okl u = true) : oneX x u nx = nx := by
  unfold oneX
  rw [ckT h, ckT h, ckT h, ckT h, sameR_self]
  simp [bcond]
theorem oneCX_next {x : LawF} {m : Int} {nx : OX} (h : x.okc m = true) : oneCX x m nx = nx := by
  unfold oneCX
  rw [ckT h, ckT h]
  simp [bcond]
theorem oneMX_next {x : LawF} {r : Rf} {m n : Int} {nx : OX} (h : x.okV r m n = true) : oneMX x r m n nx = nx := by
  unfold oneMX
  rw [ckT h, ckT h, sameR_self]
  simp [bcond]
theorem oneAX_next {x : LawF} {r q : Rf} {n : Int} {nx : OX} (h1 : x.okp n 9 = true) (h2 : x.okA r q = true) : oneAX x r q n nx = nx := by
  unfold oneAX
  rw [ckT h1, ckT h2, ckT h1, ckT h2, sameA_self]
  simp [bcond]
theorem oneFX_next {x : LawF} {r Y : Rf} {n m q : Int} {nx : OX} (h1 : x.okW r = true) (h2 : x.okp m 21 = true) (h3 : x.okp q 21 = true) (h4 : x.okV r m q = true) (h5 : x.okV r (w64 (x.p m 21 - 10)) (w64 (x.p q 21 - 10)) = true) (h6 : x.okF Y = true) (h7 : x.okp n 9 = true) (h8 : x.okA r Y = true) (h9 : x.okA r (x.F Y) = true) : oneFX x r Y n m q nx = nx := by
  unfold oneFX
  rw [ckT h1, ckT h1, ckT h1, ckT h1, ckT h2, ckT h3, oneMX_next h4, oneMX_next h5, ckT h6, oneAX_next h7 h8, oneAX_next h7 h9]
  simp [bcond]

theorem txt_len2 {Z : Rf} (hZ : rightB Z = true) : (txtS Z).length ≤ 1000 := by
  have := right_len hZ
  unfold txtS
  cases Z.d with
  | true => simp [bcond]
  | false =>
    have h1 := (col_len Z.c.toNat).2
    have h2 := (row_len (Z.r + 1).toNat).2
    have h3 : ∀ (b : Bool) (x : List UInt8) (n : Nat), x.length ≤ n → (bcond b x []).length ≤ n := fun b x n hx => by cases b <;> simp [bcond]; exact hx
    have h4 : (wriS Z.s).length ≤ 62 := by
      by_cases h0 : Z.s = []
      · rw [h0]; exact Nat.le_of_ble_eq_true rfl
      · have := (wri_len h0).2; omega
    have h5 := h3 (!(Z.s == [])) (wriS Z.s ++ [33]) 63 (by simp only [List.length_append, List.length_cons, List.length_nil]; omega)
    have h6 := h3 Z.b [36] 1 (by simp)
    have h7 := h3 Z.a [36] 1 (by simp)
    simp only [bcond, List.length_append] at *
    omega
theorem txV_len {Z : Rf} (hZ : rightB Z = true) : (txV Z).length ≤ 1000 := by
  unfold txV; rw [bcT hZ]; exact txt_len2 hZ
theorem hd_le (k : Int) (t : List UInt8) : (hdC k t).length ≤ t.length := by unfold hdC; simp; omega
theorem tl_le (k : Int) (t : List UInt8) : (tlC k t).length ≤ t.length := by unfold tlC; simp
theorem x1_le (s : List UInt8) : (x1F s).length ≤ 60 := by unfold x1F a60; simp; split <;> omega
theorem okM_of {l : List UInt8} (h : l.length ≤ 1000000) : okM l = true := decide_eq_true h

theorem tells_law (X Y : Rf) (a b : Ar) (p0 p1 p2 : Int) (s : List UInt8) (n m q : Int) (hX1 : inI X.r = true) (hX2 : inI X.c = true) (hX3 : X.s.length ≤ 9223372036854775807) (hY1 : inI Y.r = true) (hY2 : inI Y.c = true) (hY3 : Y.s.length ≤ 9223372036854775807)
    (ha : a.inB = true) (hb : b.inB = true) (h0 : inI p0 = true) (h1 : inI p1 = true) (h2 : inI p2 = true) (hs : s.length ≤ 9223372036854775807) (hn : inI n = true) (hm : inI m = true) (hq : inI q = true) :
    Meets Tryz.prog 3 (argsL X Y a b p0 p1 p2 s n m q) [] (.bool true) [] := by
  have fX : lw.okF X = true := by show (inI X.r && inI X.c && decide (X.s.length ≤ 9223372036854775807)) = true; rw [hX1, hX2, decide_eq_true hX3]; rfl
  have fY : lw.okF Y = true := by show (inI Y.r && inI Y.c && decide (Y.s.length ≤ 9223372036854775807)) = true; rw [hY1, hY2, decide_eq_true hY3]; rfl
  have rX : rightB (lw.F X) = true := refS_right X
  have rY : rightB (lw.F Y) = true := refS_right Y
  have lX := right_len rX
  have lY := right_len rY
  have wX : lw.okW X = true := decide_eq_true hX3
  have wFX : lw.okW (lw.F X) = true := decide_eq_true (by omega)
  have tl : (lw.W (lw.F X)).length ≤ 1000 := txV_len rX
  have tw : w64 (((lw.W (lw.F X)).length : Int) + 1) = ((lw.W (lw.F X)).length : Int) + 1 := i64_in (by omega) (by omega)
  have pk : ∀ {u v : Int}, inI u = true → 0 < v → lw.okp u v = true := fun h1 h2 => by show (_ && _) = true; rw [h1, decide_eq_true h2]; rfl
  have hk := pickS_bd (a := n) (n := ((lw.W (lw.F X)).length : Int) + 1) (by omega)
  have vk : ∀ (Z : Rf) (u v : Int), inI u = true → inI v = true → Z.s.length ≤ 9223372036854775807 → lw.okV Z u v = true := fun Z u v g1 g2 g3 => by show (inI u && inI v && decide (Z.s.length ≤ 9223372036854775807)) = true; rw [g1, g2, decide_eq_true g3]; rfl
  have ak : ∀ (Z U : Rf), Z.s.length ≤ 9223372036854775807 → U.s.length ≤ 9223372036854775807 → lw.okA Z U = true := fun Z U g1 g2 => by show (decide (Z.s.length ≤ 9223372036854775807) && decide (U.s.length ≤ 9223372036854775807)) = true; rw [decide_eq_true g1, decide_eq_true g2]; rfl
  have hA := partA lw X Y a b p0 p1 p2 s n m q
  have eA : runsC (ent (R := Ex × PState) Tryz.prog (tabLw lw) nolv 64 18446744073709551616 30) Tryz.prog {} 0 64 18446744073709551616 (endK 0 64 keepL keepR) 6 (bodyOf Tryz.f3) (startP 317 (argsL X Y a b p0 p1 p2 s n m q) [] 64) = some (.normal, stL X Y a b p0 p1 p2 n m q) := by
    rw [hA, tw]
    have hk' : 0 ≤ lw.p n (((lw.W (lw.F X)).length : Int) + 1) ∧ lw.p n (((lw.W (lw.F X)).length : Int) + 1) < ((lw.W (lw.F X)).length : Int) + 1 := hk
    have kp : lw.okp n (((lw.W (lw.F X)).length : Int) + 1) = true := pk hn (by omega)
    clear hA hk
    have c0 : cutB (a60 s) s = true := decide_eq_true (by unfold a60; split <;> omega)
    rw [ckT c0, ckT fX, ckT wFX, ckT kp]
    generalize lw.p n (((lw.W (lw.F X)).length : Int) + 1) = k at hk' kp ⊢
    generalize lw.W (lw.F X) = t at *
    have x1 := x1_le s
    generalize hu : x1F s = u at *
    have c1 : cutB k t = true := decide_eq_true (by omega)
    have c2 : cutB (mn1 u) u = true := decide_eq_true (by unfold mn1; split <;> omega)
    have g1 := hd_le k t
    have g2 := hd_le (mn1 u) u
    have g3 := tl_le (mnL k t) t
    have sw : swA k = k + 1 := by unfold swA; exact i64_in (by omega) (by omega)
    have c4 : cutB (mnL k t) t = true := decide_eq_true (by unfold mnL; rw [sw]; split <;> omega)
    have c3 : lnB (hdC k t) (hdC (mn1 u) u) = true := lnB_ok (by omega) (by omega)
    have c5 : lnB (hdC k t ++ hdC (mn1 u) u) (tlC (mnL k t) t) = true := lnB_ok (by rw [List.length_append]; omega) (by omega)
    have c8 : lnB (hdC k t) (tlC (mnL k t) t) = true := lnB_ok (by omega) (by omega)
    have ql : (lw.Q u).length ≤ 200 := by
      have := dbl_len u
      show (quS u).length ≤ 200
      unfold quS; simp only [List.length_cons, List.length_append, List.length_nil]; omega
    have c9 : lw.okl u = true := okM_of (by omega)
    have c10 : lnB (lw.Q u) [33, 65, 49] = true := lnB_ok (by omega) (by simp)
    unfold preX txtsX
    rw [hu, ckT c1, ckT c2, ckT c3, ckT c4, ckT c5, ckT c1, ckT c4, ckT c8, ckT c9, ckT c10,
      oneX_next c9, oneX_next (okM_of (l := t) (by omega)), oneX_next (okM_of (by simp only [List.length_append]; omega)), oneX_next (okM_of (by simp only [List.length_append]; omega)), oneX_next (okM_of (by simp only [List.length_append, List.length_cons, List.length_nil]; omega))]
  have eB : runsC (ent (R := Ex × PState) Tryz.prog (tabLw lw) nolv 64 18446744073709551616 30) Tryz.prog {} 0 64 18446744073709551616 (endK 0 64 keepL keepR) 1 (restC 6 (bodyOf Tryz.f3)) (stL X Y a b p0 p1 p2 n m q) = some (.normal, stL X Y a b p0 p1 p2 n m q) := by
    have h6 : 0 ≤ lw.p n 60 ∧ lw.p n 60 < 60 := pickS_bd (by omega)
    rw [partB, ckT (pk hn (by omega)), oneCX_next hn, oneCX_next]
    exact inI_iff.2 (by rw [show w64 (lw.p n 60 - 4) = lw.p n 60 - 4 from i64_in (by omega) (by omega)]; omega)
  have eC : runsC (ent (R := Ex × PState) Tryz.prog (tabLw lw) nolv 64 18446744073709551616 30) Tryz.prog {} 0 64 18446744073709551616 (endK 0 64 keepL keepR) 1 (restC 7 (bodyOf Tryz.f3)) (stL X Y a b p0 p1 p2 n m q) = some (.normal, stL X Y a b p0 p1 p2 n m q) := by
    have i21 : ∀ u : Int, inI (w64 (lw.p u 21 - 10)) = true := fun u => by
      have h6 : 0 ≤ lw.p u 21 ∧ lw.p u 21 < 21 := pickS_bd (by omega)
      exact inI_iff.2 (by rw [show w64 (lw.p u 21 - 10) = lw.p u 21 - 10 from i64_in (by omega) (by omega)]; omega)
    rw [partC, ckT fX, oneFX_next wX (pk hm (by omega)) (pk hq (by omega)) (vk X m q hm hq hX3) (vk X _ _ (i21 m) (i21 q) hX3) fY (pk hn (by omega)) (ak X Y hX3 hY3) (ak X _ hX3 (by omega)),
      oneFX_next wFX (pk hm (by omega)) (pk hq (by omega)) (vk _ m q hm hq (by omega)) (vk _ _ _ (i21 m) (i21 q) (by omega)) fY (pk hn (by omega)) (ak _ Y (by omega) hY3) (ak _ _ (by omega) (by omega))]
  have eD : code (ent Tryz.prog (tabLw lw) nolv 64 18446744073709551616 30) Tryz.prog {} 0 64 18446744073709551616 (restC 8 (bodyOf Tryz.f3)) (stL X Y a b p0 p1 p2 n m q) (finP Tryz.prog Tryz.f3 0 [] pure2) = some (.bool true, []) := by
    rw [partD]
    have ia : (areaS a).inB = true := by have := areaS_bd a; rw [Ar.in_iff]; omega
    have ib : (areaS b).inB = true := by have := areaS_bd b; rw [Ar.in_iff]; omega
    unfold lastT
    simp only [Ans.run, Ans.chk, ha, hb, h0, h1, h2, ia, ib, Bool.and_self, bcond]
    rfl
  have hbody : Tryz.f3.body = some (bodyOf Tryz.f3) := by kernel_rfl
  have nl : ∀ c : Code, LoopsOK Tryz.prog {} ([] : List PObj).length c := fun c x hx id e h1 h2 => by cases h2
  have hH : HOK Tryz.prog (ent (R := Ex × PState) Tryz.prog (tabLw lw) nolv 64 18446744073709551616 30) := ent_sound tabLw_ok host nolv_ok 30
  obtain ⟨res, post, k1, k2⟩ := goes_meets (R := AV × List PObj) (NF := 64) (args := argsL X Y a b p0 p1 p2 s n m q) (pre := []) (k := pure2) (r := (.bool true, [])) host Tryz.func3 hbody
    (goes_cut (pre := []) hH (nl _) eA (goes_cut (pre := []) hH (nl _) eB (by rw [restC_add]; exact goes_cut (pre := []) hH (nl _) eC (by rw [restC_add]; exact goes_code (pre := []) (ent_sound tabLw_ok host nolv_ok 30) (nl _) eD))))
  cases k2
  exact k1
end Go.Proofs.YtanhlbdcjonaoaaGreatDoor
