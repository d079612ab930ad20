/- Layer 26: a crash, as an entry. -/
import Derived.Test.YtoekeplljjaehaaGr06
set_option linter.unusedVariables false
set_option linter.unusedSimpArgs false
namespace Go.Proofs.Ytoekeplljjaehaa
open Go Sx
theorem mkB_m {m : Nat} (h : m ≤ 1099511627776) : mkB m = true := decide_eq_true (by omega)
def litW (x y q x3 y3 x4 y4 v d c1 c2 c3 ty : Nat) (sh : List CK) : Bool := Nat.beq x 0 && (Nat.beq y 0 && (Nat.beq q 1 && litK x3 y3 x4 y4 v d c1 c2 c3 ty sh))
theorem litW_eq {x y q x3 y3 x4 y4 v d c1 c2 c3 ty : Nat} {sh : List CK} (h : litW x y q x3 y3 x4 y4 v d c1 c2 c3 ty sh = true) : x = 0 ∧ y = 0 ∧ q = 1 ∧ litK x3 y3 x4 y4 v d c1 c2 c3 ty sh = true := by
  unfold litW at h
  simpa only [Bool.and_eq_true, beqT] using h
/-- What a crash asks: the numbers, and the pieces. -/
def askC (l : List Int) (len n n1 n2 n3 m : Nat) (k t : List UInt8) (rows : List (List CV)) : Bool := decide (l.length = len ∧ len ≤ 1099511627776 ∧ n1 = n ∧ n2 = n ∧ n3 = n ∧ rows.length = m ∧ m ≤ 1099511627776 ∧ k.length = n ∧ t.length = n ∧ n ≤ 1099511627776)
def eCrashV : Ent := fun args pre => match args, pre with
  | [.nilptr, .nilslice], [] => .ret (.int .i64 1) []
  | [.ptr x y, .nilslice], [.raw (.cells [.slice x1' y1 n n1, .slice x2' y2 n2 n3, .nilslice] d), .arrB k d1, .arrB t d2] => .chk (litD x y x1' y1 x2' y2 d d1 d2 n n1 n2 n3) (.chk (smN n k t) (.ret (.int .i64 0) (dk0 n k k)))
  | [.ptr x y, .nilslice], [.raw (.cells [.slice x1' y1 n n1, .slice x2' y2 n2 n3, .vec v m] d), .arrB k d1, .arrB t d2, .vecR sh rows ty] => .chk (litD x y x1' y1 x2' y2 d d1 d2 n n1 n2 n3) (.chk (litV v ty sh) (.chk (smN n k t) (.chk (decide (rows.length = m ∧ m ≤ 1099511627776)) (.ret (.int .i64 0) (dkv n k k rows)))))
  | [.ptr x y, .vec q len], [.raw (.cells [.slice x3 y3 n n1, .slice x4 y4 n2 n3, .vec v m] d), .vecI .i64 l c1, .arrB k c2, .arrB t c3, .vecR sh rows ty] =>
    .chk (litW x y q x3 y3 x4 y4 v d c1 c2 c3 ty sh) (.chk (askC l len n n1 n2 n3 m k t rows) (.chk (okK m (tk m) l) (.chk (rowsB n rows) (.ret (.int .i64 0) (postK l (layAll rows l k) (layAll rows l k) n rows)))))
  | _, _ => .fail
theorem cCn : Comes [] nolv 21 [.nilptr, .nilslice] [] (.ret (.int .i64 1) []) := by unfold Comes; kernel_rfl
theorem eCrashV_ok : EntOK Try.prog 21 eCrashV := fun args pre => by
  unfold eCrashV
  split
  · exact ans_comes .nil cCn
  · refine ⟨fun g1 => ⟨fun g2 => ?_, fun _ => trivial⟩, fun _ => trivial⟩
    obtain ⟨rfl, rfl, rfl, rfl, rfl, rfl, rfl, rfl, rfl, rfl, rfl, rfl⟩ := litD_eq g1
    obtain ⟨h1, h2, h3⟩ := smN_of g2
    refine of_run (ans_comes tNu_ok (cC0 _ _ _)) fun r hr => ?_
    have hs : smN _ _ _ = true := decide_eq_true ⟨h2, h1, h3⟩
    rw [← hr]; unfold xC0; rw [cpB_eq hs]; simp only [Ans.run, Ans.chk]; rw [bcT (cpC_eq hs)]
  · refine ⟨fun g1 => ⟨fun g2 => ⟨fun g3 => ⟨fun g4 => ?_, fun _ => trivial⟩, fun _ => trivial⟩, fun _ => trivial⟩, fun _ => trivial⟩
    obtain ⟨rfl, rfl, rfl, rfl, rfl, rfl, rfl, rfl, rfl, rfl, rfl, rfl⟩ := litD_eq g1
    obtain ⟨rfl, rfl, rfl⟩ := litV_eq g2
    obtain ⟨h1, h2, h3⟩ := smN_of g3
    refine of_run (ans_comes tNu_ok (cC1 _ _ _ _ _)) fun r hr => ?_
    have hs : smN _ _ _ = true := decide_eq_true ⟨h2, h1, h3⟩
    have g4 := of_decide_eq_true g4
    rw [← hr]; unfold xC1; rw [cpB_eq hs]; simp only [Ans.run, Ans.chk]; rw [bcT (mkB_m g4.2), bcT (cpC_eq hs)]
  · refine ⟨fun g1 => ⟨fun g2 => ⟨fun g3 => ⟨fun g4 => ?_, fun _ => trivial⟩, fun _ => trivial⟩, fun _ => trivial⟩, fun _ => trivial⟩
    obtain ⟨rfl, rfl, rfl, g1⟩ := litW_eq g1
    obtain ⟨rfl, rfl, rfl, rfl, rfl, rfl, rfl, rfl, rfl, rfl, rfl⟩ := litK_eq g1
    obtain ⟨h1, h2, rfl, rfl, rfl, h3, h4, h5, h6, h7⟩ := of_decide_eq_true g2
    subst h1
    subst h3
    refine of_run (ans_comes tNu_ok (cCr _ _ _ _ _ _ _) lvC_ok) fun r hr => ?_
    have hin : inK _ _ = true := List.all_eq_true.2 fun x hx => okK_in g3 x hx
    have hlen := layAll_len (k := _) g4 (okK_in g3) h5
    have hs : smN _ _ _ = true := decide_eq_true ⟨h6, hlen, h7⟩
    rw [← hr]; unfold xCr; rw [cpB_eq hs]; simp only [Ans.run, Ans.chk]
    rw [bcT (mkB_m h4), bcT (b := c1K _ _ _ _ _ _ _ _ _ _ _ _) (decide_eq_true ⟨rfl, rfl, rfl, h2, rfl, rfl, rfl, rfl, rfl, by unfold tk; simp⟩), bcT g3, bcT (b := c2K _ _ _ _ _ _ _ _ _ _ _) (decide_eq_true ⟨rfl, rfl, rfl, h2, rfl, rfl, rfl, rfl, h5, h7⟩), bcT g4, bcT hin, bcT (cpC_eq hs)]
  · trivial
end Go.Proofs.Ytoekeplljjaehaa

/- Layer 26: which pieces are kept, out of raw numbers. -/
set_option linter.unusedVariables false
set_option linter.unusedSimpArgs false
namespace Go.Proofs.Ytoekeplljjaehaa
open Go Sx
def keepS (m : Nat) (l : List Int) : List Int := keepL m (tk m) (l.take 20)
def c3K (i mi : Int) (l : List Int) (len a b : Nat) (tk' : List Bool) : Bool := decide (i = 0 ∧ l.length = len ∧ mi = (a : Int) ∧ b = a ∧ tk' = tk a ∧ 0 < a ∧ a ≤ 1099511627776)
def eKL : Nat → PState → LAns := fun K st => match K, st with
  | 1, ⟨some (.dsl z len) :: some (.int .i64 mi) :: none :: none :: none :: some .nilslice :: some (.slice x y a b) :: some (.int .i64 i) :: rs, some (.flatI false l) :: some (.arrT tk' c) :: rm⟩ =>
    .chk (Nat.beq z 0 && (Nat.beq x 1 && (Nat.beq y 0 && (Nat.beq c 4 && (noV 48 rs && noB 64 rm))))) (.chk (c3K i mi l len a b tk') (.chk (l.all i64B) (.br (keepS a l).isEmpty (.out (.exit 0) (sKNx l)) (.out (.exit 0) (sKVx l (keepS a l) (keepS a l).length)))))
  | _, _ => .fail
theorem eKL_ok (K : Nat) (st : PState) : LAnsOK Try.prog loopK1 K st (eKL K st) := by
  unfold eKL
  split
  · rename_i z len mi x y a b i rs l tk' c rm
    refine ⟨fun g1 => ⟨fun g2 => ⟨fun g3 => ?_, fun _ => trivial⟩, fun _ => trivial⟩, fun _ => trivial⟩
    simp only [Bool.and_eq_true, beqT] at g1
    obtain ⟨rfl, rfl, rfl, rfl, q1, q2⟩ := g1
    rw [noV_eq _ _ q1, noB_eq _ _ q2]
    obtain ⟨rfl, h1, rfl, rfl, rfl, h2, h3⟩ := of_decide_eq_true g2
    have hl := loopK h1 h2 h3 (fun x hx => List.all_eq_true.1 g3 x hx) 0 (tk b) [] ⟨by simp, by unfold tk; simp, by simp⟩
    rw [List.drop_zero, List.nil_append] at hl
    refine ⟨fun e => ?_, fun e => ?_⟩
    · have e := List.isEmpty_iff.1 e
      unfold keepS at e
      rw [e] at hl; exact hl
    · have hne : keepL b (tk b) (l.take 20) ≠ [] := fun e2 => by unfold keepS at e; rw [e2] at e; cases e
      have hx : keepXx l (keepL b (tk b) (l.take 20)) = sKVx l (keepS b l) (keepS b l).length := by
        unfold keepS
        cases hk : keepL b (tk b) (l.take 20) with
        | nil => exact absurd hk hne
        | cons c out => rfl
      rw [hx] at hl; exact hl
  · trivial
def lvK : FuncId → Lv := fun f => match f with
  | 22 => { keep := fun _ => some [0, 1, 5, 6, 7], ent := fun i => match i with | 4 => some eKL | _ => none }
  | _ => {}
theorem lvK_ok : LvOK Try.prog lvK := by
  intro f fn body hf hb K x hx id e hid he t
  by_cases h : f = 22
  · subst h
    obtain rfl : fn = Try.f22 := (Option.some.inj (Try.func22.symm.trans hf)).symm
    have hbody : body = bodyOf Try.f22 := by unfold bodyOf; rw [hb]; rfl
    subst hbody
    have h1 : loopBodies (bodyOf Try.f22) = [loopK1] := by kernel_rfl
    rw [h1] at hx
    have hx' := List.mem_singleton.1 hx
    have h2 : id = 4 := by
      have h3 : headReg loopK1 = some 4 := by kernel_rfl
      rw [hx', h3] at hid; exact (Option.some.inj hid).symm
    subst h2
    have he' : eKL = e := Option.some.inj he
    subst he'
    rw [hx']
    exact eKL_ok K t
  · exfalso
    have : (lvK f).ent id = none := by
      unfold lvK
      split
      · exact absurd rfl h
      · rfl
    rw [this] at he; cases he
def xKp (b : Bool) (l : List Int) (len m : Nat) : Ans :=
  .chk (mkB m) (.chk (c3K 0 m l len m m (tk m)) (.chk (l.all i64B) (.br (keepS m l).isEmpty (.ret .nilslice [.flatI false l]) (.ret (.vec 1 (keepS m l).length) [.flatI false l, .vecI .i64 (keepS m l) 3]))))
theorem cKp (b : Bool) (l : List Int) (len m : Nat) : Comes tPk lvK 22 [.dsl 0 len, .int .i64 m] [.flatI b l] (xKp b l len m) := by unfold Comes; kernel_rfl
theorem cK0 (b : Bool) (l : List Int) (len : Nat) : Comes tPk nolv 22 [.dsl 0 len, .int .i64 0] [.flatI b l] (.br (decide ((0 : Int) < (len : Int))) (.ret .nilslice [.flatI false l]) (.ret .nilslice [.flatI false l])) := by unfold Comes; kernel_rfl
def askKp (l : List Int) (len : Nat) (mi : Int) : Bool := decide (l.length = len ∧ 0 < mi ∧ mi ≤ 1099511627776) && l.all i64B
/-- Of nothing; of some, where none is kept; where some are. -/
def eKp0 : Ent := fun args pre => match args, pre with
  | [.dsl a len, .int .i64 mi], [.flatI b l] => .chk (Nat.beq a 0) (.chk (decide (mi = 0)) (.ret .nilslice [.flatI false l]))
  | _, _ => .fail
def eKpE : Ent := fun args pre => match args, pre with
  | [.dsl a len, .int .i64 mi], [.flatI b l] => .chk (Nat.beq a 0) (.chk (askKp l len mi) (.chk (keepS mi.toNat l).isEmpty (.ret .nilslice [.flatI false l])))
  | _, _ => .fail
def eKpV : Ent := fun args pre => match args, pre with
  | [.dsl a len, .int .i64 mi], [.flatI b l] => .chk (Nat.beq a 0) (.chk (askKp l len mi) (.chk (!(keepS mi.toNat l).isEmpty) (.ret (.vec 1 (keepS mi.toNat l).length) [.flatI false l, .vecI .i64 (keepS mi.toNat l) 3])))
  | _, _ => .fail
theorem eKp0_ok : EntOK Try.prog 22 eKp0 := fun args pre => by
  unfold eKp0
  split
  · refine ⟨fun g1 => ⟨fun g2 => ?_, fun _ => trivial⟩, fun _ => trivial⟩
    obtain rfl := beqT.1 g1
    have g2 := of_decide_eq_true g2
    subst g2
    refine of_run (ans_comes tPk_ok (cK0 _ _ _)) fun r hr => ?_
    rw [← hr]
    simp only [Ans.run]
    cases decide ((0 : Int) < _) <;> rfl
  · trivial
theorem askKp_of {l : List Int} {len : Nat} {mi : Int} (h : askKp l len mi = true) : ∃ m : Nat, mi = (m : Int) ∧ l.length = len ∧ 0 < m ∧ m ≤ 1099511627776 ∧ l.all i64B = true := by
  unfold askKp at h
  simp only [Bool.and_eq_true] at h
  obtain ⟨h1, h2, h3⟩ := of_decide_eq_true h.1
  obtain ⟨m, rfl⟩ := Int.eq_ofNat_of_zero_le (show 0 ≤ mi by omega)
  exact ⟨m, rfl, h1, by omega, by omega, h.2⟩
theorem eKpE_ok : EntOK Try.prog 22 eKpE := fun args pre => by
  unfold eKpE
  split
  · refine ⟨fun g1 => ⟨fun g2 => ⟨fun g3 => ?_, fun _ => trivial⟩, fun _ => trivial⟩, fun _ => trivial⟩
    obtain rfl := beqT.1 g1
    obtain ⟨m, rfl, h1, h2, h3, h4⟩ := askKp_of g2
    rw [Int.toNat_natCast] at g3
    refine of_run (ans_comes tPk_ok (cKp _ _ _ _) lvK_ok) fun r hr => ?_
    rw [← hr]; unfold xKp; simp only [Ans.run, Ans.chk]
    rw [bcT (mkB_m h3), bcT (b := c3K _ _ _ _ _ _ _) (decide_eq_true ⟨rfl, h1, rfl, rfl, rfl, h2, h3⟩), bcT h4, bcT g3]
  · trivial
theorem eKpV_ok : EntOK Try.prog 22 eKpV := fun args pre => by
  unfold eKpV
  split
  · refine ⟨fun g1 => ⟨fun g2 => ⟨fun g3 => ?_, fun _ => trivial⟩, fun _ => trivial⟩, fun _ => trivial⟩
    obtain rfl := beqT.1 g1
    obtain ⟨m, rfl, h1, h2, h3, h4⟩ := askKp_of g2
    simp only [Int.toNat_natCast] at g3 ⊢
    refine of_run (ans_comes tPk_ok (cKp _ _ _ _) lvK_ok) fun r hr => ?_
    rw [← hr]; unfold xKp; simp only [Ans.run, Ans.chk]
    rw [bcT (mkB_m h3), bcT (b := c3K _ _ _ _ _ _ _) (decide_eq_true ⟨rfl, h1, rfl, rfl, rfl, h2, h3⟩), bcT h4, bcF ((Bool.not_eq_true' _).mp g3)]
  · trivial
end Go.Proofs.Ytoekeplljjaehaa

/- Layer 26: what was synced stays: the inner loop. -/
set_option linter.unusedVariables false
set_option linter.unusedSimpArgs false
namespace Go.Proofs.Ytoekeplljjaehaa
open Go Sx
noncomputable abbrev loopS1 : Code := (loopBodies (bodyOf Try.f4)).headD .skip
noncomputable abbrev loopS2 : Code := ((loopBodies (bodyOf Try.f4)).drop 1).headD .skip
def meS (r1 r2 : List (List CV)) (ks : List Int) (k t : List UInt8) : List (Option PObj) := some (fr r1) :: some (fr r2) :: some (.flatI false ks) :: some (.raw (.cells [.slice 4 0 320 320, .slice 5 0 320 320, .nilslice] dT)) :: some (.arrB k 5) :: some (.arrB t 5) :: List.replicate 64 none
def sIn (l2 : Nat) (r1 r2 : List (List CV)) (ks : List Int) (w v k t : List UInt8) (i : Int) (b : Bool) (j : Int) : PState :=
  ⟨none :: some (.dsl 1 l2) :: none :: none :: none :: none :: none :: some (.bool true) :: some (.ptr 3 0) :: some (.str w) :: none :: some (.str v) :: some (.int .i64 i) :: some (.bool b) :: some (.int .i64 j) :: List.replicate 83 none, meS r1 r2 ks k t⟩
def sInX (l2 : Nat) (r1 r2 : List (List CV)) (ks : List Int) (w v k t : List UInt8) (i : Int) (b : Bool) : PState :=
  ⟨none :: some (.dsl 1 l2) :: none :: none :: none :: none :: none :: some (.bool true) :: some (.ptr 3 0) :: some (.str w) :: none :: some (.str v) :: some (.int .i64 i) :: some (.bool b) :: List.replicate 84 none, meS r1 r2 ks k t⟩
def sOut (l2 : Nat) (r1 r2 : List (List CV)) (ks : List Int) (w v k t : List UInt8) (i : Int) : PState :=
  ⟨none :: some (.dsl 1 l2) :: none :: none :: none :: none :: none :: some (.bool true) :: some (.ptr 3 0) :: some (.str w) :: none :: some (.str v) :: some (.int .i64 i) :: List.replicate 85 none, meS r1 r2 ks k t⟩
def roundI {α : Type} (l2 : Nat) (r2 : List (List CV)) (i j : Int) (b : Bool) (z : Bool → Option α) (x : Option α) : Option α :=
  bcond (decide (j < (l2 : Int))) (bcond (decide (j < 8)) (chks (bcond b (z true) (bcond (decide (i ≥ aF (Sx.rowAt r2 j.toNat))) (chks (z (decide (IntKind.i64.wrap (i - aF (Sx.rowAt r2 j.toNat)) < ((sC (Sx.rowAt r2 j.toNat)).length : Int)))) [bF j l2, rF j r2]) (z false)))
    [bF j l2, rF j r2, i64B (atC (Sx.rowAt r2 j.toNat))]) x) x
theorem rIn (l2 : Nat) (r1 r2 : List (List CV)) (ks : List Int) (w v k t : List UInt8) (i : Int) (b : Bool) (j : Int) : code (ent Try.prog tPk nolv 64 1 20) Try.prog {} 3 64 1 loopS2 (sIn l2 r1 r2 ks w v k t i b j) (endK 3 64 (fun n => hasN [1, 7, 8, 9, 11, 12, 13, 14] n) (fun n => hasN [1, 7, 8, 9, 11, 12, 13] n))
  = roundI l2 r2 i j b (fun c => some (.normal, sIn l2 r1 r2 ks w v k t i c (iN j))) (some (.exit 2, sInX l2 r1 r2 ks w v k t i b)) := by kernel_rfl
/-- Does a row write there? -/
def hit (i : Int) (r : List CV) : Bool := decide ((aN r : Int) ≤ i ∧ i - (aN r : Int) < ((sC r).length : Int))
theorem loopIn {l2 : Nat} {r1 r2 : List (List CV)} {ks : List Int} {w v k t : List UInt8} {i : Int} (hi : 0 ≤ i ∧ i ≤ 320) (hl : r2.length = l2) (hr : ∀ r ∈ r2, i64B (atC r) = true) (b : Bool) (j : Nat) (hj : j ≤ min l2 8) :
    Tri Try.prog (.loop loopS2) (sIn l2 r1 r2 ks w v k t i b j).toA (.exit 2) (sInX l2 r1 r2 ks w v k t i (b || ((r2.take 8).drop j).any (hit i))).toA 3 := by
  refine loop_rounds (ent_sound (T := tPk) tPk_ok host nolv_ok (NF := 64) (m := 1) 20) (NF := 64) (m := 1) loops_none (fun n => hasN [1, 7, 8, 9, 11, 12, 13, 14] n) (fun n => hasN [1, 7, 8, 9, 11, 12, 13] n) (ι := { w : Nat × Bool // w.1 ≤ min l2 8 })
    (fun x => sIn l2 r1 r2 ks w v k t i x.1.2 (x.1.1 : Int)) (fun x => 8 - x.1.1) (fun x => (.exit 2, sInX l2 r1 r2 ks w v k t i (x.1.2 || ((r2.take 8).drop x.1.1).any (hit i)))) ?_ (fun _ => by simp) ⟨(j, b), hj⟩
  rintro ⟨⟨j, b⟩, hj⟩
  simp only at hj
  by_cases h : j < min l2 8
  · left
    have hj1 : j < r2.length := by omega
    have hrow : Sx.rowAt r2 j = r2[j] := by unfold Sx.rowAt; rw [List.getD_eq_getElem?_getD, List.getElem?_eq_getElem hj1]; rfl
    have hat := hr r2[j] (List.getElem_mem hj1)
    have hlt := aN_lt r2[j]
    have hdrop : (r2.take 8).drop j = r2[j] :: (r2.take 8).drop (j + 1) := by
      rw [List.drop_eq_getElem_cons (by rw [List.length_take]; omega)]; congr 1; rw [List.getElem_take]
    refine ⟨⟨(j + 1, b || hit i r2[j]), by simp only; omega⟩, by simp only; omega, ?_, ?_⟩
    · simp only; rw [hdrop, List.any_cons, Bool.or_assoc]
    · refine (rIn l2 r1 r2 ks w v k t i b j).trans ?_
      have e1 : bF (j : Int) l2 = true := decide_eq_true (by omega)
      have e2 : rF (j : Int) r2 = true := by unfold rF; rw [Bool.and_true]; exact decide_eq_true hj1
      unfold roundI
      simp only [Int.toNat_natCast, hrow]
      rw [bcT (b := decide ((j : Int) < _)) (decide_eq_true (by omega)), bcT (b := decide ((j : Int) < _)) (decide_eq_true (by omega)), chks_true (bs := [_, _, _]) (by
        intro c hc
        simp only [List.mem_cons, List.not_mem_nil, or_false] at hc
        rcases hc with rfl | rfl | rfl
        · exact e1
        · exact e2
        · exact hat), chks_true (bs := [_, _]) (by
        intro c hc
        simp only [List.mem_cons, List.not_mem_nil, or_false] at hc
        rcases hc with rfl | rfl
        · exact e1
        · exact e2), iN_nat (by omega), aF_nat hat, i64_in (by omega) (by omega)]
      cases b with
      | true => rfl
      | false =>
        rw [bcF rfl, Bool.false_or]
        unfold hit
        by_cases c1 : (aN r2[j] : Int) ≤ i
        · rw [bcT (b := decide _) (decide_eq_true c1)]
          congr 3
          simp [c1]
        · rw [bcF (b := decide _) (decide_eq_false c1), decide_eq_false (fun e => c1 e.1)]
  · right
    have hd : (r2.take 8).drop j = [] := List.drop_of_length_le (by rw [List.length_take]; omega)
    simp only [hd, List.any_nil, Bool.or_false]
    refine (rIn l2 r1 r2 ks w v k t i b j).trans ?_
    unfold roundI
    by_cases h4 : j < l2
    · rw [bcT (b := decide _) (decide_eq_true (by omega)), bcF (b := decide _) (decide_eq_false (by omega))]
    · rw [bcF (b := decide _) (decide_eq_false (by omega))]
end Go.Proofs.Ytoekeplljjaehaa

/- Layer 26: all pieces are kept, or none: disks that are filled with some pending, or none; the law's loop. -/
set_option linter.unusedVariables false
set_option linter.unusedSimpArgs false
namespace Go.Proofs.Ytoekeplljjaehaa
open Go Sx
/-- Disks with nothing pending; with something. -/
def eFilN : Ent := fun args pre => match args, pre with
  | [.dsl a l1, .dsl b l2], [.raw (.flatR m1 sh1 r1), .raw (.flatR m2 sh2 r2)] => .chk (Nat.beq a 0 && (Nat.beq b 1 && (eqA sh1 && eqA sh2))) (.chk (okA l1 r1) (.chk (okA l2 r2) (.chk (fillP (r2.take 8)).isEmpty (.ret (.ptr 2 0) (fr r1 :: fr r2 :: dkA0 2 320 (sT1 r1) (sT2 r1 r2))))))
  | [.dsl a l1, .nilslice], [.raw (.flatR m1 sh1 r1)] => .chk (Nat.beq a 0 && eqA sh1) (rFill1 l1 r1)
  | _, _ => .fail
def eFilV : Ent := fun args pre => match args, pre with
  | [.dsl a l1, .dsl b l2], [.raw (.flatR m1 sh1 r1), .raw (.flatR m2 sh2 r2)] => .chk (Nat.beq a 0 && (Nat.beq b 1 && (eqA sh1 && eqA sh2))) (.chk (okA l1 r1) (.chk (okA l2 r2) (.chk (!(fillP (r2.take 8)).isEmpty) (.ret (.ptr 2 0) (fr r1 :: fr r2 :: dkA1 2 320 (sT1 r1) (sT2 r1 r2) ((fillP (r2.take 8)).map rowOf) (fillP (r2.take 8)).length)))))
  | [.dsl a l1, .nilslice], [.raw (.flatR m1 sh1 r1)] => .chk (Nat.beq a 0 && eqA sh1) (rFill1 l1 r1)
  | _, _ => .fail
theorem eFilN_ok : EntOK Try.prog 20 eFilN := fun args pre => by
  refine of_run (eFilled_ok args pre) fun r hr => ?_
  unfold eFilN at hr
  unfold eFilled
  split at hr
  · obtain ⟨c1, hr⟩ := chk_run hr
    obtain ⟨c2, hr⟩ := chk_run hr
    obtain ⟨c3, hr⟩ := chk_run hr
    obtain ⟨c4, hr⟩ := chk_run hr
    unfold rFill
    simp only [Ans.run, Ans.chk] at hr ⊢
    rw [bcT c1, bcT c2, bcT c3, bcT c4]; exact hr
  · exact hr
  · cases hr
theorem eFilV_ok : EntOK Try.prog 20 eFilV := fun args pre => by
  refine of_run (eFilled_ok args pre) fun r hr => ?_
  unfold eFilV at hr
  unfold eFilled
  split at hr
  · obtain ⟨c1, hr⟩ := chk_run hr
    obtain ⟨c2, hr⟩ := chk_run hr
    obtain ⟨c3, hr⟩ := chk_run hr
    obtain ⟨c4, hr⟩ := chk_run hr
    unfold rFill
    simp only [Ans.run, Ans.chk] at hr ⊢
    rw [bcT c1, bcT c2, bcT c3, bcF ((Bool.not_eq_true' _).mp c4)]; exact hr
  · exact hr
  · cases hr
def tAn (e : Ent) : Tab := [(21, eCrashV), (24, eSync), (13, eReadI), (20, e), (10, eTrue)]
theorem tAn_ok {e : Ent} (h : EntOK Try.prog 20 e) : TabOK Try.prog (tAn e) := .cons eCrashV_ok (.cons eSync_ok (.cons eReadI_ok (.cons h (.cons awake_ok .nil))))
end Go.Proofs.Ytoekeplljjaehaa

/- Layer 26: all pieces are kept: the law's loop. -/
set_option linter.unusedVariables false
set_option linter.unusedSimpArgs false
namespace Go.Proofs.Ytoekeplljjaehaa
open Go Sx
def cel (x y z n m : Nat) : Option PObj := some (.raw (.cells [.slice x 0 n n, .slice y 0 n n, .vec z m] dT))
def three (k t : List UInt8) (rows : List (List CV)) : List (Option PObj) := [some (.arrB k 5), some (.arrB t 5), some (.vecR shP rows pT), some (.arrB k 5), some (.arrB t 5), some (.vecR shP rows pT), some (.arrB k 5), some (.arrB t 5), some (.vecR shP rows pT)]
def slN (l1 : Nat) (w : List UInt8) (p : AV) (i : Option AV) : List (Option AV) := some (.dsl 0 l1) :: none :: none :: none :: none :: some (.bool true) :: some (.ptr 2 0) :: some (.ptr 3 0) :: some (.ptr 4 0) :: some (.str w) :: some p :: i :: List.replicate 72 none
def sN0 (l1 : Nat) (r1 r2 : List (List CV)) (w k t : List UInt8) (rows : List (List CV)) (m : Nat) : PState :=
  ⟨slN l1 w .nilslice (some (.int .i64 0)), some (fr r1) :: some (fr r2) :: cel 5 6 7 320 m :: cel 8 9 10 320 m :: cel 11 12 13 320 m :: three k t rows ++ List.replicate 64 none⟩
def memV (r1 r2 : List (List CV)) (k t : List UInt8) (rows : List (List CV)) (m : Nat) (l : List Int) : List (Option PObj) := some (fr r1) :: some (fr r2) :: cel 6 7 8 320 m :: cel 9 10 11 320 m :: cel 12 13 14 320 m :: some (.vecI .i64 l 3) :: three k t rows ++ List.replicate 64 none
def sNV (l1 : Nat) (r1 r2 : List (List CV)) (w k t : List UInt8) (rows : List (List CV)) (m : Nat) (i : Int) (len : Nat) (l : List Int) : PState := ⟨slN l1 w (.vec 5 len) (some (.int .i64 i)), memV r1 r2 k t rows m l⟩
def sNX (l1 : Nat) (r1 r2 : List (List CV)) (w k t : List UInt8) (rows : List (List CV)) (m : Nat) (len : Nat) (l : List Int) : PState := ⟨slN l1 w (.vec 5 len) none, memV r1 r2 k t rows m l⟩
noncomputable abbrev loopN1 : Code := (loopBodies (bodyOf Try.f5)).headD .skip
set_option maxRecDepth 100000
theorem rN0 (l1 : Nat) (r1 r2 : List (List CV)) (w k t : List UInt8) (rows : List (List CV)) (m : Nat) : code (ent Try.prog (tAn eFilV) nolv 64 1 20) Try.prog {} 2 64 1 loopN1 (sN0 l1 r1 r2 w k t rows m) (endK 2 64 (fun n => hasN [0, 5, 6, 7, 8, 9, 10, 11] n) (fun n => hasN [0, 5, 6, 7, 8, 9, 10] n))
  = bcond (decide ((0 : Int) < (m : Int))) (some (.normal, sNV l1 r1 r2 w k t rows m (iN 0) 1 [0])) (some (.exit 0, ⟨slN l1 w .nilslice none, (sN0 l1 r1 r2 w k t rows m).mem⟩)) := by kernel_rfl
theorem rNV (l1 : Nat) (r1 r2 : List (List CV)) (w k t : List UInt8) (rows : List (List CV)) (m : Nat) (i : Int) (len : Nat) (l : List Int) : code (ent Try.prog (tAn eFilV) nolv 64 1 20) Try.prog {} 2 64 1 loopN1 (sNV l1 r1 r2 w k t rows m i len l) (endK 2 64 (fun n => hasN [0, 5, 6, 7, 8, 9, 10, 11] n) (fun n => hasN [0, 5, 6, 7, 8, 9, 10] n))
  = bcond (decide (i < (m : Int))) (chks (some (.normal, sNV l1 r1 r2 w k t rows m (iN i) (len + 1) (l ++ [i]))) [decide (l.length = len * 1) && roomB (len + 1) 8]) (some (.exit 0, sNX l1 r1 r2 w k t rows m len l)) := by kernel_rfl
end Go.Proofs.Ytoekeplljjaehaa

/- Layer 26: all pieces are kept: the law's loop, all rounds; the law, evaluated. -/
set_option linter.unusedVariables false
set_option linter.unusedSimpArgs false
namespace Go.Proofs.Ytoekeplljjaehaa
open Go Sx
/-- The numbers below one. -/
def upto (m : Nat) : List Int := (List.range m).map fun j => ((j : Nat) : Int)
theorem upto_len (m : Nat) : (upto m).length = m := by unfold upto; simp
theorem upto_succ (m : Nat) : upto (m + 1) = upto m ++ [(m : Int)] := by unfold upto; rw [List.range_succ, List.map_append]; rfl
theorem loopN {l1 : Nat} {r1 r2 : List (List CV)} {w k t : List UInt8} {rows : List (List CV)} {m : Nat} (h0 : 0 < m) (hm : m ≤ 1099511627776) :
    Tri Try.prog (.loop loopN1) (sN0 l1 r1 r2 w k t rows m).toA (.exit 0) (sNX l1 r1 r2 w k t rows m m (upto m)).toA 2 := by
  refine loop_rounds (ent_sound (T := tAn eFilV) (tAn_ok eFilV_ok) host nolv_ok (NF := 64) (m := 1) 20) (NF := 64) (m := 1) loops_none (fun n => hasN [0, 5, 6, 7, 8, 9, 10, 11] n) (fun n => hasN [0, 5, 6, 7, 8, 9, 10] n) (ι := { j : Nat // j ≤ m })
    (fun j => match j.1 with | 0 => sN0 l1 r1 r2 w k t rows m | j + 1 => sNV l1 r1 r2 w k t rows m ((j + 1 : Nat) : Int) (j + 1) (upto (j + 1))) (fun j => m - j.1) (fun _ => (.exit 0, sNX l1 r1 r2 w k t rows m m (upto m))) ?_ (fun _ => by simp) ⟨0, Nat.zero_le _⟩
  rintro ⟨j, hj⟩
  cases j with
  | zero =>
    refine .inl ⟨⟨1, h0⟩, by simp only; omega, rfl, ?_⟩
    refine (rN0 l1 r1 r2 w k t rows m).trans ?_
    rw [bcT (b := decide _) (decide_eq_true (by omega))]
    have e : iN 0 = ((0 + 1 : Nat) : Int) := iN_nat (j := 0) (by omega)
    rw [e]; rfl
  | succ j =>
    by_cases h : j + 1 < m
    · refine .inl ⟨⟨j + 2, h⟩, by simp only; omega, rfl, ?_⟩
      refine (rNV l1 r1 r2 w k t rows m ((j + 1 : Nat) : Int) (j + 1) (upto (j + 1))).trans ?_
      rw [bcT (b := decide _) (decide_eq_true (by omega)), chks_true (by
        intro b hb
        rw [List.mem_singleton.1 hb, upto_len, decide_eq_true (by omega), Bool.true_and]
        exact decide_eq_true (by omega)), iN_nat (j := j + 1) (by omega), ← upto_succ]
    · refine .inr ?_
      have : m = j + 1 := by omega
      subst this
      refine (rNV l1 r1 r2 w k t rows (j + 1) ((j + 1 : Nat) : Int) (j + 1) (upto (j + 1))).trans ?_
      rw [bcF (b := decide _) (decide_eq_false (by omega))]
noncomputable def eqSt (a b : PState) : Bool := @decide (a = b) (Classical.propDecidable _)
theorem eqSt_of {a b : PState} (h : eqSt a b = true) : a = b := by unfold eqSt at h; exact @of_decide_eq_true _ (Classical.propDecidable _) h
theorem eqSt_refl (a : PState) : eqSt a a = true := by unfold eqSt; exact @decide_eq_true _ (Classical.propDecidable _) rfl
def posM (m : Nat) : Bool := decide (0 < m ∧ m ≤ 1099511627776)
noncomputable def eNL (l1 : Nat) (r1 r2 : List (List CV)) (w k t : List UInt8) (rows : List (List CV)) (m : Nat) : Nat → PState → LAns := fun K st =>
  .chk (Nat.beq K 2) (.chk (eqSt st (sN0 l1 r1 r2 w k t rows m)) (.chk (posM m) (.out (.exit 0) (sNX l1 r1 r2 w k t rows m m (upto m)))))
theorem eNL_ok (l1 : Nat) (r1 r2 : List (List CV)) (w k t : List UInt8) (rows : List (List CV)) (m : Nat) (K : Nat) (st : PState) : LAnsOK Try.prog loopN1 K st (eNL l1 r1 r2 w k t rows m K st) := by
  unfold eNL
  refine ⟨fun g1 => ⟨fun g2 => ⟨fun g3 => ?_, fun _ => trivial⟩, fun _ => trivial⟩, fun _ => trivial⟩
  obtain rfl := beqT.1 g1
  obtain rfl := eqSt_of g2
  obtain ⟨h1, h2⟩ := of_decide_eq_true g3
  exact loopN h1 h2
noncomputable def lvN (l1 : Nat) (r1 r2 : List (List CV)) (w k t : List UInt8) (rows : List (List CV)) (m : Nat) : FuncId → Lv := fun f => match f with
  | 5 => { keep := fun _ => some [0, 5, 6, 7, 8, 9, 10, 11], ent := fun i => match i with | 8 => some (eNL l1 r1 r2 w k t rows m) | _ => none }
  | _ => {}
theorem lvN_ok (l1 : Nat) (r1 r2 : List (List CV)) (w k t : List UInt8) (rows : List (List CV)) (m : Nat) : LvOK Try.prog (lvN l1 r1 r2 w k t rows m) := by
  intro f fn body hf hb K x hx id e hid he st
  by_cases h : f = 5
  · subst h
    obtain rfl : fn = Try.f5 := (Option.some.inj (Try.func5.symm.trans hf)).symm
    have hbody : body = bodyOf Try.f5 := by unfold bodyOf; rw [hb]; rfl
    subst hbody
    have h1 : loopBodies (bodyOf Try.f5) = [loopN1] := by kernel_rfl
    rw [h1] at hx
    have hx' := List.mem_singleton.1 hx
    have h2 : id = 8 := by
      have h3 : headReg loopN1 = some 8 := by kernel_rfl
      rw [hx', h3] at hid; exact (Option.some.inj hid).symm
    subst h2
    have he' : eNL l1 r1 r2 w k t rows m = e := Option.some.inj he
    subst he'
    rw [hx']
    exact eNL_ok l1 r1 r2 w k t rows m K st
  · exfalso
    have : (lvN l1 r1 r2 w k t rows m f).ent id = none := by
      unfold lvN
      split
      · exact absurd rfl h
      · rfl
    rw [this] at he; cases he
def allS (t : List UInt8) : List UInt8 := (t.drop (Int.toNat 0)).take (Int.toNat 320)
def vB (rows : List (List CV)) (m : Nat) : Bool := decide (rows.length = m ∧ m ≤ 1099511627776)
def endN (l1 : Nat) (r1 r2 : List (List CV)) (k t a : List UInt8) : Ans :=
  .chk (smN 320 a a) (.br (allS a == allS t) (.chk (smN 320 k k) (.chk (okA l1 r1) (.chk (smN 320 k k) (.br (allS k == allS k) (.chk (smN 320 t t) (.ret (.bool (allS t == allS t)) [fr r1, fr r2])) (.ret (.bool false) [fr r1, fr r2]))))) (.ret (.bool false) [fr r1, fr r2]))
def xN0 (l1 l2 : Nat) (r1 r2 : List (List CV)) : Ans :=
  ansChks (endN l1 r1 r2 (sT1 r1) (sT2 r1 r2) (sT1 r1)) [okA l1 r1, okA l2 r2, (fillP (r2.take 8)).isEmpty, okA l1 r1, okA l2 r2, (fillP (r2.take 8)).isEmpty, okA l1 r1, okA l2 r2, (fillP (r2.take 8)).isEmpty,
    smN 320 (sT1 r1) (sT2 r1 r2), smN 320 (sT1 r1) (sT2 r1 r2), smN 320 (sT1 r1) (sT2 r1 r2), smN 320 (sT1 r1) (sT2 r1 r2), smN 320 (sT2 r1 r2) (sT2 r1 r2)]
noncomputable def xNV (l1 l2 : Nat) (r1 r2 : List (List CV)) (rows : List (List CV)) (m : Nat) : Ans :=
  ansChks (endN l1 r1 r2 (sT1 r1) (sT2 r1 r2) (layAll rows (upto m) (sT1 r1))) [okA l1 r1, okA l2 r2, !(fillP (r2.take 8)).isEmpty, okA l1 r1, okA l2 r2, !(fillP (r2.take 8)).isEmpty, okA l1 r1, okA l2 r2, !(fillP (r2.take 8)).isEmpty,
    smN 320 (sT1 r1) (sT2 r1 r2), vB rows m, eqSt (sN0 l1 r1 r2 (allS (sT2 r1 r2)) (sT1 r1) (sT2 r1 r2) rows m) (sN0 l1 r1 r2 (allS (sT2 r1 r2)) (sT1 r1) (sT2 r1 r2) rows m), posM m,
    askC (upto m) m 320 320 320 320 m (sT1 r1) (sT2 r1 r2) rows, okK m (tk m) (upto m), rowsB 320 rows, smN 320 (sT1 r1) (sT2 r1 r2), vB rows m, smN 320 (sT1 r1) (sT2 r1 r2), vB rows m, smN 320 (sT2 r1 r2) (sT2 r1 r2)]
end Go.Proofs.Ytoekeplljjaehaa

/- Layer 26: what was synced stays: the inner loop, told. -/
set_option linter.unusedVariables false
set_option linter.unusedSimpArgs false
namespace Go.Proofs.Ytoekeplljjaehaa
open Go Sx
noncomputable def clB (p : Prop) : Bool := @decide p (Classical.propDecidable p)
theorem clB_of {p : Prop} (h : clB p = true) : p := by unfold clB at h; exact @of_decide_eq_true _ (Classical.propDecidable p) h
theorem clB_to {p : Prop} (h : p) : clB p = true := by unfold clB; exact @decide_eq_true _ (Classical.propDecidable p) h
def rng (i : Int) : Bool := decide (0 ≤ i ∧ i ≤ 320)
def anyB (r2 : List (List CV)) (i : Int) : Bool := (r2.take 8).any (hit i)
noncomputable def eInL (l2 : Nat) (r1 r2 : List (List CV)) (ks : List Int) (w v k t : List UInt8) : Nat → PState → LAns := fun K st =>
  match (st.slots[12]?).join with
  | some (AV.int IntKind.i64 i) => .chk (Nat.beq K 3) (.chk (eqSt st (sIn l2 r1 r2 ks w v k t i false 0)) (.chk (rng i) (.chk (okA l2 r2) (.out (.exit 2) (sInX l2 r1 r2 ks w v k t i (anyB r2 i))))))
  | _ => .fail
theorem eInL_ok (l2 : Nat) (r1 r2 : List (List CV)) (ks : List Int) (w v k t : List UInt8) (K : Nat) (st : PState) : LAnsOK Try.prog loopS2 K st (eInL l2 r1 r2 ks w v k t K st) := by
  unfold eInL
  split
  · refine ⟨fun g1 => ⟨fun g2 => ⟨fun g3 => ⟨fun g4 => ?_, fun _ => trivial⟩, fun _ => trivial⟩, fun _ => trivial⟩, fun _ => trivial⟩
    obtain rfl := beqT.1 g1
    obtain rfl := eqSt_of g2
    obtain ⟨h1, h2⟩ := okA_of g4
    have := loopIn (r1 := r1) (ks := ks) (w := w) (v := v) (k := k) (t := t) (of_decide_eq_true g3) h1 h2 false 0 (Nat.zero_le _)
    rw [List.drop_zero, Bool.false_or] at this
    exact this
  · trivial
end Go.Proofs.Ytoekeplljjaehaa

/- Layer 26: what was synced stays: the outer loop. -/
set_option linter.unusedVariables false
set_option linter.unusedSimpArgs false
namespace Go.Proofs.Ytoekeplljjaehaa
open Go Sx
noncomputable def lvI (l2 : Nat) (r1 r2 : List (List CV)) (ks : List Int) (w v k t : List UInt8) : Lv := { keep := fun i => match i with | 13 => some [1, 7, 8, 9, 11, 12, 13, 14] | _ => none, ent := fun i => match i with | 13 => some (eInL l2 r1 r2 ks w v k t) | _ => none }
def sOX (r1 r2 : List (List CV)) (ks : List Int) (k t : List UInt8) : PState := ⟨none :: none :: none :: none :: none :: none :: none :: some (.bool true) :: some (.ptr 3 0) :: List.replicate 89 none, meS r1 r2 ks k t⟩
def sOF (r1 r2 : List (List CV)) (ks : List Int) (k t : List UInt8) : PState := ⟨none :: none :: none :: none :: none :: none :: some (.bool false) :: some (.bool true) :: some (.ptr 3 0) :: List.replicate 89 none, meS r1 r2 ks k t⟩
def ixS (i : Int) (s : List UInt8) : Bool := decide (0 ≤ i ∧ i.toNat < s.length)
theorem rOut (l2 : Nat) (r1 r2 : List (List CV)) (ks : List Int) (w v k t : List UInt8) (i : Int) : code (ent Try.prog tPk nolv 64 1 20) Try.prog (lvI l2 r1 r2 ks w v k t) 3 64 1 loopS1 (sOut l2 r1 r2 ks w v k t i) (endK 3 64 (fun n => hasN [1, 7, 8, 9, 11, 12] n) (fun n => hasN [6, 7, 8] n))
  = bcond (decide (i < 320)) (chks (bcond (!anyB r2 i) (chks (bcond (byteAt v i.toNat != byteAt w i.toNat) (some (.ret, sOF r1 r2 ks k t)) (some (.normal, sOut l2 r1 r2 ks w v k t (iN i)))) [ixS i v, ixS i w]) (some (.normal, sOut l2 r1 r2 ks w v k t (iN i))))
      [eqSt (sIn l2 r1 r2 ks w v k t i false 0) (sIn l2 r1 r2 ks w v k t i false 0), rng i, okA l2 r2]) (some (.exit 0, sOX r1 r2 ks k t)) := by kernel_rfl
theorem loopS1_in : loopBodies loopS1 = [loopS2] := by kernel_rfl
theorem lvI_ok (l2 : Nat) (r1 r2 : List (List CV)) (ks : List Int) (w v k t : List UInt8) (K : Nat) : LoopsOK Try.prog (lvI l2 r1 r2 ks w v k t) K loopS1 := by
  intro x hx id e hid he st
  rw [loopS1_in] at hx
  have hx' := List.mem_singleton.1 hx
  have h2 : id = 13 := by
    have h3 : headReg loopS2 = some 13 := by kernel_rfl
    rw [hx', h3] at hid; exact (Option.some.inj hid).symm
  subst h2
  have he' : eInL l2 r1 r2 ks w v k t = e := Option.some.inj he
  subst he'
  rw [hx']
  exact eInL_ok l2 r1 r2 ks w v k t K st
/-- Where nothing was written, nothing has changed. -/
def NoLoss (r2 : List (List CV)) (w v : List UInt8) : Prop := v.length = 320 ∧ w.length = 320 ∧ ∀ i : Nat, i < 320 → anyB r2 i = false → byteAt v i = byteAt w i
theorem loopOut {l2 : Nat} {r1 r2 : List (List CV)} {ks : List Int} {w v k t : List UInt8} (ho : okA l2 r2 = true) (hn : NoLoss r2 w v) :
    Tri Try.prog (.loop loopS1) (sOut l2 r1 r2 ks w v k t 0).toA (.exit 0) (sOX r1 r2 ks k t).toA 3 := by
  refine loop_rounds (ent_sound (T := tPk) tPk_ok host nolv_ok (NF := 64) (m := 1) 20) (NF := 64) (m := 1) (lvI_ok l2 r1 r2 ks w v k t 3) (fun n => hasN [1, 7, 8, 9, 11, 12] n) (fun n => hasN [6, 7, 8] n) (ι := { j : Nat // j ≤ 320 })
    (fun j => sOut l2 r1 r2 ks w v k t (j.1 : Int)) (fun j => 320 - j.1) (fun _ => (.exit 0, sOX r1 r2 ks k t)) ?_ (fun _ => by simp) ⟨0, Nat.zero_le _⟩
  rintro ⟨j, hj⟩
  obtain ⟨h1, h2, h3⟩ := hn
  by_cases h : j < 320
  · refine .inl ⟨⟨j + 1, h⟩, by simp only; omega, rfl, ?_⟩
    refine (rOut l2 r1 r2 ks w v k t j).trans ?_
    have c1 : ixS (j : Int) v = true := decide_eq_true (by simp only [Int.toNat_natCast]; omega)
    have c2 : ixS (j : Int) w = true := decide_eq_true (by simp only [Int.toNat_natCast]; omega)
    rw [bcT (b := decide _) (decide_eq_true (by omega)), chks_true (bs := [_, _, _]) (by
      intro c hc
      simp only [List.mem_cons, List.not_mem_nil, or_false] at hc
      rcases hc with rfl | rfl | rfl
      · exact eqSt_refl _
      · exact decide_eq_true (by omega)
      · exact ho), chks_true (bs := [_, _]) (by
      intro c hc
      simp only [List.mem_cons, List.not_mem_nil, or_false] at hc
      rcases hc with rfl | rfl
      · exact c1
      · exact c2), iN_nat (by omega)]
    cases ha : anyB r2 (j : Int) with
    | true => rfl
    | false =>
      rw [bcT (b := !false) rfl, Int.toNat_natCast, bcF (by rw [h3 j h ha]; simp)]
  · refine .inr ?_
    refine (rOut l2 r1 r2 ks w v k t j).trans ?_
    rw [bcF (b := decide _) (decide_eq_false (by omega))]
noncomputable def eOuL (l2 : Nat) (r1 r2 : List (List CV)) (ks : List Int) (w v k t : List UInt8) : Nat → PState → LAns := fun K st =>
  .chk (Nat.beq K 3) (.chk (eqSt st (sOut l2 r1 r2 ks w v k t 0)) (.chk (okA l2 r2) (.chk (clB (NoLoss r2 w v)) (.out (.exit 0) (sOX r1 r2 ks k t)))))
theorem eOuL_ok (l2 : Nat) (r1 r2 : List (List CV)) (ks : List Int) (w v k t : List UInt8) (K : Nat) (st : PState) : LAnsOK Try.prog loopS1 K st (eOuL l2 r1 r2 ks w v k t K st) := by
  unfold eOuL
  refine ⟨fun g1 => ⟨fun g2 => ⟨fun g3 => ⟨fun g4 => ?_, fun _ => trivial⟩, fun _ => trivial⟩, fun _ => trivial⟩, fun _ => trivial⟩
  obtain rfl := beqT.1 g1
  obtain rfl := eqSt_of g2
  exact loopOut g3 (clB_of g4)
noncomputable def lvSy (l2 : Nat) (r1 r2 : List (List CV)) (ks : List Int) (w v k t : List UInt8) : FuncId → Lv := fun f => match f with
  | 4 => { keep := fun i => match i with | 9 => some [1, 7, 8, 9, 11, 12] | 13 => some [1, 7, 8, 9, 11, 12, 13, 14] | _ => none, ent := fun i => match i with | 9 => some (eOuL l2 r1 r2 ks w v k t) | 13 => some (eInL l2 r1 r2 ks w v k t) | _ => none }
  | _ => {}
theorem lvSy_ok (l2 : Nat) (r1 r2 : List (List CV)) (ks : List Int) (w v k t : List UInt8) : LvOK Try.prog (lvSy l2 r1 r2 ks w v k t) := by
  intro f fn body hf hb K x hx id e hid he st
  by_cases h : f = 4
  · subst h
    obtain rfl : fn = Try.f4 := (Option.some.inj (Try.func4.symm.trans hf)).symm
    have hbody : body = bodyOf Try.f4 := by unfold bodyOf; rw [hb]; rfl
    subst hbody
    have h1 : loopBodies (bodyOf Try.f4) = [loopS1, loopS2] := by kernel_rfl
    rw [h1] at hx
    rcases List.mem_cons.1 hx with hx' | hx'
    · have h2 : id = 9 := by
        have h3 : headReg loopS1 = some 9 := by kernel_rfl
        rw [hx', h3] at hid; exact (Option.some.inj hid).symm
      subst h2
      have he' : eOuL l2 r1 r2 ks w v k t = e := Option.some.inj he
      subst he'
      rw [hx']
      exact eOuL_ok l2 r1 r2 ks w v k t K st
    · have hx' := List.mem_singleton.1 hx'
      have h2 : id = 13 := by
        have h3 : headReg loopS2 = some 13 := by kernel_rfl
        rw [hx', h3] at hid; exact (Option.some.inj hid).symm
      subst h2
      have he' : eInL l2 r1 r2 ks w v k t = e := Option.some.inj he
      subst he'
      rw [hx']
      exact eInL_ok l2 r1 r2 ks w v k t K st
  · exfalso
    have : (lvSy l2 r1 r2 ks w v k t f).ent id = none := by
      unfold lvSy
      split
      · exact absurd rfl h
      · rfl
    rw [this] at he; cases he
end Go.Proofs.Ytoekeplljjaehaa

/- Layer 26: what was synced stays: the law, evaluated. -/
set_option linter.unusedVariables false
set_option linter.unusedSimpArgs false
namespace Go.Proofs.Ytoekeplljjaehaa
open Go Sx
def tSd (e1 e2 : Ent) : Tab := [(21, eCrashV), (13, eReadI), (20, e1), (22, e2), (23, ePick), (10, eTrue)]
theorem tSd_ok {e1 e2 : Ent} (h1 : EntOK Try.prog 20 e1) (h2 : EntOK Try.prog 22 e2) : TabOK Try.prog (tSd e1 e2) := .cons eCrashV_ok (.cons eReadI_ok (.cons h1 (.cons h2 (.cons ePick_ok (.cons awake_ok .nil)))))
def pS (r1 r2 : List (List CV)) (ks : List Int) : List PObj := [fr r1, fr r2, .flatI false ks]
noncomputable def endS (l2 : Nat) (r1 r2 : List (List CV)) (ks : List Int) (k' : List UInt8) : Ans :=
  .chk (smN 320 k' k') (.br (((allS k').length : Int) != 320) (.ret (.bool false) (pS r1 r2 ks)) (.br (((allS (sT1 r1)).length : Int) != 320) (.ret (.bool false) (pS r1 r2 ks))
    (ansChks (.ret (.bool true) (pS r1 r2 ks)) [eqSt (sOut l2 r1 r2 ks (allS (sT1 r1)) (allS k') k' k' 0) (sOut l2 r1 r2 ks (allS (sT1 r1)) (allS k') k' k' 0), okA l2 r2, clB (NoLoss r2 (allS (sT1 r1)) (allS k'))])))
noncomputable def xS0 (l1 l2 : Nat) (r1 r2 : List (List CV)) (ks : List Int) : Ans :=
  ansChks (endS l2 r1 r2 ks (sT1 r1)) [okA l1 r1, okA l2 r2, (fillP (r2.take 8)).isEmpty, okA l1 r1, smN 320 (sT1 r1) (sT1 r1), smN 320 (sT1 r1) (sT2 r1 r2)]
noncomputable def xSE (l1 l2 lk : Nat) (r1 r2 : List (List CV)) (ks : List Int) (rows : List (List CV)) (m : Nat) : Ans :=
  ansChks (endS l2 r1 r2 ks (sT1 r1)) [okA l1 r1, okA l2 r2, !(fillP (r2.take 8)).isEmpty, okA l1 r1, smN 320 (sT1 r1) (sT1 r1), askKp ks lk m, (keepS m ks).isEmpty, smN 320 (sT1 r1) (sT2 r1 r2), vB rows m]
noncomputable def xSV (l1 l2 lk : Nat) (r1 r2 : List (List CV)) (ks : List Int) (rows : List (List CV)) (m : Nat) : Ans :=
  ansChks (endS l2 r1 r2 ks (layAll rows (keepS m ks) (sT1 r1))) [okA l1 r1, okA l2 r2, !(fillP (r2.take 8)).isEmpty, okA l1 r1, smN 320 (sT1 r1) (sT1 r1), askKp ks lk m, !(keepS m ks).isEmpty, askC (keepS m ks) (keepS m ks).length 320 320 320 320 m (sT1 r1) (sT2 r1 r2) rows, okK m (tk m) (keepS m ks), rowsB 320 rows]
end Go.Proofs.Ytoekeplljjaehaa
