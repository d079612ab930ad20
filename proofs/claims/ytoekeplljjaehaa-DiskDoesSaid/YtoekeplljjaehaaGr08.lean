/- Layer 26: a crash, as an entry. -/
import Derived.Test.YtoekeplljjaehaaGr07
set_option linter.unusedVariables false
set_option linter.unusedSimpArgs false
namespace Go.Proofs.Ytoekeplljjaehaa
open Go Sx
theorem mkB_m {m : Nat} (h : m ≤ 1099511627776) : mkB m = true := decide_eq_true (by omega)
def litW (x y q x3 y3 x4 y4 v d c1 c2 c3 ty : Nat) (sh : List CK) : Bool := Nat.beq x 0 && (Nat.beq y 0 && (Nat.beq q 1 && litK x3 y3 x4 y4 v d c1 c2 c3 ty sh))
theorem litW_eq {x y q x3 y3 x4 y4 v d c1 c2 c3 ty : Nat} {sh : List CK} (h : litW x y q x3 y3 x4 y4 v d c1 c2 c3 ty sh = true) : x = 0 ∧ y = 0 ∧ q = 1 ∧ litK x3 y3 x4 y4 v d c1 c2 c3 ty sh = true := by
  unfold litW at h
  simpa only [Bool.and_eq_true, beqT] using h
/-- What a crash asks: the numbers, and the pieces. -/
def askC (l : List Int) (len n n1 n2 n3 m : Nat) (k t : List UInt8) (rows : List (List CV)) : Bool := decide (l.length = len ∧ len ≤ 1099511627776 ∧ n1 = n ∧ n2 = n ∧ n3 = n ∧ rows.length = m ∧ m ≤ 1099511627776 ∧ k.length = n ∧ t.length = n ∧ n ≤ 1099511627776)
def eCrashV : Ent := fun args pre => match args, pre with
  | [.nilptr, .nilslice], [] => .ret (.int .i64 1) []
  | [.ptr x y, .nilslice], [.raw (.cells [.slice x1' y1 n n1, .slice x2' y2 n2 n3, .nilslice] d), .arrB k d1, .arrB t d2] => .chk (litD x y x1' y1 x2' y2 d d1 d2 n n1 n2 n3) (.chk (smN n k t) (.ret (.int .i64 0) (dk0 n k k)))
  | [.ptr x y, .nilslice], [.raw (.cells [.slice x1' y1 n n1, .slice x2' y2 n2 n3, .vec v m] d), .arrB k d1, .arrB t d2, .vecR sh rows ty] => .chk (litD x y x1' y1 x2' y2 d d1 d2 n n1 n2 n3) (.chk (litV v ty sh) (.chk (smN n k t) (.chk (decide (rows.length = m ∧ m ≤ 1099511627776)) (.ret (.int .i64 0) (dkv n k k rows)))))
  | [.ptr x y, .vec q len], [.raw (.cells [.slice x3 y3 n n1, .slice x4 y4 n2 n3, .vec v m] d), .vecI .i64 l c1, .arrB k c2, .arrB t c3, .vecR sh rows ty] =>
    .chk (litW x y q x3 y3 x4 y4 v d c1 c2 c3 ty sh) (.chk (askC l len n n1 n2 n3 m k t rows) (.chk (okK m (tk m) l) (.chk (rowsB n rows) (.ret (.int .i64 0) (postK l (layAll rows l k) (layAll rows l k) n rows)))))
  | _, _ => .fail
theorem cCn : Comes [] nolv 21 [.nilptr, .nilslice] [] (.ret (.int .i64 1) []) := by unfold Comes; kernel_rfl
theorem eCrashV_ok : EntOK Try.prog 21 eCrashV := fun args pre => by
  unfold eCrashV
  split
  · exact ans_comes .nil cCn
  · refine ⟨fun g1 => ⟨fun g2 => ?_, fun _ => trivial⟩, fun _ => trivial⟩
    obtain ⟨rfl, rfl, rfl, rfl, rfl, rfl, rfl, rfl, rfl, rfl, rfl, rfl⟩ := litD_eq g1
    obtain ⟨h1, h2, h3⟩ := smN_of g2
    refine of_run (ans_comes tNu_ok (cC0 _ _ _)) fun r hr => ?_
    have hs : smN _ _ _ = true := decide_eq_true ⟨h2, h1, h3⟩
    rw [← hr]; unfold xC0; rw [cpB_eq hs]; simp only [Ans.run, Ans.chk]; rw [bcT (cpC_eq hs)]
  · refine ⟨fun g1 => ⟨fun g2 => ⟨fun g3 => ⟨fun g4 => ?_, fun _ => trivial⟩, fun _ => trivial⟩, fun _ => trivial⟩, fun _ => trivial⟩
    obtain ⟨rfl, rfl, rfl, rfl, rfl, rfl, rfl, rfl, rfl, rfl, rfl, rfl⟩ := litD_eq g1
    obtain ⟨rfl, rfl, rfl⟩ := litV_eq g2
    obtain ⟨h1, h2, h3⟩ := smN_of g3
    refine of_run (ans_comes tNu_ok (cC1 _ _ _ _ _)) fun r hr => ?_
    have hs : smN _ _ _ = true := decide_eq_true ⟨h2, h1, h3⟩
    have g4 := of_decide_eq_true g4
    rw [← hr]; unfold xC1; rw [cpB_eq hs]; simp only [Ans.run, Ans.chk]; rw [bcT (mkB_m g4.2), bcT (cpC_eq hs)]
  · refine ⟨fun g1 => ⟨fun g2 => ⟨fun g3 => ⟨fun g4 => ?_, fun _ => trivial⟩, fun _ => trivial⟩, fun _ => trivial⟩, fun _ => trivial⟩
    obtain ⟨rfl, rfl, rfl, g1⟩ := litW_eq g1
    obtain ⟨rfl, rfl, rfl, rfl, rfl, rfl, rfl, rfl, rfl, rfl, rfl⟩ := litK_eq g1
    obtain ⟨h1, h2, rfl, rfl, rfl, h3, h4, h5, h6, h7⟩ := of_decide_eq_true g2
    subst h1
    subst h3
    refine of_run (ans_comes tNu_ok (cCr _ _ _ _ _ _ _) lvC_ok) fun r hr => ?_
    have hin : inK _ _ = true := List.all_eq_true.2 fun x hx => okK_in g3 x hx
    have hlen := layAll_len (k := _) g4 (okK_in g3) h5
    have hs : smN _ _ _ = true := decide_eq_true ⟨h6, hlen, h7⟩
    rw [← hr]; unfold xCr; rw [cpB_eq hs]; simp only [Ans.run, Ans.chk]
    rw [bcT (mkB_m h4), bcT (b := c1K _ _ _ _ _ _ _ _ _ _ _ _) (decide_eq_true ⟨rfl, rfl, rfl, h2, rfl, rfl, rfl, rfl, rfl, by unfold tk; simp⟩), bcT g3, bcT (b := c2K _ _ _ _ _ _ _ _ _ _ _) (decide_eq_true ⟨rfl, rfl, rfl, h2, rfl, rfl, rfl, rfl, h5, h7⟩), bcT g4, bcT hin, bcT (cpC_eq hs)]
  · trivial
end Go.Proofs.Ytoekeplljjaehaa

/- Layer 26: which pieces are kept, out of raw numbers. -/
set_option linter.unusedVariables false
set_option linter.unusedSimpArgs false
namespace Go.Proofs.Ytoekeplljjaehaa
open Go Sx
def keepS (m : Nat) (l : List Int) : List Int := keepL m (tk m) (l.take 20)
def c3K (i mi : Int) (l : List Int) (len a b : Nat) (tk' : List Bool) : Bool := decide (i = 0 ∧ l.length = len ∧ mi = (a : Int) ∧ b = a ∧ tk' = tk a ∧ 0 < a ∧ a ≤ 1099511627776)
def eKL : Nat → PState → LAns := fun K st => match K, st with
  | 1, ⟨some (.dsl z len) :: some (.int .i64 mi) :: none :: none :: none :: some .nilslice :: some (.slice x y a b) :: some (.int .i64 i) :: rs, some (.flatI false l) :: some (.arrT tk' c) :: rm⟩ =>
    .chk (Nat.beq z 0 && (Nat.beq x 1 && (Nat.beq y 0 && (Nat.beq c 4 && (noV 48 rs && noB 64 rm))))) (.chk (c3K i mi l len a b tk') (.chk (l.all i64B) (.br (keepS a l).isEmpty (.out (.exit 0) (sKNx l)) (.out (.exit 0) (sKVx l (keepS a l) (keepS a l).length)))))
  | _, _ => .fail
theorem eKL_ok (K : Nat) (st : PState) : LAnsOK Try.prog loopK1 K st (eKL K st) := by
  unfold eKL
  split
  · rename_i z len mi x y a b i rs l tk' c rm
    refine ⟨fun g1 => ⟨fun g2 => ⟨fun g3 => ?_, fun _ => trivial⟩, fun _ => trivial⟩, fun _ => trivial⟩
    simp only [Bool.and_eq_true, beqT] at g1
    obtain ⟨rfl, rfl, rfl, rfl, q1, q2⟩ := g1
    rw [noV_eq _ _ q1, noB_eq _ _ q2]
    obtain ⟨rfl, h1, rfl, rfl, rfl, h2, h3⟩ := of_decide_eq_true g2
    have hl := loopK h1 h2 h3 (fun x hx => List.all_eq_true.1 g3 x hx) 0 (tk b) [] ⟨by simp, by unfold tk; simp, by simp⟩
    rw [List.drop_zero, List.nil_append] at hl
    refine ⟨fun e => ?_, fun e => ?_⟩
    · have e := List.isEmpty_iff.1 e
      unfold keepS at e
      rw [e] at hl; exact hl
    · have hne : keepL b (tk b) (l.take 20) ≠ [] := fun e2 => by unfold keepS at e; rw [e2] at e; cases e
      have hx : keepXx l (keepL b (tk b) (l.take 20)) = sKVx l (keepS b l) (keepS b l).length := by
        unfold keepS
        cases hk : keepL b (tk b) (l.take 20) with
        | nil => exact absurd hk hne
        | cons c out => rfl
      rw [hx] at hl; exact hl
  · trivial
def lvK : FuncId → Lv := fun f => match f with
  | 22 => { keep := fun _ => some [0, 1, 5, 6, 7], ent := fun i => match i with | 4 => some eKL | _ => none }
  | _ => {}
theorem lvK_ok : LvOK Try.prog lvK := by
  intro f fn body hf hb K x hx id e hid he t
  by_cases h : f = 22
  · subst h
    obtain rfl : fn = Try.f22 := (Option.some.inj (Try.func22.symm.trans hf)).symm
    have hbody : body = bodyOf Try.f22 := by unfold bodyOf; rw [hb]; rfl
    subst hbody
    have h1 : loopBodies (bodyOf Try.f22) = [loopK1] := by kernel_rfl
    rw [h1] at hx
    have hx' := List.mem_singleton.1 hx
    have h2 : id = 4 := by
      have h3 : headReg loopK1 = some 4 := by kernel_rfl
      rw [hx', h3] at hid; exact (Option.some.inj hid).symm
    subst h2
    have he' : eKL = e := Option.some.inj he
    subst he'
    rw [hx']
    exact eKL_ok K t
  · exfalso
    have : (lvK f).ent id = none := by
      unfold lvK
      split
      · exact absurd rfl h
      · rfl
    rw [this] at he; cases he
def xKp (b : Bool) (l : List Int) (len m : Nat) : Ans :=
  .chk (mkB m) (.chk (c3K 0 m l len m m (tk m)) (.chk (l.all i64B) (.br (keepS m l).isEmpty (.ret .nilslice [.flatI false l]) (.ret (.vec 1 (keepS m l).length) [.flatI false l, .vecI .i64 (keepS m l) 3]))))
theorem cKp (b : Bool) (l : List Int) (len m : Nat) : Comes tPk lvK 22 [.dsl 0 len, .int .i64 m] [.flatI b l] (xKp b l len m) := by unfold Comes; kernel_rfl
theorem cK0 (b : Bool) (l : List Int) (len : Nat) : Comes tPk nolv 22 [.dsl 0 len, .int .i64 0] [.flatI b l] (.br (decide ((0 : Int) < (len : Int))) (.ret .nilslice [.flatI false l]) (.ret .nilslice [.flatI false l])) := by unfold Comes; kernel_rfl
def askKp (l : List Int) (len : Nat) (mi : Int) : Bool := decide (l.length = len ∧ 0 < mi ∧ mi ≤ 1099511627776) && l.all i64B
/-- Of nothing; of some, where none is kept; where some are. -/
def eKp0 : Ent := fun args pre => match args, pre with
  | [.dsl a len, .int .i64 mi], [.flatI b l] => .chk (Nat.beq a 0) (.chk (decide (mi = 0)) (.ret .nilslice [.flatI false l]))
  | _, _ => .fail
def eKpE : Ent := fun args pre => match args, pre with
  | [.dsl a len, .int .i64 mi], [.flatI b l] => .chk (Nat.beq a 0) (.chk (askKp l len mi) (.chk (keepS mi.toNat l).isEmpty (.ret .nilslice [.flatI false l])))
  | _, _ => .fail
def eKpV : Ent := fun args pre => match args, pre with
  | [.dsl a len, .int .i64 mi], [.flatI b l] => .chk (Nat.beq a 0) (.chk (askKp l len mi) (.chk (!(keepS mi.toNat l).isEmpty) (.ret (.vec 1 (keepS mi.toNat l).length) [.flatI false l, .vecI .i64 (keepS mi.toNat l) 3])))
  | _, _ => .fail
theorem eKp0_ok : EntOK Try.prog 22 eKp0 := fun args pre => by
  unfold eKp0
  split
  · refine ⟨fun g1 => ⟨fun g2 => ?_, fun _ => trivial⟩, fun _ => trivial⟩
    obtain rfl := beqT.1 g1
    have g2 := of_decide_eq_true g2
    subst g2
    refine of_run (ans_comes tPk_ok (cK0 _ _ _)) fun r hr => ?_
    rw [← hr]
    simp only [Ans.run]
    cases decide ((0 : Int) < _) <;> rfl
  · trivial
theorem askKp_of {l : List Int} {len : Nat} {mi : Int} (h : askKp l len mi = true) : ∃ m : Nat, mi = (m : Int) ∧ l.length = len ∧ 0 < m ∧ m ≤ 1099511627776 ∧ l.all i64B = true := by
  unfold askKp at h
  simp only [Bool.and_eq_true] at h
  obtain ⟨h1, h2, h3⟩ := of_decide_eq_true h.1
  obtain ⟨m, rfl⟩ := Int.eq_ofNat_of_zero_le (show 0 ≤ mi by omega)
  exact ⟨m, rfl, h1, by omega, by omega, h.2⟩
theorem eKpE_ok : EntOK Try.prog 22 eKpE := fun args pre => by
  unfold eKpE
  split
  · refine ⟨fun g1 => ⟨fun g2 => ⟨fun g3 => ?_, fun _ => trivial⟩, fun _ => trivial⟩, fun _ => trivial⟩
    obtain rfl := beqT.1 g1
    obtain ⟨m, rfl, h1, h2, h3, h4⟩ := askKp_of g2
    rw [Int.toNat_natCast] at g3
    refine of_run (ans_comes tPk_ok (cKp _ _ _ _) lvK_ok) fun r hr => ?_
    rw [← hr]; unfold xKp; simp only [Ans.run, Ans.chk]
    rw [bcT (mkB_m h3), bcT (b := c3K _ _ _ _ _ _ _) (decide_eq_true ⟨rfl, h1, rfl, rfl, rfl, h2, h3⟩), bcT h4, bcT g3]
  · trivial
theorem eKpV_ok : EntOK Try.prog 22 eKpV := fun args pre => by
  unfold eKpV
  split
  · refine ⟨fun g1 => ⟨fun g2 => ⟨fun g3 => ?_, fun _ => trivial⟩, fun _ => trivial⟩, fun _ => trivial⟩
    obtain rfl := beqT.1 g1
    obtain ⟨m, rfl, h1, h2, h3, h4⟩ := askKp_of g2
    simp only [Int.toNat_natCast] at g3 ⊢
    refine of_run (ans_comes tPk_ok (cKp _ _ _ _) lvK_ok) fun r hr => ?_
    rw [← hr]; unfold xKp; simp only [Ans.run, Ans.chk]
    rw [bcT (mkB_m h3), bcT (b := c3K _ _ _ _ _ _ _) (decide_eq_true ⟨rfl, h1, rfl, rfl, rfl, h2, h3⟩), bcT h4, bcF ((Bool.not_eq_true' _).mp g3)]
  · trivial
end Go.Proofs.Ytoekeplljjaehaa

/- Layer 26: the document's own pieces. -/
set_option linter.unusedVariables false
set_option linter.unusedSimpArgs false
namespace Go.Proofs.Ytoekeplljjaehaa
open Go Sx
abbrev qT : Nat := 58
noncomputable abbrev loopP1 : Code := (loopBodies (bodyOf Try.f26)).headD .skip
def slP (p : AV) (a : Int) (s : List UInt8) : List (Option AV) := some (.int .i64 a) :: some (.str s) :: none :: none :: none :: some p :: List.replicate 25 none
def slPx (p : AV) : List (Option AV) := none :: none :: none :: none :: none :: some p :: List.replicate 25 none
def sPN (a : Int) (s : List UInt8) : PState := ⟨slP .nilslice a s, List.replicate 64 none⟩
def sPV (rows : List (List CV)) (m : Nat) (a : Int) (s : List UInt8) : PState := ⟨slP (.vec 0 m) a s, some (.vecR shP rows qT) :: List.replicate 64 none⟩
def sPNx : PState := ⟨slPx .nilslice, List.replicate 64 none⟩
def sPVx (rows : List (List CV)) (m : Nat) : PState := ⟨slPx (.vec 0 m), some (.vecR shP rows qT) :: List.replicate 64 none⟩
def slM (a : Int) (s : List UInt8) : Bool := decide (0 ≤ mI a s ∧ (mI a s).toNat ≤ s.length)
theorem rP0 (a : Int) (s : List UInt8) : code (ent Try.prog [] nolv 64 1 20) Try.prog {} 0 64 1 loopP1 (sPN a s) (endK 0 64 (fun n => hasN [0, 1, 5] n) (fun n => hasN [5] n))
  = bcond (decide ((s.length : Int) > 0)) (chks (some (.normal, sPV [rJ a s] 1 (aJ a s) (sJ a s))) [slM a s, slM a s]) (some (.exit 0, sPNx)) := by kernel_rfl
theorem rP1 (rows : List (List CV)) (m : Nat) (a : Int) (s : List UInt8) : code (ent Try.prog [] nolv 64 1 20) Try.prog {} 0 64 1 loopP1 (sPV rows m a s) (endK 0 64 (fun n => hasN [0, 1, 5] n) (fun n => hasN [5] n))
  = bcond (decide ((s.length : Int) > 0)) (chks (some (.normal, sPV (rows ++ [rJ a s]) (m + 1) (aJ a s) (sJ a s))) [slM a s, decide (rows.length * 2 = m * 2) && roomB (m + 1) 24, slM a s]) (some (.exit 0, sPVx rows m)) := by kernel_rfl
def sPX (P : List (Nat × List UInt8)) (a : Int) (s : List UInt8) : PState := match P with
  | [] => sPN a s
  | p :: ps => sPV ((p :: ps).map rowOf) (p :: ps).length a s
def sPXx (P : List (Nat × List UInt8)) : PState := match P with
  | [] => sPNx
  | p :: ps => sPVx ((p :: ps).map rowOf) (p :: ps).length
theorem loopP (a : Nat) (s : List UInt8) (P : List (Nat × List UInt8)) (h : a + s.length ≤ 320 ∧ P.length + s.length ≤ 1000) :
    Tri Try.prog (.loop loopP1) (sPX P a s).toA (.exit 0) (sPXx (P ++ parts a s)).toA 0 := by
  refine loop_rounds (ent_sound (T := []) .nil host nolv_ok (NF := 64) (m := 1) 20) (NF := 64) (m := 1) loops_none (fun n => hasN [0, 1, 5] n) (fun n => hasN [5] n) (ι := { w : Nat × List UInt8 × List (Nat × List UInt8) // w.1 + w.2.1.length ≤ 320 ∧ w.2.2.length + w.2.1.length ≤ 1000 })
    (fun w => sPX w.1.2.2 (w.1.1 : Int) w.1.2.1) (fun w => w.1.2.1.length) (fun w => (.exit 0, sPXx (w.1.2.2 ++ parts w.1.1 w.1.2.1))) ?_ (fun _ => by simp) ⟨(a, s, P), h⟩
  rintro ⟨⟨a, s, P⟩, h1, h2⟩
  simp only at h1 h2
  by_cases hs : 0 < s.length
  · left
    have h3 := hd_le a s
    have h4 := hd_pos (a := a) hs
    have hm := mI_nat (s := s) (show a < 4611686018427387904 by omega)
    have hp := pI_nat (s := s) (show a < 4611686018427387904 by omega)
    have q1 : aJ (a : Int) s = ((a + hd a s : Nat) : Int) := by unfold aJ; rw [hm, i64_in (by omega) (by omega)]; omega
    have q2 : sJ (a : Int) s = s.drop (hd a s) := by
      unfold sJ; rw [hm, List.take_of_length_le]
      · rfl
      · rw [List.length_drop]; show s.length - hd a s ≤ _; exact Nat.le_refl _
    have q4 : rJ (a : Int) s = rowOf (a, s.take (hd a s)) := by unfold rJ rowOf; rw [hp]
    have q5 : slM (a : Int) s = true := decide_eq_true (by rw [hm]; exact ⟨by omega, h3⟩)
    refine ⟨⟨(a + hd a s, s.drop (hd a s), P ++ [(a, s.take (hd a s))]), by simp only [List.length_drop]; omega, by simp only [List.length_append, List.length_singleton, List.length_drop]; omega⟩, by simp only [List.length_drop]; omega, ?_, ?_⟩
    · simp only; rw [parts_cons hs, List.append_assoc]; rfl
    · cases P with
      | nil =>
        refine (rP0 a s).trans ?_
        rw [bcT (b := decide _) (decide_eq_true (by omega)), chks_true (bs := [_, _]) (by intro b hb; simp only [List.mem_cons, List.not_mem_nil, or_false, or_self] at hb; rw [hb]; exact q5), q1, q2, q4]; rfl
      | cons p ps =>
        refine (rP1 ((p :: ps).map rowOf) (p :: ps).length a s).trans ?_
        rw [bcT (b := decide _) (decide_eq_true (by omega)), chks_true (bs := [_, _, _]) (by
          intro b hb
          simp only [List.mem_cons, List.not_mem_nil, or_false] at hb
          rcases hb with rfl | rfl | rfl
          · exact q5
          · rw [decide_eq_true (by rw [List.length_map]), Bool.true_and]; exact decide_eq_true (by omega)
          · exact q5), q1, q2, q4]
        simp only [sPX, List.cons_append, List.map_cons, List.map_append, List.length_cons, List.length_append]; rfl
  · right
    have : s = [] := List.eq_nil_of_length_eq_zero (by omega)
    subst this
    simp only [parts_nil, List.append_nil]
    cases P with
    | nil => refine (rP0 a []).trans ?_; rw [bcF (b := decide _) (decide_eq_false (by simp))]; rfl
    | cons p ps => refine (rP1 ((p :: ps).map rowOf) (p :: ps).length a []).trans ?_; rw [bcF (b := decide _) (decide_eq_false (by simp))]; rfl
def eP1 : Nat → PState → LAns := fun K st => match K, st with
  | 0, ⟨some (.int .i64 a) :: some (.str s) :: none :: none :: none :: some .nilslice :: rs, rm⟩ =>
    .chk (noV 25 rs && noB 64 rm) (.chk (inD 320 a s.length) (.br (parts a.toNat s).isEmpty (.out (.exit 0) sPNx) (.out (.exit 0) (sPVx ((parts a.toNat s).map rowOf) (parts a.toNat s).length))))
  | _, _ => .fail
theorem eP1_ok (K : Nat) (st : PState) : LAnsOK Try.prog loopP1 K st (eP1 K st) := by
  unfold eP1
  split
  · rename_i a s rs rm
    refine ⟨fun g1 => ⟨fun g2 => ?_, fun _ => trivial⟩, fun _ => trivial⟩
    rw [Bool.and_eq_true] at g1
    rw [noV_eq _ _ g1.1, noB_eq _ _ g1.2]
    obtain ⟨h1, h2⟩ := of_decide_eq_true g2
    obtain ⟨a, rfl⟩ := Int.eq_ofNat_of_zero_le h1
    simp only [Int.ofNat_eq_natCast, Int.toNat_natCast] at h2 ⊢
    have hl := loopP a s [] ⟨h2, by simp; omega⟩
    rw [List.nil_append] at hl
    refine ⟨fun e => ?_, fun e => ?_⟩
    · rw [List.isEmpty_iff.1 e] at hl; exact hl
    · have hx : sPXx (parts a s) = sPVx ((parts a s).map rowOf) (parts a s).length := by
        cases hk : parts a s with
        | nil => rw [hk] at e; cases e
        | cons c out => rfl
      rw [hx] at hl; exact hl
  · trivial
def lvP : FuncId → Lv := fun f => match f with
  | 26 => { keep := fun _ => some [0, 1, 5], ent := fun i => match i with | 2 => some eP1 | _ => none }
  | _ => {}
theorem lvP_ok : LvOK Try.prog lvP := by
  intro f fn body hf hb K x hx id e hid he t
  by_cases h : f = 26
  · subst h
    obtain rfl : fn = Try.f26 := (Option.some.inj (Try.func26.symm.trans hf)).symm
    have hbody : body = bodyOf Try.f26 := by unfold bodyOf; rw [hb]; rfl
    subst hbody
    have h1 : loopBodies (bodyOf Try.f26) = [loopP1] := by kernel_rfl
    rw [h1] at hx
    have hx' := List.mem_singleton.1 hx
    have h2 : id = 2 := by
      have h3 : headReg loopP1 = some 2 := by kernel_rfl
      rw [hx', h3] at hid; exact (Option.some.inj hid).symm
    subst h2
    have he' : eP1 = e := Option.some.inj he
    subst he'
    rw [hx']
    exact eP1_ok K t
  · exfalso
    have : (lvP f).ent id = none := by
      unfold lvP
      split
      · exact absurd rfl h
      · rfl
    rw [this] at he; cases he
theorem cPa (a : Int) (s : List UInt8) : Comes [] lvP 26 [.int .i64 a, .str s] [] (.chk (inD 320 a s.length) (.br (parts a.toNat s).isEmpty (.ret .nilslice []) (.ret (.vec 0 (parts a.toNat s).length) [.vecR shP ((parts a.toNat s).map rowOf) qT]))) := by unfold Comes; kernel_rfl
/-- Of nothing; of some bytes. -/
def ePa0 : Ent := fun args pre => match args, pre with
  | [.int .i64 a, .str s], [] => .chk (inD 320 a s.length) (.chk (parts a.toNat s).isEmpty (.ret .nilslice []))
  | _, _ => .fail
def ePaV : Ent := fun args pre => match args, pre with
  | [.int .i64 a, .str s], [] => .chk (inD 320 a s.length) (.chk (!(parts a.toNat s).isEmpty) (.ret (.vec 0 (parts a.toNat s).length) [.vecR shP ((parts a.toNat s).map rowOf) qT]))
  | _, _ => .fail
theorem ePa0_ok : EntOK Try.prog 26 ePa0 := fun args pre => by
  unfold ePa0
  split
  · refine of_run (ans_comes .nil (cPa _ _) lvP_ok) fun r hr => ?_
    obtain ⟨c1, hr⟩ := chk_run hr
    obtain ⟨c2, hr⟩ := chk_run hr
    rw [← hr]; simp only [Ans.run, Ans.chk]; rw [bcT c1, bcT c2]
  · trivial
theorem ePaV_ok : EntOK Try.prog 26 ePaV := fun args pre => by
  unfold ePaV
  split
  · refine of_run (ans_comes .nil (cPa _ _) lvP_ok) fun r hr => ?_
    obtain ⟨c1, hr⟩ := chk_run hr
    obtain ⟨c2, hr⟩ := chk_run hr
    rw [← hr]; simp only [Ans.run, Ans.chk]; rw [bcT c1, bcF ((Bool.not_eq_true' _).mp c2)]
  · trivial
end Go.Proofs.Ytoekeplljjaehaa

/- Layer 26: all pieces are kept, or none: disks that are filled with some pending, or none; the law's loop. -/
set_option linter.unusedVariables false
set_option linter.unusedSimpArgs false
namespace Go.Proofs.Ytoekeplljjaehaa
open Go Sx
/-- Disks with nothing pending; with something. -/
def eFilN : Ent := fun args pre => match args, pre with
  | [.dsl a l1, .dsl b l2], [.raw (.flatR m1 sh1 r1), .raw (.flatR m2 sh2 r2)] => .chk (Nat.beq a 0 && (Nat.beq b 1 && (eqA sh1 && eqA sh2))) (.chk (okA l1 r1) (.chk (okA l2 r2) (.chk (fillP (r2.take 8)).isEmpty (.ret (.ptr 2 0) (fr r1 :: fr r2 :: dkA0 2 320 (sT1 r1) (sT2 r1 r2))))))
  | [.dsl a l1, .nilslice], [.raw (.flatR m1 sh1 r1)] => .chk (Nat.beq a 0 && eqA sh1) (rFill1 l1 r1)
  | _, _ => .fail
def eFilV : Ent := fun args pre => match args, pre with
  | [.dsl a l1, .dsl b l2], [.raw (.flatR m1 sh1 r1), .raw (.flatR m2 sh2 r2)] => .chk (Nat.beq a 0 && (Nat.beq b 1 && (eqA sh1 && eqA sh2))) (.chk (okA l1 r1) (.chk (okA l2 r2) (.chk (!(fillP (r2.take 8)).isEmpty) (.ret (.ptr 2 0) (fr r1 :: fr r2 :: dkA1 2 320 (sT1 r1) (sT2 r1 r2) ((fillP (r2.take 8)).map rowOf) (fillP (r2.take 8)).length)))))
  | [.dsl a l1, .nilslice], [.raw (.flatR m1 sh1 r1)] => .chk (Nat.beq a 0 && eqA sh1) (rFill1 l1 r1)
  | _, _ => .fail
theorem eFilN_ok : EntOK Try.prog 20 eFilN := fun args pre => by
  refine of_run (eFilled_ok args pre) fun r hr => ?_
  unfold eFilN at hr
  unfold eFilled
  split at hr
  · obtain ⟨c1, hr⟩ := chk_run hr
    obtain ⟨c2, hr⟩ := chk_run hr
    obtain ⟨c3, hr⟩ := chk_run hr
    obtain ⟨c4, hr⟩ := chk_run hr
    unfold rFill
    simp only [Ans.run, Ans.chk] at hr ⊢
    rw [bcT c1, bcT c2, bcT c3, bcT c4]; exact hr
  · exact hr
  · cases hr
theorem eFilV_ok : EntOK Try.prog 20 eFilV := fun args pre => by
  refine of_run (eFilled_ok args pre) fun r hr => ?_
  unfold eFilV at hr
  unfold eFilled
  split at hr
  · obtain ⟨c1, hr⟩ := chk_run hr
    obtain ⟨c2, hr⟩ := chk_run hr
    obtain ⟨c3, hr⟩ := chk_run hr
    obtain ⟨c4, hr⟩ := chk_run hr
    unfold rFill
    simp only [Ans.run, Ans.chk] at hr ⊢
    rw [bcT c1, bcT c2, bcT c3, bcF ((Bool.not_eq_true' _).mp c4)]; exact hr
  · exact hr
  · cases hr
def tAn (e : Ent) : Tab := [(21, eCrashV), (24, eSync), (13, eReadI), (20, e), (10, eTrue)]
theorem tAn_ok {e : Ent} (h : EntOK Try.prog 20 e) : TabOK Try.prog (tAn e) := .cons eCrashV_ok (.cons eSync_ok (.cons eReadI_ok (.cons h (.cons awake_ok .nil))))
end Go.Proofs.Ytoekeplljjaehaa

/- Layer 26: all pieces are kept: the law's loop. -/
set_option linter.unusedVariables false
set_option linter.unusedSimpArgs false
namespace Go.Proofs.Ytoekeplljjaehaa
open Go Sx
def cel (x y z n m : Nat) : Option PObj := some (.raw (.cells [.slice x 0 n n, .slice y 0 n n, .vec z m] dT))
def three (k t : List UInt8) (rows : List (List CV)) : List (Option PObj) := [some (.arrB k 5), some (.arrB t 5), some (.vecR shP rows pT), some (.arrB k 5), some (.arrB t 5), some (.vecR shP rows pT), some (.arrB k 5), some (.arrB t 5), some (.vecR shP rows pT)]
def slN (l1 : Nat) (w : List UInt8) (p : AV) (i : Option AV) : List (Option AV) := some (.dsl 0 l1) :: none :: none :: none :: none :: some (.bool true) :: some (.ptr 2 0) :: some (.ptr 3 0) :: some (.ptr 4 0) :: some (.str w) :: some p :: i :: List.replicate 72 none
def sN0 (l1 : Nat) (r1 r2 : List (List CV)) (w k t : List UInt8) (rows : List (List CV)) (m : Nat) : PState :=
  ⟨slN l1 w .nilslice (some (.int .i64 0)), some (fr r1) :: some (fr r2) :: cel 5 6 7 320 m :: cel 8 9 10 320 m :: cel 11 12 13 320 m :: three k t rows ++ List.replicate 64 none⟩
def memV (r1 r2 : List (List CV)) (k t : List UInt8) (rows : List (List CV)) (m : Nat) (l : List Int) : List (Option PObj) := some (fr r1) :: some (fr r2) :: cel 6 7 8 320 m :: cel 9 10 11 320 m :: cel 12 13 14 320 m :: some (.vecI .i64 l 3) :: three k t rows ++ List.replicate 64 none
def sNV (l1 : Nat) (r1 r2 : List (List CV)) (w k t : List UInt8) (rows : List (List CV)) (m : Nat) (i : Int) (len : Nat) (l : List Int) : PState := ⟨slN l1 w (.vec 5 len) (some (.int .i64 i)), memV r1 r2 k t rows m l⟩
def sNX (l1 : Nat) (r1 r2 : List (List CV)) (w k t : List UInt8) (rows : List (List CV)) (m : Nat) (len : Nat) (l : List Int) : PState := ⟨slN l1 w (.vec 5 len) none, memV r1 r2 k t rows m l⟩
noncomputable abbrev loopN1 : Code := (loopBodies (bodyOf Try.f5)).headD .skip
set_option maxRecDepth 100000
theorem rN0 (l1 : Nat) (r1 r2 : List (List CV)) (w k t : List UInt8) (rows : List (List CV)) (m : Nat) : code (ent Try.prog (tAn eFilV) nolv 64 1 20) Try.prog {} 2 64 1 loopN1 (sN0 l1 r1 r2 w k t rows m) (endK 2 64 (fun n => hasN [0, 5, 6, 7, 8, 9, 10, 11] n) (fun n => hasN [0, 5, 6, 7, 8, 9, 10] n))
  = bcond (decide ((0 : Int) < (m : Int))) (some (.normal, sNV l1 r1 r2 w k t rows m (iN 0) 1 [0])) (some (.exit 0, ⟨slN l1 w .nilslice none, (sN0 l1 r1 r2 w k t rows m).mem⟩)) := by kernel_rfl
theorem rNV (l1 : Nat) (r1 r2 : List (List CV)) (w k t : List UInt8) (rows : List (List CV)) (m : Nat) (i : Int) (len : Nat) (l : List Int) : code (ent Try.prog (tAn eFilV) nolv 64 1 20) Try.prog {} 2 64 1 loopN1 (sNV l1 r1 r2 w k t rows m i len l) (endK 2 64 (fun n => hasN [0, 5, 6, 7, 8, 9, 10, 11] n) (fun n => hasN [0, 5, 6, 7, 8, 9, 10] n))
  = bcond (decide (i < (m : Int))) (chks (some (.normal, sNV l1 r1 r2 w k t rows m (iN i) (len + 1) (l ++ [i]))) [decide (l.length = len * 1) && roomB (len + 1) 8]) (some (.exit 0, sNX l1 r1 r2 w k t rows m len l)) := by kernel_rfl
end Go.Proofs.Ytoekeplljjaehaa

/- Layer 26: all pieces are kept: the law's loop, all rounds; the law, evaluated. -/
set_option linter.unusedVariables false
set_option linter.unusedSimpArgs false
namespace Go.Proofs.Ytoekeplljjaehaa
open Go Sx
/-- The numbers below one. -/
def upto (m : Nat) : List Int := (List.range m).map fun j => ((j : Nat) : Int)
theorem upto_len (m : Nat) : (upto m).length = m := by unfold upto; simp
theorem upto_succ (m : Nat) : upto (m + 1) = upto m ++ [(m : Int)] := by unfold upto; rw [List.range_succ, List.map_append]; rfl
theorem loopN {l1 : Nat} {r1 r2 : List (List CV)} {w k t : List UInt8} {rows : List (List CV)} {m : Nat} (h0 : 0 < m) (hm : m ≤ 1099511627776) :
    Tri Try.prog (.loop loopN1) (sN0 l1 r1 r2 w k t rows m).toA (.exit 0) (sNX l1 r1 r2 w k t rows m m (upto m)).toA 2 := by
  refine loop_rounds (ent_sound (T := tAn eFilV) (tAn_ok eFilV_ok) host nolv_ok (NF := 64) (m := 1) 20) (NF := 64) (m := 1) loops_none (fun n => hasN [0, 5, 6, 7, 8, 9, 10, 11] n) (fun n => hasN [0, 5, 6, 7, 8, 9, 10] n) (ι := { j : Nat // j ≤ m })
    (fun j => match j.1 with | 0 => sN0 l1 r1 r2 w k t rows m | j + 1 => sNV l1 r1 r2 w k t rows m ((j + 1 : Nat) : Int) (j + 1) (upto (j + 1))) (fun j => m - j.1) (fun _ => (.exit 0, sNX l1 r1 r2 w k t rows m m (upto m))) ?_ (fun _ => by simp) ⟨0, Nat.zero_le _⟩
  rintro ⟨j, hj⟩
  cases j with
  | zero =>
    refine .inl ⟨⟨1, h0⟩, by simp only; omega, rfl, ?_⟩
    refine (rN0 l1 r1 r2 w k t rows m).trans ?_
    rw [bcT (b := decide _) (decide_eq_true (by omega))]
    have e : iN 0 = ((0 + 1 : Nat) : Int) := iN_nat (j := 0) (by omega)
    rw [e]; rfl
  | succ j =>
    by_cases h : j + 1 < m
    · refine .inl ⟨⟨j + 2, h⟩, by simp only; omega, rfl, ?_⟩
      refine (rNV l1 r1 r2 w k t rows m ((j + 1 : Nat) : Int) (j + 1) (upto (j + 1))).trans ?_
      rw [bcT (b := decide _) (decide_eq_true (by omega)), chks_true (by
        intro b hb
        rw [List.mem_singleton.1 hb, upto_len, decide_eq_true (by omega), Bool.true_and]
        exact decide_eq_true (by omega)), iN_nat (j := j + 1) (by omega), ← upto_succ]
    · refine .inr ?_
      have : m = j + 1 := by omega
      subst this
      refine (rNV l1 r1 r2 w k t rows (j + 1) ((j + 1 : Nat) : Int) (j + 1) (upto (j + 1))).trans ?_
      rw [bcF (b := decide _) (decide_eq_false (by omega))]
noncomputable def eqSt (a b : PState) : Bool := @decide (a = b) (Classical.propDecidable _)
theorem eqSt_of {a b : PState} (h : eqSt a b = true) : a = b := by unfold eqSt at h; exact @of_decide_eq_true _ (Classical.propDecidable _) h
theorem eqSt_refl (a : PState) : eqSt a a = true := by unfold eqSt; exact @decide_eq_true _ (Classical.propDecidable _) rfl
def posM (m : Nat) : Bool := decide (0 < m ∧ m ≤ 1099511627776)
noncomputable def eNL (l1 : Nat) (r1 r2 : List (List CV)) (w k t : List UInt8) (rows : List (List CV)) (m : Nat) : Nat → PState → LAns := fun K st =>
  .chk (Nat.beq K 2) (.chk (eqSt st (sN0 l1 r1 r2 w k t rows m)) (.chk (posM m) (.out (.exit 0) (sNX l1 r1 r2 w k t rows m m (upto m)))))
theorem eNL_ok (l1 : Nat) (r1 r2 : List (List CV)) (w k t : List UInt8) (rows : List (List CV)) (m : Nat) (K : Nat) (st : PState) : LAnsOK Try.prog loopN1 K st (eNL l1 r1 r2 w k t rows m K st) := by
  unfold eNL
  refine ⟨fun g1 => ⟨fun g2 => ⟨fun g3 => ?_, fun _ => trivial⟩, fun _ => trivial⟩, fun _ => trivial⟩
  obtain rfl := beqT.1 g1
  obtain rfl := eqSt_of g2
  obtain ⟨h1, h2⟩ := of_decide_eq_true g3
  exact loopN h1 h2
noncomputable def lvN (l1 : Nat) (r1 r2 : List (List CV)) (w k t : List UInt8) (rows : List (List CV)) (m : Nat) : FuncId → Lv := fun f => match f with
  | 5 => { keep := fun _ => some [0, 5, 6, 7, 8, 9, 10, 11], ent := fun i => match i with | 8 => some (eNL l1 r1 r2 w k t rows m) | _ => none }
  | _ => {}
theorem lvN_ok (l1 : Nat) (r1 r2 : List (List CV)) (w k t : List UInt8) (rows : List (List CV)) (m : Nat) : LvOK Try.prog (lvN l1 r1 r2 w k t rows m) := by
  intro f fn body hf hb K x hx id e hid he st
  by_cases h : f = 5
  · subst h
    obtain rfl : fn = Try.f5 := (Option.some.inj (Try.func5.symm.trans hf)).symm
    have hbody : body = bodyOf Try.f5 := by unfold bodyOf; rw [hb]; rfl
    subst hbody
    have h1 : loopBodies (bodyOf Try.f5) = [loopN1] := by kernel_rfl
    rw [h1] at hx
    have hx' := List.mem_singleton.1 hx
    have h2 : id = 8 := by
      have h3 : headReg loopN1 = some 8 := by kernel_rfl
      rw [hx', h3] at hid; exact (Option.some.inj hid).symm
    subst h2
    have he' : eNL l1 r1 r2 w k t rows m = e := Option.some.inj he
    subst he'
    rw [hx']
    exact eNL_ok l1 r1 r2 w k t rows m K st
  · exfalso
    have : (lvN l1 r1 r2 w k t rows m f).ent id = none := by
      unfold lvN
      split
      · exact absurd rfl h
      · rfl
    rw [this] at he; cases he
def allS (t : List UInt8) : List UInt8 := (t.drop (Int.toNat 0)).take (Int.toNat 320)
def vB (rows : List (List CV)) (m : Nat) : Bool := decide (rows.length = m ∧ m ≤ 1099511627776)
def endN (l1 : Nat) (r1 r2 : List (List CV)) (k t a : List UInt8) : Ans :=
  .chk (smN 320 a a) (.br (allS a == allS t) (.chk (smN 320 k k) (.chk (okA l1 r1) (.chk (smN 320 k k) (.br (allS k == allS k) (.chk (smN 320 t t) (.ret (.bool (allS t == allS t)) [fr r1, fr r2])) (.ret (.bool false) [fr r1, fr r2]))))) (.ret (.bool false) [fr r1, fr r2]))
def xN0 (l1 l2 : Nat) (r1 r2 : List (List CV)) : Ans :=
  ansChks (endN l1 r1 r2 (sT1 r1) (sT2 r1 r2) (sT1 r1)) [okA l1 r1, okA l2 r2, (fillP (r2.take 8)).isEmpty, okA l1 r1, okA l2 r2, (fillP (r2.take 8)).isEmpty, okA l1 r1, okA l2 r2, (fillP (r2.take 8)).isEmpty,
    smN 320 (sT1 r1) (sT2 r1 r2), smN 320 (sT1 r1) (sT2 r1 r2), smN 320 (sT1 r1) (sT2 r1 r2), smN 320 (sT1 r1) (sT2 r1 r2), smN 320 (sT2 r1 r2) (sT2 r1 r2)]
noncomputable def xNV (l1 l2 : Nat) (r1 r2 : List (List CV)) (rows : List (List CV)) (m : Nat) : Ans :=
  ansChks (endN l1 r1 r2 (sT1 r1) (sT2 r1 r2) (layAll rows (upto m) (sT1 r1))) [okA l1 r1, okA l2 r2, !(fillP (r2.take 8)).isEmpty, okA l1 r1, okA l2 r2, !(fillP (r2.take 8)).isEmpty, okA l1 r1, okA l2 r2, !(fillP (r2.take 8)).isEmpty,
    smN 320 (sT1 r1) (sT2 r1 r2), vB rows m, eqSt (sN0 l1 r1 r2 (allS (sT2 r1 r2)) (sT1 r1) (sT2 r1 r2) rows m) (sN0 l1 r1 r2 (allS (sT2 r1 r2)) (sT1 r1) (sT2 r1 r2) rows m), posM m,
    askC (upto m) m 320 320 320 320 m (sT1 r1) (sT2 r1 r2) rows, okK m (tk m) (upto m), rowsB 320 rows, smN 320 (sT1 r1) (sT2 r1 r2), vB rows m, smN 320 (sT1 r1) (sT2 r1 r2), vB rows m, smN 320 (sT2 r1 r2) (sT2 r1 r2)]
end Go.Proofs.Ytoekeplljjaehaa

/- Layer 26: the document's own lay: bytes, with a piece laid over them. -/
set_option linter.unusedVariables false
set_option linter.unusedSimpArgs false
namespace Go.Proofs.Ytoekeplljjaehaa
open Go Sx
noncomputable abbrev loopL1 : Code := (loopBodies (bodyOf Try.f37)).headD .skip
def sL (n : Nat) (k : List UInt8) (a : Int) (s out : List UInt8) (i : Int) : PState := ⟨none :: none :: none :: some (.ptr 1 0) :: none :: some (.vec 2 n) :: some (.int .i64 i) :: List.replicate 21 none, some (.vecB k 5) :: some (.raw (.cells [.int .i64 a, .str s] qT)) :: some (.vecB out 5) :: List.replicate 64 none⟩
def sLx (n : Nat) (k out : List UInt8) : PState := ⟨none :: none :: none :: none :: none :: some (.vec 1 n) :: List.replicate 22 none, some (.vecB k 5) :: some (.vecB out 5) :: List.replicate 64 none⟩
def wI (a i : Int) : Int := IntKind.i64.wrap (a + i)
def setI (a : Int) (s out : List UInt8) (i : Int) : List UInt8 := out.set ((wI a i).toNat * 1) (toByte (byteAt s i.toNat))
theorem rL (n : Nat) (k : List UInt8) (a : Int) (s out : List UInt8) (i : Int) : code (ent Try.prog [] nolv 64 1 20) Try.prog {} 1 64 1 loopL1 (sL n k a s out i) (endK 1 64 (fun n => hasN [3, 5, 6] n) (fun n => hasN [5] n))
  = bcond (decide (i < (s.length : Int))) (chks (some (.normal, sL n k a s (setI a s out i) (iN i))) [decide (0 ≤ i ∧ i.toNat < s.length), decide (0 ≤ wI a i ∧ wI a i < (n : Int)), decide ((wI a i).toNat * 1 < out.length) && decide (0 ≤ byteAt s i.toNat ∧ byteAt s i.toNat < 256)]) (some (.exit 0, sLx n k out)) := by kernel_rfl
theorem toByte_byteAt {s : List UInt8} {j : Nat} (h : j < s.length) : toByte (byteAt s j) = s[j] := by
  unfold toByte byteAt
  rw [List.getD_eq_getElem?_getD, List.getElem?_eq_getElem h, Option.getD_some, Int.toNat_natCast, UInt8.ofNat_toNat]
theorem byteAt_in (s : List UInt8) (j : Nat) : 0 ≤ byteAt s j ∧ byteAt s j < 256 := by
  unfold byteAt
  have := (s.getD j 0).toNat_lt
  omega
theorem splice_set {a j : Nat} {s k : List UInt8} (h : a + s.length ≤ k.length) (hj : j < s.length) : (splice a (s.take j) k).set (a + j) s[j] = splice a (s.take (j + 1)) k := by
  have e1 : (s.take j).length = j := by rw [List.length_take]; omega
  have e2 : (s.take (j + 1)).length = j + 1 := by rw [List.length_take]; omega
  unfold splice
  rw [e1, e2, List.set_append_right _ _ (by simp only [List.length_append, List.length_take]; omega)]
  rw [show a + j - (List.take a k ++ List.take j s).length = 0 by simp only [List.length_append, List.length_take]; omega, List.drop_eq_getElem_cons (by omega : a + j < k.length), List.set_cons_zero, List.take_succ_eq_append_getElem hj]
  simp only [List.append_assoc, Nat.add_assoc, List.singleton_append, List.cons_append, List.nil_append]
theorem loopL {n : Nat} {k : List UInt8} (a : Nat) (s : List UInt8) (hk : k.length = n) (hn : n ≤ 1099511627776) (h : a + s.length ≤ n) (j : Nat) (hj : j ≤ s.length) :
    Tri Try.prog (.loop loopL1) (sL n k a s (splice a (s.take j) k) j).toA (.exit 0) (sLx n k (splice a s k)).toA 1 := by
  refine loop_rounds (ent_sound (T := []) .nil host nolv_ok (NF := 64) (m := 1) 20) (NF := 64) (m := 1) loops_none (fun n => hasN [3, 5, 6] n) (fun n => hasN [5] n) (ι := { j : Nat // j ≤ s.length })
    (fun j => sL n k a s (splice a (s.take j.1) k) (j.1 : Int)) (fun j => s.length - j.1) (fun _ => (.exit 0, sLx n k (splice a s k))) ?_ (fun _ => by simp) ⟨j, hj⟩
  rintro ⟨j, hj⟩
  have hw : wI (a : Int) (j : Int) = ((a + j : Nat) : Int) := by unfold wI; rw [i64_in (by omega) (by omega)]; omega
  by_cases h1 : j < s.length
  · refine .inl ⟨⟨j + 1, h1⟩, by simp only; omega, rfl, ?_⟩
    refine (rL n k a s (splice a (s.take j) k) j).trans ?_
    have hlen : (splice a (s.take j) k).length = k.length := splice_len (by rw [List.length_take]; omega)
    rw [bcT (b := decide ((j : Int) < _)) (decide_eq_true (by omega)), chks_true (bs := [_, _, _]) (by
      intro b hb
      simp only [List.mem_cons, List.not_mem_nil, or_false] at hb
      rcases hb with rfl | rfl | rfl
      · exact decide_eq_true (by simp only [Int.toNat_natCast]; omega)
      · rw [hw]; exact decide_eq_true (by omega)
      · rw [hw, decide_eq_true (byteAt_in _ _), Bool.and_true]; exact decide_eq_true (by simp only [Int.toNat_natCast]; omega)), iN_nat (by omega)]
    have e : setI a s (splice a (s.take j) k) j = splice a (s.take (j + 1)) k := by
      unfold setI
      rw [hw]
      simp only [Int.toNat_natCast, Nat.mul_one]
      rw [toByte_byteAt h1, splice_set (by omega) h1]
    rw [e]
  · refine .inr ?_
    have e : j = s.length := by omega
    subst e
    refine (rL n k a s (splice a (s.take s.length) k) (s.length : Nat)).trans ?_
    rw [bcF (b := decide (((s.length : Nat) : Int) < _)) (decide_eq_false (by omega)), List.take_length]
def vecN (n : Nat) (k : List UInt8) : Bool := decide (k.length = n ∧ 0 < n ∧ n ≤ 1099511627776)
noncomputable def eLL (n : Nat) (k : List UInt8) (a : Int) (s : List UInt8) : Nat → PState → LAns := fun K st =>
  .chk (Nat.beq K 1) (.chk (eqSt st (sL (0 + n) k a s (List.take n k) 0)) (.chk (vecN n k && inD n a s.length) (.out (.exit 0) (sLx n k (splice a.toNat s k)))))
theorem eLL_ok (n : Nat) (k : List UInt8) (a : Int) (s : List UInt8) (K : Nat) (st : PState) : LAnsOK Try.prog loopL1 K st (eLL n k a s K st) := by
  unfold eLL
  refine ⟨fun g1 => ⟨fun g2 => ⟨fun g3 => ?_, fun _ => trivial⟩, fun _ => trivial⟩, fun _ => trivial⟩
  obtain rfl := beqT.1 g1
  obtain rfl := eqSt_of g2
  rw [Bool.and_eq_true] at g3
  obtain ⟨h1, _, h2⟩ := of_decide_eq_true g3.1
  rw [Nat.zero_add, List.take_of_length_le (by omega)]
  obtain ⟨h3, h4⟩ := of_decide_eq_true g3.2
  obtain ⟨a, rfl⟩ := Int.eq_ofNat_of_zero_le h3
  simp only [Int.ofNat_eq_natCast, Int.toNat_natCast] at h4 ⊢
  have := loopL a s h1 h2 h4 0 (Nat.zero_le _)
  rw [List.take_zero, splice_nil (by omega)] at this
  exact this
noncomputable def lvL (n : Nat) (k : List UInt8) (a : Int) (s : List UInt8) : FuncId → Lv := fun f => match f with
  | 37 => { keep := fun _ => some [3, 5, 6], ent := fun i => match i with | 3 => some (eLL n k a s) | _ => none }
  | _ => {}
theorem lvL_ok (n : Nat) (k : List UInt8) (a : Int) (s : List UInt8) : LvOK Try.prog (lvL n k a s) := by
  intro f fn body hf hb K x hx id e hid he st
  by_cases h : f = 37
  · subst h
    obtain rfl : fn = Try.f37 := (Option.some.inj (Try.func37.symm.trans hf)).symm
    have hbody : body = bodyOf Try.f37 := by unfold bodyOf; rw [hb]; rfl
    subst hbody
    have h1 : loopBodies (bodyOf Try.f37) = [loopL1] := by kernel_rfl
    rw [h1] at hx
    have hx' := List.mem_singleton.1 hx
    have h2 : id = 3 := by
      have h3 : headReg loopL1 = some 3 := by kernel_rfl
      rw [hx', h3] at hid; exact (Option.some.inj hid).symm
    subst h2
    have he' : eLL n k a s = e := Option.some.inj he
    subst he'
    rw [hx']
    exact eLL_ok n k a s K st
  · exfalso
    have : (lvL n k a s f).ent id = none := by
      unfold lvL
      split
      · exact absurd rfl h
      · rfl
    rw [this] at he; cases he
def cL (n : Nat) (k : List UInt8) : Bool := ((((decide (n ≤ k.length) && true) && true) && true) && decide (0 < n)) && decide (2 * (0 + n) * 1 ≤ 281474976710656 ∧ 2 * (0 + n) < 9223372036854775808)
noncomputable def xL (n : Nat) (k : List UInt8) (a : Int) (s : List UInt8) : Ans :=
  .chk (cL n k) (.chk (eqSt (sL (0 + n) k a s (List.take n k) 0) (sL (0 + n) k a s (List.take n k) 0)) (.chk (vecN n k && inD n a s.length) (.ret (.vec 1 n) [.vecB k 5, .vecB (splice a.toNat s k) 5])))
theorem cLa (n : Nat) (k : List UInt8) (a : Int) (s : List UInt8) : Comes [] (lvL n k a s) 37 [.vec 0 n, .agg [.int .i64 a, .str s]] [.vecB k 5] (xL n k a s) := by unfold Comes; kernel_rfl
/-- lay: bytes of a block of its own, with the piece laid over them. -/
def eLay : Ent := fun args pre => match args, pre with
  | [.vec x n, .agg [.int .i64 a, .str s]], [.vecB k d] => .chk (Nat.beq x 0 && Nat.beq d 5) (.chk (vecN n k && inD n a s.length) (.ret (.vec 1 n) [.vecB k 5, .vecB (splice a.toNat s k) 5]))
  | _, _ => .fail
theorem eLay_ok : EntOK Try.prog 37 eLay := fun args pre => by
  unfold eLay
  split
  · refine ⟨fun g1 => ?_, fun _ => trivial⟩
    simp only [Bool.and_eq_true, beqT] at g1
    obtain ⟨rfl, rfl⟩ := g1
    rename_i n a s k
    refine of_run (ans_comes .nil (cLa n k a s) (lvL_ok n k a s)) fun r hr => ?_
    obtain ⟨c1, hr⟩ := chk_run hr
    have hv : vecN n k = true := (Bool.and_eq_true _ _ ▸ c1).1
    obtain ⟨h1, h2, h3⟩ := of_decide_eq_true hv
    have h4 : cL n k = true := by
      unfold cL
      rw [decide_eq_true (show n ≤ k.length by omega), decide_eq_true h2, decide_eq_true (by omega)]; rfl
    rw [← hr]; unfold xL; simp only [Ans.run, Ans.chk]; rw [bcT h4, bcT (eqSt_refl _), bcT c1]
  · trivial
end Go.Proofs.Ytoekeplljjaehaa

/- Layer 26: the document's own there: what is kept, with all pieces laid over it. -/
set_option linter.unusedVariables false
set_option linter.unusedSimpArgs false
namespace Go.Proofs.Ytoekeplljjaehaa
open Go Sx
abbrev rT : Nat := 38
noncomputable abbrev loopT1 : Code := (loopBodies (bodyOf Try.f31)).headD .skip
def tLa : Tab := [(37, eLay)]
theorem tLa_ok : TabOK Try.prog tLa := .cons eLay_ok .nil
def rk1 (n m : Nat) (k : List UInt8) (rows : List (List CV)) : List (Option PObj) := [some (.raw (.cells [.vec 1 n, .vec 2 m] rT)), some (.vecB k 5), some (.vecR shP rows qT)]
def sT0 (n m : Nat) (k : List UInt8) (rows : List (List CV)) : PState := ⟨some (.ptr 0 0) :: none :: none :: some (.vec 1 n) :: some (.int .i64 0) :: List.replicate 23 none, rk1 n m k rows ++ List.replicate 64 none⟩
def sTV (n m : Nat) (k : List UInt8) (rows : List (List CV)) (l : List UInt8) (i : Int) : PState := ⟨some (.ptr 0 0) :: none :: none :: some (.vec 3 n) :: some (.int .i64 i) :: List.replicate 23 none, rk1 n m k rows ++ some (.vecB l 5) :: List.replicate 64 none⟩
def sTX (n m : Nat) (k : List UInt8) (rows : List (List CV)) (l : List UInt8) : PState := ⟨none :: none :: none :: some (.vec 3 n) :: List.replicate 24 none, rk1 n m k rows ++ some (.vecB l 5) :: List.replicate 64 none⟩
def sTX0 (n m : Nat) (k : List UInt8) (rows : List (List CV)) : PState := ⟨none :: none :: none :: some (.vec 1 n) :: List.replicate 24 none, rk1 n m k rows ++ List.replicate 64 none⟩
def rAt (rows : List (List CV)) (i : Int) : List CV := Sx.rowAt rows i.toNat
def spR (r : List CV) (l : List UInt8) : List UInt8 := splice (rowCV r 0).n.toNat (rowCV r 1).s l
def cTh (n m : Nat) (rows : List (List CV)) (l : List UInt8) (i : Int) : List Bool := [bF i m, decide (i.toNat < rows.length) && true && true, vecN n l && inD n (rowCV (rAt rows i) 0).n (rowCV (rAt rows i) 1).s.length]
theorem rT0 (n m : Nat) (k : List UInt8) (rows : List (List CV)) : code (ent Try.prog tLa nolv 64 1 20) Try.prog {} 3 64 1 loopT1 (sT0 n m k rows) (endK 3 64 (fun n => hasN [0, 3, 4] n) (fun n => hasN [3] n))
  = bcond (decide ((0 : Int) < (m : Int))) (chks (some (.normal, sTV n m k rows (spR (rAt rows 0) k) (iN 0))) (cTh n m rows k 0)) (some (.exit 0, sTX0 n m k rows)) := by kernel_rfl
theorem rTV (n m : Nat) (k l : List UInt8) (rows : List (List CV)) (i : Int) : code (ent Try.prog tLa nolv 64 1 20) Try.prog {} 3 64 1 loopT1 (sTV n m k rows l i) (endK 3 64 (fun n => hasN [0, 3, 4] n) (fun n => hasN [3] n))
  = bcond (decide (i < (m : Int))) (chks (some (.normal, sTV n m k rows (spR (rAt rows i) l) (iN i))) (cTh n m rows l i)) (some (.exit 0, sTX n m k rows l)) := by kernel_rfl
/-- Rows laid over bytes, one behind the other. -/
def layR : List (List CV) → List UInt8 → List UInt8
  | [], k => k
  | r :: rs, k => layR rs (spR r k)
theorem layR_app : ∀ (a b : List (List CV)) (k : List UInt8), layR (a ++ b) k = layR b (layR a k)
  | [], _, _ => rfl
  | r :: a, b, k => layR_app a b (spR r k)
theorem layR_len {n : Nat} : ∀ {rows : List (List CV)} {k : List UInt8}, rowsB n rows = true → k.length = n → (layR rows k).length = n
  | [], k, _, h => h
  | r :: rs, k, hr, h => by
    simp only [rowsB, List.all_cons, Bool.and_eq_true] at hr
    refine layR_len (rows := rs) (List.all_eq_true.2 fun x hx => List.all_eq_true.1 hr.2 x hx) ?_
    unfold spR
    rw [splice_len]
    · exact h
    · rw [h]; exact of_decide_eq_true hr.1.2
theorem rowsB_take {n j : Nat} {rows : List (List CV)} (h : rowsB n rows = true) : rowsB n (rows.take j) = true := List.all_eq_true.2 fun x hx => List.all_eq_true.1 h x (List.mem_of_mem_take hx)
theorem take_row {rows : List (List CV)} {j : Nat} (h : j < rows.length) : rows.take (j + 1) = rows.take j ++ [Sx.rowAt rows j] := by
  rw [List.take_succ_eq_append_getElem h]; unfold Sx.rowAt; rw [List.getD_eq_getElem?_getD, List.getElem?_eq_getElem h]; rfl
theorem cTh_ok {n m j : Nat} {rows : List (List CV)} {k : List UInt8} (hn : 0 < n ∧ n ≤ 1099511627776) (hm : rows.length = m) (hr : rowsB n rows = true) (hj : j < m) (hk : k.length = n) : ∀ b ∈ cTh n m rows k (j : Int), b = true := by
  intro b hb
  unfold cTh at hb
  obtain ⟨h1, h2⟩ := rowsB_at hr (j := j) (by omega)
  simp only [List.mem_cons, List.not_mem_nil, or_false] at hb
  rcases hb with rfl | rfl | rfl
  · exact decide_eq_true (by omega)
  · rw [Int.toNat_natCast, decide_eq_true (show j < rows.length by omega)]; rfl
  · unfold rAt
    rw [Int.toNat_natCast]
    have e1 : vecN n k = true := decide_eq_true ⟨hk, hn⟩
    have e2 : inD n (rowCV (Sx.rowAt rows j) 0).n (rowCV (Sx.rowAt rows j) 1).s.length = true := decide_eq_true ⟨h1, h2⟩
    rw [e1, e2]; rfl
theorem loopT {n m : Nat} {k : List UInt8} {rows : List (List CV)} (hn : 0 < n ∧ n ≤ 1099511627776) (hm : rows.length = m) (h0 : 0 < m ∧ m ≤ 1099511627776) (hr : rowsB n rows = true) (hk : k.length = n) :
    Tri Try.prog (.loop loopT1) (sT0 n m k rows).toA (.exit 0) (sTX n m k rows (layR rows k)).toA 3 := by
  refine loop_rounds (ent_sound (T := tLa) tLa_ok host nolv_ok (NF := 64) (m := 1) 20) (NF := 64) (m := 1) loops_none (fun n => hasN [0, 3, 4] n) (fun n => hasN [3] n) (ι := { j : Nat // j ≤ m })
    (fun j => match j.1 with | 0 => sT0 n m k rows | j + 1 => sTV n m k rows (layR (rows.take (j + 1)) k) ((j + 1 : Nat) : Int)) (fun j => m - j.1) (fun _ => (.exit 0, sTX n m k rows (layR rows k))) ?_ (fun _ => by simp) ⟨0, Nat.zero_le _⟩
  rintro ⟨j, hj⟩
  have step : ∀ (j : Nat), j < m → spR (rAt rows (j : Int)) (layR (rows.take j) k) = layR (rows.take (j + 1)) k := fun j h => by
    rw [take_row (by omega), layR_app]; unfold rAt; rw [Int.toNat_natCast]; rfl
  cases j with
  | zero =>
    refine .inl ⟨⟨1, h0.1⟩, by simp only; omega, rfl, ?_⟩
    refine (rT0 n m k rows).trans ?_
    have e : iN 0 = ((0 + 1 : Nat) : Int) := iN_nat (j := 0) (by omega)
    have c : ∀ b ∈ cTh n m rows k 0, b = true := cTh_ok (j := 0) hn hm hr h0.1 hk
    have s : spR (rAt rows 0) k = layR (rows.take (0 + 1)) k := step 0 h0.1
    rw [bcT (b := decide _) (decide_eq_true (by omega)), chks_true c, e, s]
  | succ j =>
    have hl : (layR (rows.take (j + 1)) k).length = n := layR_len (rowsB_take hr) hk
    by_cases h : j + 1 < m
    · refine .inl ⟨⟨j + 2, h⟩, by simp only; omega, rfl, ?_⟩
      refine (rTV n m k (layR (rows.take (j + 1)) k) rows ((j + 1 : Nat) : Int)).trans ?_
      rw [bcT (b := decide _) (decide_eq_true (by omega)), chks_true (cTh_ok hn hm hr h hl), iN_nat (j := j + 1) (by omega), step (j + 1) h]
    · refine .inr ?_
      have e : m = j + 1 := by omega
      have e2 : rows.take (j + 1) = rows := List.take_of_length_le (by omega)
      refine (rTV n m k (layR (rows.take (j + 1)) k) rows ((j + 1 : Nat) : Int)).trans ?_
      rw [bcF (b := decide _) (decide_eq_false (by omega)), e2]
def askT (n m : Nat) (k : List UInt8) (rows : List (List CV)) : Bool := decide (k.length = n ∧ 0 < n ∧ n ≤ 1099511627776 ∧ rows.length = m ∧ 0 < m ∧ m ≤ 1099511627776) && rowsB n rows
noncomputable def eTL (n m : Nat) (k : List UInt8) (rows : List (List CV)) : Nat → PState → LAns := fun K st =>
  .chk (Nat.beq K 3) (.chk (eqSt st (sT0 n m k rows)) (.chk (askT n m k rows) (.out (.exit 0) (sTX n m k rows (layR rows k)))))
theorem eTL_ok (n m : Nat) (k : List UInt8) (rows : List (List CV)) (K : Nat) (st : PState) : LAnsOK Try.prog loopT1 K st (eTL n m k rows K st) := by
  unfold eTL
  refine ⟨fun g1 => ⟨fun g2 => ⟨fun g3 => ?_, fun _ => trivial⟩, fun _ => trivial⟩, fun _ => trivial⟩
  obtain rfl := beqT.1 g1
  obtain rfl := eqSt_of g2
  unfold askT at g3
  rw [Bool.and_eq_true] at g3
  obtain ⟨h1, h2, h3, h4, h5, h6⟩ := of_decide_eq_true g3.1
  exact loopT ⟨h2, h3⟩ h4 ⟨h5, h6⟩ g3.2 h1
noncomputable def lvT (n m : Nat) (k : List UInt8) (rows : List (List CV)) : FuncId → Lv := fun f => match f with
  | 31 => { keep := fun _ => some [0, 3, 4], ent := fun i => match i with | 3 => some (eTL n m k rows) | _ => none }
  | _ => {}
theorem lvT_ok (n m : Nat) (k : List UInt8) (rows : List (List CV)) : LvOK Try.prog (lvT n m k rows) := by
  intro f fn body hf hb K x hx id e hid he st
  by_cases h : f = 31
  · subst h
    obtain rfl : fn = Try.f31 := (Option.some.inj (Try.func31.symm.trans hf)).symm
    have hbody : body = bodyOf Try.f31 := by unfold bodyOf; rw [hb]; rfl
    subst hbody
    have h1 : loopBodies (bodyOf Try.f31) = [loopT1] := by kernel_rfl
    rw [h1] at hx
    have hx' := List.mem_singleton.1 hx
    have h2 : id = 3 := by
      have h3 : headReg loopT1 = some 3 := by kernel_rfl
      rw [hx', h3] at hid; exact (Option.some.inj hid).symm
    subst h2
    have he' : eTL n m k rows = e := Option.some.inj he
    subst he'
    rw [hx']
    exact eTL_ok n m k rows K st
  · exfalso
    have : (lvT n m k rows f).ent id = none := by
      unfold lvT
      split
      · exact absurd rfl h
      · rfl
    rw [this] at he; cases he
/-- The document's disk: nothing pending; some pieces. -/
def r0 (n : Nat) (k : List UInt8) : List PObj := [.raw (.cells [.vec 1 n, .nilslice] rT), .vecB k 5]
def r1 (n m : Nat) (k : List UInt8) (rows : List (List CV)) : List PObj := [.raw (.cells [.vec 1 n, .vec 2 m] rT), .vecB k 5, .vecR shP rows qT]
theorem cTh0 (n : Nat) (k : List UInt8) : Comes [] nolv 31 [.ptr 0 0] (r0 n k) (.ret (.vec 1 n) (r0 n k)) := by unfold Comes; kernel_rfl
noncomputable def xTh (n m : Nat) (k : List UInt8) (rows : List (List CV)) : Ans := .chk (eqSt (sT0 n m k rows) (sT0 n m k rows)) (.chk (askT n m k rows) (.ret (.vec 3 n) (r1 n m k rows ++ [.vecB (layR rows k) 5])))
theorem cTh1 (n m : Nat) (k : List UInt8) (rows : List (List CV)) : Comes tLa (lvT n m k rows) 31 [.ptr 0 0] (r1 n m k rows) (xTh n m k rows) := by unfold Comes; kernel_rfl
def litR (x y a t d : Nat) : Bool := Nat.beq x 0 && (Nat.beq y 0 && (Nat.beq a 1 && (Nat.beq t rT && Nat.beq d 5)))
theorem litR_eq {x y a t d : Nat} (h : litR x y a t d = true) : x = 0 ∧ y = 0 ∧ a = 1 ∧ t = rT ∧ d = 5 := by
  unfold litR at h
  simpa only [Bool.and_eq_true, beqT] using h
def litQ (v ty : Nat) (sh : List CK) : Bool := Nat.beq v 2 && (Nat.beq ty qT && eqC sh)
theorem litQ_eq {v ty : Nat} {sh : List CK} (h : litQ v ty sh = true) : v = 2 ∧ ty = qT ∧ sh = shP := by
  unfold litQ at h
  simp only [Bool.and_eq_true, beqT] at h
  exact ⟨h.1, h.2.1, eqC_eq h.2.2⟩
def eThere : Ent := fun args pre => match args, pre with
  | [.ptr x y], [.raw (.cells [.vec a n, .nilslice] t), .vecB k d] => .chk (litR x y a t d) (.ret (.vec 1 n) (r0 n k))
  | [.ptr x y], [.raw (.cells [.vec a n, .vec b m] t), .vecB k d, .vecR sh rows ty] => .chk (litR x y a t d) (.chk (litQ b ty sh) (.chk (askT n m k rows) (.ret (.vec 3 n) (r1 n m k rows ++ [.vecB (layR rows k) 5]))))
  | _, _ => .fail
theorem eThere_ok : EntOK Try.prog 31 eThere := fun args pre => by
  unfold eThere
  split
  · refine ⟨fun g1 => ?_, fun _ => trivial⟩
    obtain ⟨rfl, rfl, rfl, rfl, rfl⟩ := litR_eq g1
    exact ans_comes .nil (cTh0 _ _)
  · refine ⟨fun g1 => ⟨fun g2 => ?_, fun _ => trivial⟩, fun _ => trivial⟩
    obtain ⟨rfl, rfl, rfl, rfl, rfl⟩ := litR_eq g1
    obtain ⟨rfl, rfl, rfl⟩ := litQ_eq g2
    refine of_run (ans_comes tLa_ok (cTh1 _ _ _ _) (lvT_ok _ _ _ _)) fun r hr => ?_
    rw [← hr]; unfold xTh; simp only [Ans.run, Ans.chk]; rw [bcT (eqSt_refl _)]
  · trivial
end Go.Proofs.Ytoekeplljjaehaa

/- Layer 26: the document's own disk: read, synced, written to. -/
set_option linter.unusedVariables false
set_option linter.unusedSimpArgs false
namespace Go.Proofs.Ytoekeplljjaehaa
open Go Sx
def tTh : Tab := [(31, eThere)]
theorem tTh_ok : TabOK Try.prog tTh := .cons eThere_ok .nil
/-- Read. -/
def wAC (a c : Int) : Int := IntKind.i64.wrap (a + c)
def xRin (n : Nat) (t : List UInt8) (a c : Int) (post : List PObj) : Ans :=
  .chk (decide (0 ≤ a) && (decide (0 ≤ wAC a c) && decide (a.toNat ≤ (wAC a c).toNat ∧ (wAC a c).toNat ≤ n))) (.chk (true && decide (a.toNat + ((wAC a c).toNat - a.toNat) ≤ t.length)) (.ret (.tuple [.str (List.take ((wAC a c).toNat - a.toNat) (List.drop a.toNat t)), .int .i64 0]) post))
def xRR (n : Nat) (a c : Int) (post : List PObj) (x : Ans) : Ans :=
  .br (decide (a < 0)) (.ret (.tuple [.str [], .int .i64 260]) post) (.br (decide (c < 0)) (.ret (.tuple [.str [], .int .i64 260]) post) (.br (decide (a > (n : Int))) (.ret (.tuple [.str [], .int .i64 260]) post) (.br (decide (c > IntKind.i64.wrap ((n : Int) - a))) (.ret (.tuple [.str [], .int .i64 260]) post) x)))
theorem cRr0 (n : Nat) (k : List UInt8) (a c : Int) : Comes tTh nolv 14 [.ptr 0 0, .int .i64 a, .int .i64 c] (r0 n k) (xRR n a c (r0 n k) (xRin n k a c (r0 n k))) := by unfold Comes; kernel_rfl
theorem cRr1 (n m : Nat) (k : List UInt8) (rows : List (List CV)) (a c : Int) : Comes tTh nolv 14 [.ptr 0 0, .int .i64 a, .int .i64 c] (r1 n m k rows) (xRR n a c (r1 n m k rows) (.chk (askT n m k rows) (xRin n (layR rows k) a c (r1 n m k rows)))) := by unfold Comes; kernel_rfl
theorem xRR_run {n : Nat} {t : List UInt8} {a c : Int} {post : List PObj} {x : Ans} (hn : t.length = n ∧ n ≤ 1099511627776) (ha : i64B a = true) (hc : i64B c = true) (hx : x.run pure2 = (xRin n t a c post).run pure2) : (xRR n a c post x).run pure2 = (rRd n t a c post).run pure2 := by
  have ha' := i64B_of ha
  have hc' := i64B_of hc
  unfold xRR rRd
  simp only [Ans.run]
  by_cases h0 : a < 0
  · rw [bcT (b := decide (a < 0)) (decide_eq_true h0)]
    have : inD n a c.toNat = false := decide_eq_false (by omega)
    rw [this, Bool.and_false]; rfl
  · rw [bcF (b := decide (a < 0)) (decide_eq_false h0)]
    by_cases h1 : c < 0
    · rw [bcT (b := decide (c < 0)) (decide_eq_true h1), decide_eq_false (show ¬ 0 ≤ c by omega), Bool.false_and]; rfl
    · rw [bcF (b := decide (c < 0)) (decide_eq_false h1), decide_eq_true (show 0 ≤ c by omega), Bool.true_and]
      by_cases h2 : a > (n : Int)
      · rw [bcT (b := decide (a > _)) (decide_eq_true h2)]
        have : inD n a c.toNat = false := decide_eq_false (by omega)
        rw [this]; rfl
      · rw [bcF (b := decide (a > _)) (decide_eq_false h2), i64_in (by omega) (by omega)]
        by_cases h3 : c > (n : Int) - a
        · rw [bcT (b := decide (c > _)) (decide_eq_true h3)]
          have : inD n a c.toNat = false := decide_eq_false (by omega)
          rw [this]; rfl
        · rw [bcF (b := decide (c > _)) (decide_eq_false h3)]
          have : inD n a c.toNat = true := decide_eq_true (by omega)
          rw [this, hx]
          have hw : wAC a c = a + c := by unfold wAC; rw [i64_in (by omega) (by omega)]
          unfold xRin
          simp only [Ans.run, Ans.chk]
          rw [hw, bcT (by rw [decide_eq_true (show 0 ≤ a by omega), decide_eq_true (show 0 ≤ a + c by omega), decide_eq_true (by omega)]; rfl), bcT (by rw [decide_eq_true (by omega)]; rfl), show (a + c).toNat - a.toNat = c.toNat by omega]
          rfl
def ask0 (n : Nat) (k : List UInt8) : Bool := decide (k.length = n ∧ 0 < n ∧ n ≤ 1099511627776)
theorem askT_len {n m : Nat} {k : List UInt8} {rows : List (List CV)} (h : askT n m k rows = true) : (layR rows k).length = n ∧ n ≤ 1099511627776 := by
  unfold askT at h
  rw [Bool.and_eq_true] at h
  obtain ⟨h1, h2, h3, _⟩ := of_decide_eq_true h.1
  exact ⟨layR_len h.2 h1, h3⟩
def eRRd : Ent := fun args pre => match args, pre with
  | [.ptr x y, .int .i64 a, .int .i64 c], [.raw (.cells [.vec q n, .nilslice] t), .vecB k d] => .chk (litR x y q t d) (.chk (ask0 n k) (.chk (i64B a) (.chk (i64B c) (rRd n k a c (r0 n k)))))
  | [.ptr x y, .int .i64 a, .int .i64 c], [.raw (.cells [.vec q n, .vec b m] t), .vecB k d, .vecR sh rows ty] => .chk (litR x y q t d) (.chk (litQ b ty sh) (.chk (askT n m k rows) (.chk (i64B a) (.chk (i64B c) (rRd n (layR rows k) a c (r1 n m k rows))))))
  | _, _ => .fail
theorem eRRd_ok : EntOK Try.prog 14 eRRd := fun args pre => by
  unfold eRRd
  split
  · refine ⟨fun g1 => ⟨fun g2 => ⟨fun g3 => ⟨fun g4 => ?_, fun _ => trivial⟩, fun _ => trivial⟩, fun _ => trivial⟩, fun _ => trivial⟩
    obtain ⟨rfl, rfl, rfl, rfl, rfl⟩ := litR_eq g1
    obtain ⟨h1, _, h2⟩ := of_decide_eq_true g2
    exact of_run (ans_comes tTh_ok (cRr0 _ _ _ _)) fun r hr => (xRR_run ⟨h1, h2⟩ g3 g4 rfl).trans hr
  · refine ⟨fun g1 => ⟨fun g2 => ⟨fun g3 => ⟨fun g4 => ⟨fun g5 => ?_, fun _ => trivial⟩, fun _ => trivial⟩, fun _ => trivial⟩, fun _ => trivial⟩, fun _ => trivial⟩
    obtain ⟨rfl, rfl, rfl, rfl, rfl⟩ := litR_eq g1
    obtain ⟨rfl, rfl, rfl⟩ := litQ_eq g2
    exact of_run (ans_comes tTh_ok (cRr1 _ _ _ _ _ _)) fun r hr => (xRR_run (askT_len g3) g4 g5 (by simp only [Ans.run, Ans.chk]; rw [bcT g3])).trans hr
  · trivial
/-- Sync. -/
def r3 (n : Nat) (k l : List UInt8) (rows : List (List CV)) : List PObj := [.raw (.cells [.vec 3 n, .nilslice] rT), .vecB k 5, .vecR shP rows qT, .vecB l 5]
theorem cSr0 (n : Nat) (k : List UInt8) : Comes tTh nolv 28 [.ptr 0 0] (r0 n k) (.ret (.int .i64 0) (r0 n k)) := by unfold Comes; kernel_rfl
theorem cSr1 (n m : Nat) (k : List UInt8) (rows : List (List CV)) : Comes tTh nolv 28 [.ptr 0 0] (r1 n m k rows) (.chk (askT n m k rows) (.ret (.int .i64 0) (r3 n k (layR rows k) rows))) := by unfold Comes; kernel_rfl
def eRSy : Ent := fun args pre => match args, pre with
  | [.ptr x y], [.raw (.cells [.vec q n, .nilslice] t), .vecB k d] => .chk (litR x y q t d) (.ret (.int .i64 0) (r0 n k))
  | [.ptr x y], [.raw (.cells [.vec q n, .vec b m] t), .vecB k d, .vecR sh rows ty] => .chk (litR x y q t d) (.chk (litQ b ty sh) (.chk (askT n m k rows) (.ret (.int .i64 0) (r3 n k (layR rows k) rows))))
  | _, _ => .fail
theorem eRSy_ok : EntOK Try.prog 28 eRSy := fun args pre => by
  unfold eRSy
  split
  · refine ⟨fun g1 => ?_, fun _ => trivial⟩
    obtain ⟨rfl, rfl, rfl, rfl, rfl⟩ := litR_eq g1
    exact ans_comes tTh_ok (cSr0 _ _)
  · refine ⟨fun g1 => ⟨fun g2 => ?_, fun _ => trivial⟩, fun _ => trivial⟩
    obtain ⟨rfl, rfl, rfl, rfl, rfl⟩ := litR_eq g1
    obtain ⟨rfl, rfl, rfl⟩ := litQ_eq g2
    exact ans_comes tTh_ok (cSr1 _ _ _ _)
  · trivial
/-- Write. -/
def ePa : Ent := fun args pre => match args, pre with
  | [.int .i64 a, .str s], [] => .chk (inD 320 a s.length) (.br (parts a.toNat s).isEmpty (.ret .nilslice []) (.ret (.vec 0 (parts a.toNat s).length) [.vecR shP ((parts a.toNat s).map rowOf) qT]))
  | _, _ => .fail
theorem ePa_ok : EntOK Try.prog 26 ePa := fun args pre => by
  unfold ePa
  split
  · exact ans_comes .nil (cPa _ _) lvP_ok
  · trivial
def tPa : Tab := [(26, ePa)]
theorem tPa_ok : TabOK Try.prog tPa := .cons ePa_ok .nil
def r2 (n m : Nat) (k : List UInt8) (rows : List (List CV)) : List PObj := [.raw (.cells [.vec 1 n, .vec 3 m] rT), .vecB k 5, .raw .dead, .vecR shP rows qT]
def xWR (n : Nat) (a : Int) (s : List UInt8) (post : List PObj) (x y : Ans) : Ans :=
  .br (decide (a < 0)) (.ret (.int .i64 260) post) (.br (decide (a > (n : Int))) (.ret (.int .i64 260) post) (.br (decide ((s.length : Int) > IntKind.i64.wrap ((n : Int) - a))) (.ret (.int .i64 260) post) (.chk (inD 320 a s.length) (.br (parts a.toNat s).isEmpty x y))))
def pl (a : Int) (s : List UInt8) : Nat := (parts a.toNat s).length
def pr (a : Int) (s : List UInt8) : List (List CV) := (parts a.toNat s).map rowOf
theorem cWr0 (n : Nat) (k : List UInt8) (a : Int) (s : List UInt8) : Comes tPa nolv 27 [.ptr 0 0, .int .i64 a, .str s] (r0 n k)
    (xWR n a s (r0 n k) (.ret (.int .i64 0) (r0 n k)) (.br (decide (0 < pl a s)) (.chk (decide (pl a s ≤ (pr a s).length) && roomB (pl a s) 24) (.ret (.int .i64 0) (r1 n (pl a s) k (List.take (pl a s) (pr a s))))) (.chk (decide (pl a s ≤ (pr a s).length)) (.ret (.int .i64 0) (r0 n k))))) := by unfold Comes; kernel_rfl
theorem cWr1 (n m : Nat) (k : List UInt8) (rows : List (List CV)) (a : Int) (s : List UInt8) : Comes tPa nolv 27 [.ptr 0 0, .int .i64 a, .str s] (r1 n m k rows)
    (xWR n a s (r1 n m k rows) (.chk ((true && decide (rows.length * 2 = m * 2)) && roomB (m + 0) 24) (.ret (.int .i64 0) (r2 n (m + 0) k (rows ++ [])))) (.chk ((decide (pl a s ≤ (pr a s).length) && decide (rows.length * 2 = m * 2)) && roomB (m + pl a s) 24) (.ret (.int .i64 0) (r2 n (m + pl a s) k (rows ++ List.take (pl a s) (pr a s)))))) := by unfold Comes; kernel_rfl
/-- What is told of a write. -/
def wRd (n : Nat) (a : Int) (s : List UInt8) (post x y : List PObj) : Ans := .br (inD n a s.length) (.br s.isEmpty (.ret (.int .i64 0) x) (.ret (.int .i64 0) y)) (.ret (.int .i64 260) post)
theorem parts_emp {a : Nat} {s : List UInt8} : (parts a s).isEmpty = s.isEmpty := by
  cases s with
  | nil => rfl
  | cons c s => rw [parts_cons (by simp)]; rfl
theorem xWR_run {n : Nat} {a : Int} {s : List UInt8} {post px py : List PObj} {x y : Ans} (hn : n ≤ 320) (ha : i64B a = true) (hs : s.length ≤ 1099511627776)
    (hx : inD n a s.length = true → s.isEmpty = true → x.run pure2 = some (.int .i64 0, px)) (hy : inD n a s.length = true → s.isEmpty = false → y.run pure2 = some (.int .i64 0, py)) : (xWR n a s post x y).run pure2 = (wRd n a s post px py).run pure2 := by
  have ha' := i64B_of ha
  unfold xWR wRd
  simp only [Ans.run, Ans.chk]
  by_cases h0 : a < 0
  · rw [bcT (b := decide (a < 0)) (decide_eq_true h0)]
    have : inD n a s.length = false := decide_eq_false (by omega)
    rw [this]; rfl
  · rw [bcF (b := decide (a < 0)) (decide_eq_false h0)]
    by_cases h2 : a > (n : Int)
    · rw [bcT (b := decide (a > _)) (decide_eq_true h2)]
      have : inD n a s.length = false := decide_eq_false (by omega)
      rw [this]; rfl
    · rw [bcF (b := decide (a > _)) (decide_eq_false h2), i64_in (by omega) (by omega)]
      by_cases h3 : (s.length : Int) > (n : Int) - a
      · rw [bcT (b := decide (_ > _)) (decide_eq_true h3)]
        have : inD n a s.length = false := decide_eq_false (by omega)
        rw [this]; rfl
      · rw [bcF (b := decide (_ > _)) (decide_eq_false h3)]
        have h4 : inD n a s.length = true := decide_eq_true (by omega)
        have h5 : inD 320 a s.length = true := decide_eq_true (by omega)
        rw [h4, bcT h5, parts_emp]
        cases he : s.isEmpty with
        | true => exact hx h4 he
        | false => exact hy h4 he
theorem pl_pos {a : Int} {s : List UInt8} (h : s.isEmpty = false) : 0 < pl a s := by
  unfold pl
  rw [← parts_emp (a := a.toNat)] at h
  cases hp : parts a.toNat s with
  | nil => rw [hp] at h; cases h
  | cons p ps => simp
theorem pr_len (a : Int) (s : List UInt8) : (pr a s).length = pl a s := by unfold pr pl; rw [List.length_map]
theorem pr_take (a : Int) (s : List UInt8) : List.take (pl a s) (pr a s) = pr a s := List.take_of_length_le (by rw [pr_len]; omega)
theorem pl_le {a : Int} {s : List UInt8} {n : Nat} (h : inD n a s.length = true) (hn : n ≤ 320) : pl a s ≤ 320 := by
  have h := of_decide_eq_true h
  have := parts_len s.length a.toNat s (Nat.le_refl _)
  unfold pl; omega
def wOk (n : Nat) (a : Int) (s : List UInt8) : Bool := decide (n ≤ 320 ∧ s.length ≤ 1099511627776) && i64B a
def eRWr : Ent := fun args pre => match args, pre with
  | [.ptr x y, .int .i64 a, .str s], [.raw (.cells [.vec q n, .nilslice] t), .vecB k d] => .chk (litR x y q t d) (.chk (wOk n a s) (wRd n a s (r0 n k) (r0 n k) (r1 n (pl a s) k (pr a s))))
  | [.ptr x y, .int .i64 a, .str s], [.raw (.cells [.vec q n, .vec b m] t), .vecB k d, .vecR sh rows ty] => .chk (litR x y q t d) (.chk (litQ b ty sh) (.chk (wOk n a s) (.chk (decide (rows.length = m ∧ m ≤ 1099511627776)) (wRd n a s (r1 n m k rows) (r2 n m k rows) (r2 n (m + pl a s) k (rows ++ pr a s))))))
  | _, _ => .fail
theorem eRWr_ok : EntOK Try.prog 27 eRWr := fun args pre => by
  unfold eRWr
  split
  · refine ⟨fun g1 => ⟨fun g2 => ?_, fun _ => trivial⟩, fun _ => trivial⟩
    obtain ⟨rfl, rfl, rfl, rfl, rfl⟩ := litR_eq g1
    unfold wOk at g2
    rw [Bool.and_eq_true] at g2
    obtain ⟨h1, h2⟩ := of_decide_eq_true g2.1
    refine of_run (ans_comes tPa_ok (cWr0 _ _ _ _)) fun r hr => (xWR_run h1 g2.2 h2 (fun _ _ => rfl) (fun hi he => ?_)).trans hr
    have h3 := fun b => pl_pos (a := b) he
    have h4 := pl_le hi h1
    simp only [Ans.run, Ans.chk]
    rw [bcT (b := decide (0 < _)) (decide_eq_true (h3 _)), bcT (by rw [pr_len, decide_eq_true (Nat.le_refl _), Bool.true_and]; exact decide_eq_true (by omega)), pr_take]
    rfl
  · refine ⟨fun g1 => ⟨fun g2 => ⟨fun g3 => ⟨fun g4 => ?_, fun _ => trivial⟩, fun _ => trivial⟩, fun _ => trivial⟩, fun _ => trivial⟩
    obtain ⟨rfl, rfl, rfl, rfl, rfl⟩ := litR_eq g1
    obtain ⟨rfl, rfl, rfl⟩ := litQ_eq g2
    unfold wOk at g3
    rw [Bool.and_eq_true] at g3
    obtain ⟨h1, h2⟩ := of_decide_eq_true g3.1
    obtain ⟨rfl, h5⟩ := of_decide_eq_true g4
    refine of_run (ans_comes tPa_ok (cWr1 _ _ _ _ _ _)) fun r hr => (xWR_run h1 g3.2 h2 (fun _ _ => ?_) (fun hi he => ?_)).trans hr
    · simp only [Ans.run, Ans.chk]
      rw [bcT (by simp only [decide_true, Bool.true_and]; exact decide_eq_true (by omega)), List.append_nil]
      rfl
    · have h4 := pl_le hi h1
      simp only [Ans.run, Ans.chk]
      rw [bcT (by rw [pr_len, decide_eq_true (Nat.le_refl _)]; simp only [decide_true, Bool.true_and]; exact decide_eq_true (by omega)), pr_take]
      rfl
  · trivial
end Go.Proofs.Ytoekeplljjaehaa

/- Layer 26: new disks, the program's and the document's. -/
set_option linter.unusedVariables false
set_option linter.unusedSimpArgs false
namespace Go.Proofs.Ytoekeplljjaehaa
open Go Sx
theorem meets_vecNew {f : FuncId} {args : List AV} {n : Nat} {T : TypeId} {l : List UInt8} (hl : l.length = n) (h : Meets Try.prog f args [] (.tuple [.ptr 0 0, .int .i64 0]) [.cells [.slice 1 0 n n, .nilslice] T, .cells (u8s l) 5]) :
    Meets Try.prog f args [] (.tuple [.ptr 0 0, .int .i64 0]) [.cells [.vec 1 n, .nilslice] T, .vec (u8s l) 5 1] := by
  intro w E xs hxs hp
  refine (h w E xs hxs hp).mono ?_
  rintro e w' ⟨E', x, he, hd, hq⟩
  obtain ⟨b1, c1, e1, ob1⟩ := hq.objs 1 _ rfl
  obtain ⟨b0, c0, e0, ob0⟩ := hq.objs 0 _ rfl
  let E2 : Env := fun m => if m = 1 then some (b1, { n := n }) else E' m
  have h20 : E2 0 = some (b0, c0) := e0
  have h21 : E2 1 = some (b1, { n := n }) := rfl
  have back : ∀ (m b : Nat) (c : Cap), E2 m = some (b, c) → (m = 1 ∧ b = b1 ∧ c = { n := n }) ∨ (m ≠ 1 ∧ E' m = some (b, c)) := fun m b c hm => by
    by_cases e : m = 1
    · subst e; rw [h21] at hm; cases hm; exact .inl ⟨rfl, rfl, rfl⟩
    · have : E2 m = E' m := by simp [E2, e]
      rw [this] at hm; exact .inr ⟨e, hm⟩
  refine ⟨E2, x, he, ?_, ?_⟩
  · have hd' : den E' (.tuple [.ptr 0 0, .int .i64 0]) = some x := hd
    simp only [den, denL, e0, Option.map_some] at hd'
    simp only [den, denL, h20, Option.map_some]
    exact hd'
  · exact {
      le := fun m p hm => by rw [hp.fresh m (Nat.zero_le _)] at hm; cases hm
      cut := fun m hm => by
        have : m ≠ 1 := by rintro rfl; simp at hm
        have e : E2 m = E' m := by simp [E2, this]
        rw [e]; exact hq.cut m hm
      objs := fun m o hm => by
        match m, hm with
        | 0, hm =>
          simp at hm; subst hm
          obtain ⟨ys, hy, hw⟩ := ob0
          refine ⟨b0, c0, h20, ys, ⟨?_, hy.2⟩, hw⟩
          have hy1 := hy.1
          simp only [denL, den, e1, h21, Option.map_some, Option.bind_some] at hy1 ⊢
          rw [if_pos (by simp)]
          exact hy1
        | 1, hm =>
          simp at hm; subst hm
          obtain ⟨ys, hy, hw⟩ := ob1
          have hyl : ys.length = n := (denC_length hy).trans (by rw [u8s_length]; exact hl)
          have hE : denC E2 (u8s l) ys := by
            have e2 : ys = l.map fun b => Value.int .u8 b.toNat := by have := hy.1; rw [denL_u8s] at this; exact (Option.some.inj this).symm
            rw [e2]; exact denC_u8s l
          exact ⟨b1, _, h21, ys, [], hE, ⟨(0, 0), by rw [List.append_nil]; exact hw, .inl rfl⟩, by rw [List.append_nil, hyl, Nat.mul_one], rfl, rfl⟩
        | m + 2, hm => simp at hm
      made := fun m b c o h1 h2 h3 h4 => by
        match m, h2 with
        | 0, h2 => rw [h20] at h3; cases h3; exact (hq.made 0 b0 c0 _ (Nat.zero_le _) rfl e0 rfl).imp id fun ⟨j, _, _, g, _⟩ => by simp at g
        | 1, h2 => rw [h21] at h3; cases h3; exact (hq.made 1 b1 c1 _ (Nat.zero_le _) rfl e1 rfl).imp id fun ⟨j, _, _, g, _⟩ => by simp at g
        | m + 2, h2 => simp at h2
      bare := fun m b c h1 h2 => by
        rcases back m b c h2 with ⟨_, _, rfl⟩ | ⟨_, h3⟩
        · exact Cap.bare_of fun _ _ => rfl
        · exact hq.bare m b c h1 h3
      keep := hq.keep
      newApart := fun m m' o o' b c b' c' h1 h2 g1 g2 g3 g4 g5 g6 g7 => by
        have key := hq.newApart 0 1 _ _ b0 c0 b1 c1 (Nat.zero_le _) (Nat.zero_le _) rfl rfl rfl rfl e0 e1 (by decide)
        have hne : b0 ≠ b1 := fun e => key e
        match m, m', g1, g2 with
        | 0, 0, _, _ => exact absurd rfl g7
        | 1, 1, _, _ => exact absurd rfl g7
        | 0, 1, g1, g2 => simp at g2; subst g2; rw [h20] at g5; cases g5; rw [h21] at g6; cases g6; exact hne
        | 1, 0, g1, g2 => simp at g2; subst g2; rw [h21] at g5; cases g5; rw [h20] at g6; cases g6; exact fun e => hne e.symm
        | m + 2, _, g1, _ => simp at g1
        | _, m' + 2, _, g2 => simp at g2
      grow := hq.grow, os := hq.os, tape := hq.tape, output := hq.output }
/-- Sizes that a disk may have. -/
def okN (a : Int) : Bool := decide (64 ≤ a ∧ a ≤ 65536 ∧ a.tmod 64 = 0)
def zB (a : Int) : List UInt8 := List.replicate a.toNat 0
def xNew (a : Int) (x y : Ans) : Ans := .br (decide (a < 64)) x (.br (decide (a > 65536)) x (.br (a.tmod 64 != 0) x y))
def mkA (a : Int) : Bool := decide (0 ≤ a ∧ a ≤ a ∧ a * ((1 : Nat) : Int) ≤ 281474976710656 ∧ a < 9223372036854775808)
theorem cNd (a : Int) : Comes [] nolv 18 [.int .i64 a] [] (xNew a (.ret (.tuple [.nilptr, .int .i64 2]) []) (.chk (mkA a) (.chk (mkA a) (.ret (.tuple [.ptr 0 0, .int .i64 0]) (dk0 a.toNat (zB a) (zB a)))))) := by unfold Comes; kernel_rfl
theorem cNr (a : Int) : Comes [] nolv 19 [.int .i64 a] [] (xNew a (.ret (.tuple [.nilptr, .int .i64 2]) []) (.chk (mkA a) (.ret (.tuple [.ptr 0 0, .int .i64 0]) [.raw (.cells [.slice 1 0 a.toNat a.toNat, .nilslice] rT), .arrB (zB a) 5]))) := by unfold Comes; kernel_rfl
theorem xNew_run {a : Int} {x y z : Ans} (h : okN a = true → y.run pure2 = z.run pure2) : (xNew a x y).run pure2 = (Ans.br (okN a) z x).run pure2 := by
  unfold xNew
  simp only [Ans.run]
  by_cases h0 : a < 64
  · rw [bcT (b := decide (a < 64)) (decide_eq_true h0), bcF (b := okN a) (decide_eq_false (by omega))]
  · rw [bcF (b := decide (a < 64)) (decide_eq_false h0)]
    by_cases h1 : a > 65536
    · rw [bcT (b := decide (a > 65536)) (decide_eq_true h1), bcF (b := okN a) (decide_eq_false (by omega))]
    · rw [bcF (b := decide (a > 65536)) (decide_eq_false h1)]
      by_cases h2 : a.tmod 64 = 0
      · have : okN a = true := decide_eq_true ⟨by omega, by omega, h2⟩
        rw [bcF (b := a.tmod 64 != 0) (by rw [h2]; rfl), bcT this, h this]
      · rw [bcT (b := a.tmod 64 != 0) (by simpa using h2), bcF (b := okN a) (decide_eq_false fun h => h2 h.2.2)]
theorem mkA_of {a : Int} (h : okN a = true) : mkA a = true := by
  have h := of_decide_eq_true h
  exact decide_eq_true (by omega)
def eNewD : Ent := fun args pre => match args, pre with
  | [.int .i64 a], [] => .br (okN a) (.ret (.tuple [.ptr 0 0, .int .i64 0]) (dk0 a.toNat (zB a) (zB a))) (.ret (.tuple [.nilptr, .int .i64 2]) [])
  | _, _ => .fail
theorem eNewD_ok : EntOK Try.prog 18 eNewD := fun args pre => by
  unfold eNewD
  split
  · exact of_run (ans_comes .nil (cNd _)) fun r hr => (xNew_run fun h => by simp only [Ans.run, Ans.chk]; rw [bcT (mkA_of h), bcT (mkA_of h)]).trans hr
  · trivial
def eNewR : Ent := fun args pre => match args, pre with
  | [.int .i64 a], [] => .br (okN a) (.ret (.tuple [.ptr 0 0, .int .i64 0]) (r0 a.toNat (zB a))) (.ret (.tuple [.nilptr, .int .i64 2]) [])
  | _, _ => .fail
theorem eNewR_ok : EntOK Try.prog 19 eNewR := fun args pre => by
  unfold eNewR
  split
  · rename_i a
    have h : AnsOK Try.prog 19 [.int .i64 a] [] (.br (okN a) (.ret (.tuple [.ptr 0 0, .int .i64 0]) [.raw (.cells [.slice 1 0 a.toNat a.toNat, .nilslice] rT), .arrB (zB a) 5]) (.ret (.tuple [.nilptr, .int .i64 2]) [])) :=
      of_run (ans_comes .nil (cNr a)) fun r hr => (xNew_run fun h => by simp only [Ans.run, Ans.chk]; rw [bcT (mkA_of h)]).trans hr
    exact ⟨fun h1 => meets_vecNew (by unfold zB; rw [List.length_replicate]) (h.1 h1), h.2⟩
  · trivial
/-- Of a size that a disk may have. -/
def eNewD' : Ent := fun args pre => match args, pre with
  | [.int .i64 a], [] => .chk (okN a) (.ret (.tuple [.ptr 0 0, .int .i64 0]) (dk0 a.toNat (zB a) (zB a)))
  | _, _ => .fail
theorem eNewD'_ok : EntOK Try.prog 18 eNewD' := fun args pre => by
  have h := eNewD_ok args pre
  unfold eNewD at h
  unfold eNewD'
  split
  · exact ⟨h.1, fun _ => trivial⟩
  · trivial
def eNewR' : Ent := fun args pre => match args, pre with
  | [.int .i64 a], [] => .chk (okN a) (.ret (.tuple [.ptr 0 0, .int .i64 0]) (r0 a.toNat (zB a)))
  | _, _ => .fail
theorem eNewR'_ok : EntOK Try.prog 19 eNewR' := fun args pre => by
  have h := eNewR_ok args pre
  unfold eNewR at h
  unfold eNewR'
  split
  · exact ⟨h.1, fun _ => trivial⟩
  · trivial
end Go.Proofs.Ytoekeplljjaehaa

/- Layer 26: the document's own crash: the rounds. -/
set_option linter.unusedVariables false
set_option linter.unusedSimpArgs false
namespace Go.Proofs.Ytoekeplljjaehaa
open Go Sx
noncomputable abbrev loopQ1 : Code := (loopBodies (bodyOf Try.f29)).headD .skip
def qk (n m : Nat) (l : List Int) (k : List UInt8) (rows : List (List CV)) : List (Option PObj) := [some (.raw (.cells [.vec 2 n, .vec 3 m] rT)), some (.flatI false l), some (.vecB k 5), some (.vecR shP rows qT)]
def slQ (len m : Nat) (v : AV) (i : Int) : List (Option AV) := some (.ptr 0 0) :: some (.dsl 1 len) :: none :: none :: none :: some (.slice 4 0 m m) :: some v :: some (.int .i64 i) :: List.replicate 72 none
def sQ0 (n m len : Nat) (l : List Int) (k : List UInt8) (rows : List (List CV)) (tk : List Bool) : PState := ⟨slQ len m (.vec 2 n) 0, qk n m l k rows ++ some (.arrT tk 4) :: List.replicate 64 none⟩
def sQV (n m len : Nat) (l : List Int) (k : List UInt8) (rows : List (List CV)) (tk : List Bool) (L : List UInt8) (i : Int) : PState := ⟨slQ len m (.vec 5 n) i, qk n m l k rows ++ some (.arrT tk 4) :: some (.vecB L 5) :: List.replicate 64 none⟩
def sQX (n m : Nat) (l : List Int) (k : List UInt8) (rows : List (List CV)) (L : List UInt8) : PState := ⟨some (.ptr 0 0) :: none :: none :: none :: none :: none :: some (.vec 4 n) :: List.replicate 73 none, qk n m l k rows ++ some (.vecB L 5) :: List.replicate 64 none⟩
def sQX0 (n m : Nat) (l : List Int) (k : List UInt8) (rows : List (List CV)) : PState := ⟨some (.ptr 0 0) :: none :: none :: none :: none :: none :: some (.vec 2 n) :: List.replicate 73 none, qk n m l k rows ++ List.replicate 64 none⟩
def sQR0 (n m : Nat) (l : List Int) (k : List UInt8) (rows : List (List CV)) : PState := ⟨some (.ptr 0 0) :: none :: none :: none :: some (.int .i64 261) :: none :: some (.vec 2 n) :: List.replicate 73 none, qk n m l k rows ++ List.replicate 64 none⟩
def sQR (n m : Nat) (l : List Int) (k : List UInt8) (rows : List (List CV)) (L : List UInt8) : PState := ⟨some (.ptr 0 0) :: none :: none :: none :: some (.int .i64 261) :: none :: some (.vec 4 n) :: List.replicate 73 none, qk n m l k rows ++ some (.vecB L 5) :: List.replicate 64 none⟩
def aRow (rows : List (List CV)) (q : Int) : Int := (rowCV (Sx.rowAt rows q.toNat) 0).n
def sRow (rows : List (List CV)) (q : Int) : List UInt8 := (rowCV (Sx.rowAt rows q.toNat) 1).s
/-- A round, the number told. -/
def tailQ {α : Type} (n m len : Nat) (l : List Int) (rows : List (List CV)) (tk : List Bool) (L : List UInt8) (i q : Int) (nx : List Bool → List UInt8 → Option α) (ret : Option α) : Option α :=
  bcond (decide (q ≥ (m : Int))) ret (chks (bcond (gtB q tk) ret (chks (bcond (decide (xK l i < 0))
      (chks (nx (tk.set (0 + q.toNat * 1) true) (splice (aRow rows q).toNat (loS (hfI (sRow rows q)) (sRow rows q)) L)) [slB (hfI (sRow rows q)) (sRow rows q), vecN n L && inD n (aRow rows q) (loS (hfI (sRow rows q)) (sRow rows q)).length])
      (chks (nx (tk.set (0 + q.toNat * 1) true) (splice (aRow rows q).toNat (sRow rows q) L)) [vecN n L && inD n (aRow rows q) (sRow rows q).length]))
    [ixm q m, lnB q tk, ixm q m, decide (q.toNat < rows.length) && true && true, bF i len, lnL i l])) [ixm q m, lnB q tk])
def roundQ {α : Type} (n m len : Nat) (l : List Int) (rows : List (List CV)) (tk : List Bool) (L : List UInt8) (i : Int) (nx : List Bool → List UInt8 → Option α) (ret ex : Option α) : Option α :=
  bcond (decide (i < (len : Int))) (chks (bcond (decide (xK l i < 0)) (tailQ n m len l rows tk L i (IntKind.i64.wrap (-1 - xK l i)) nx ret) (tailQ n m len l rows tk L i (xK l i) nx ret)) [bF i len, lnL i l]) ex
set_option maxRecDepth 100000 in
theorem rQ0 (n m len : Nat) (l : List Int) (k : List UInt8) (rows : List (List CV)) (tk : List Bool) : code (ent Try.prog tLa nolv 64 1 20) Try.prog {} 4 64 1 loopQ1 (sQ0 n m len l k rows tk) (endK 4 64 (fun n => hasN [0, 1, 5, 6, 7] n) (fun n => hasN [0, 4, 6] n))
  = roundQ n m len l rows tk k 0 (fun t L => some (.normal, sQV n m len l k rows t L (iN 0))) (some (.ret, sQR0 n m l k rows)) (some (.exit 0, sQX0 n m l k rows)) := by kernel_rfl
theorem rQV (n m len : Nat) (l : List Int) (k : List UInt8) (rows : List (List CV)) (tk : List Bool) (L : List UInt8) (i : Int) : code (ent Try.prog tLa nolv 64 1 20) Try.prog {} 4 64 1 loopQ1 (sQV n m len l k rows tk L i) (endK 4 64 (fun n => hasN [0, 1, 5, 6, 7] n) (fun n => hasN [0, 4, 6] n))
  = roundQ n m len l rows tk L i (fun t L => some (.normal, sQV n m len l k rows t L (iN i))) (some (.ret, sQR n m l k rows L)) (some (.exit 0, sQX n m l k rows L)) := by kernel_rfl
end Go.Proofs.Ytoekeplljjaehaa

/- Layer 26: the document's own crash: all rounds. -/
set_option linter.unusedVariables false
set_option linter.unusedSimpArgs false
namespace Go.Proofs.Ytoekeplljjaehaa
open Go Sx
theorem iN_big {j : Nat} (h : j < 9223372036854775807) : iN (j : Int) = ((j + 1 : Nat) : Int) := by unfold iN; rw [i64_in (by omega) (by omega)]; rfl
def ok1 (m : Nat) (tk : List Bool) (x : Int) : Bool := ixm (nmI x) m && !(gtB (nmI x) tk)
theorem nmI_ge0 {x : Int} (h : i64B x = true) : 0 ≤ nmI x := by
  have := i64B_of h
  unfold nmI
  split
  · rw [i64_in (by omega) (by omega)]; omega
  · omega
theorem tailQ_ok {α : Type} {n m len j : Nat} {l : List Int} {rows : List (List CV)} {tk : List Bool} {L : List UInt8} {nx : List Bool → List UInt8 → Option α} {ret : Option α} (hn : 0 < n ∧ n ≤ 1099511627776) (hm : rows.length = m) (hr : rowsB n rows = true) (hL : L.length = n) (htk : tk.length = m)
    (hj : j < len) (hl : l.length = len) (hx : i64B (l.getD j 0) = true) : tailQ n m len l rows tk L (j : Int) (nmI (l.getD j 0)) nx ret = bcond (ok1 m tk (l.getD j 0)) (nx (tk.set (0 + (nmI (l.getD j 0)).toNat * 1) true) (layX rows (l.getD j 0) L)) ret := by
  have h0 := nmI_ge0 hx
  unfold tailQ ok1
  by_cases hq : nmI (l.getD j 0) ≥ (m : Int)
  · have e : ixm (nmI (l.getD j 0)) m = false := decide_eq_false (by omega)
    rw [bcT (b := decide _) (decide_eq_true hq), e]; rfl
  · have e : ixm (nmI (l.getD j 0)) m = true := decide_eq_true (by omega)
    have e2 : lnB (nmI (l.getD j 0)) tk = true := decide_eq_true (by omega)
    have e3 : bF (j : Int) len = true := decide_eq_true (by omega)
    have e4 : lnL (j : Int) l = true := decide_eq_true (by simp only [Int.toNat_natCast]; omega)
    have hin : (nmI (l.getD j 0)).toNat < rows.length := by omega
    have e5 : (decide ((nmI (l.getD j 0)).toNat < rows.length) && true && true) = true := by rw [decide_eq_true hin]; rfl
    obtain ⟨p1, p2⟩ := rowsB_at hr hin
    rw [bcF (b := decide _) (decide_eq_false hq), e, chks_true (bs := [_, _]) (by
      intro b hb
      simp only [List.mem_cons, List.not_mem_nil, or_false] at hb
      rcases hb with rfl | rfl
      · rfl
      · exact e2)]
    cases hg : gtB (nmI (l.getD j 0)) tk with
    | true => rfl
    | false =>
      rw [bcF rfl, chks_true (bs := [_, _, _, _, _, _]) (by
        intro b hb
        simp only [List.mem_cons, List.not_mem_nil, or_false] at hb
        rcases hb with rfl | rfl | rfl | rfl | rfl | rfl
        · rfl
        · exact e2
        · rfl
        · exact e5
        · exact e3
        · exact e4), xK_nat]
      have ev : vecN n L = true := decide_eq_true ⟨hL, hn⟩
      show _ = nx _ _
      unfold layX
      by_cases hneg : l.getD j 0 < 0
      · have es : loS (hfI (sRow rows (nmI (l.getD j 0)))) (sRow rows (nmI (l.getD j 0))) = (sRow rows (nmI (l.getD j 0))).take ((sRow rows (nmI (l.getD j 0))).length / 2) := by
          rw [hfI_nat (by unfold sRow; omega)]; rfl
        rw [bcT (b := decide _) (decide_eq_true hneg), if_pos hneg, es, chks_true (bs := [_, _]) (by
          intro b hb
          simp only [List.mem_cons, List.not_mem_nil, or_false] at hb
          rcases hb with rfl | rfl
          · rw [hfI_nat (by unfold sRow; omega)]; exact decide_eq_true ⟨by omega, by simp only [Int.toNat_natCast]; omega⟩
          · rw [ev, Bool.true_and]; exact decide_eq_true ⟨p1, by rw [List.length_take]; unfold aRow sRow; omega⟩)]
        rfl
      · rw [bcF (b := decide _) (decide_eq_false hneg), if_neg hneg, chks_true (bs := [_]) (by
          intro b hb
          rw [List.mem_singleton.1 hb, ev, Bool.true_and]; exact decide_eq_true ⟨p1, p2⟩)]
        rfl
theorem roundQ_ok {α : Type} {n m len j : Nat} {l : List Int} {rows : List (List CV)} {tk : List Bool} {L : List UInt8} {nx : List Bool → List UInt8 → Option α} {ret ex : Option α} (hn : 0 < n ∧ n ≤ 1099511627776) (hm : rows.length = m) (hr : rowsB n rows = true) (hL : L.length = n) (htk : tk.length = m)
    (hj : j < len) (hl : l.length = len) (hx : i64B (l.getD j 0) = true) : roundQ n m len l rows tk L (j : Int) nx ret ex = bcond (ok1 m tk (l.getD j 0)) (nx (tk.set (0 + (nmI (l.getD j 0)).toNat * 1) true) (layX rows (l.getD j 0) L)) ret := by
  have e3 : bF (j : Int) len = true := decide_eq_true (by omega)
  have e4 : lnL (j : Int) l = true := decide_eq_true (by simp only [Int.toNat_natCast]; omega)
  unfold roundQ
  rw [bcT (b := decide ((j : Int) < _)) (decide_eq_true (by omega)), chks_true (bs := [_, _]) (by
    intro b hb
    simp only [List.mem_cons, List.not_mem_nil, or_false] at hb
    rcases hb with rfl | rfl
    · exact e3
    · exact e4), xK_nat]
  have key := tailQ_ok (nx := nx) (ret := ret) hn hm hr hL htk hj hl hx
  by_cases hneg : l.getD j 0 < 0
  · rw [bcT (b := decide _) (decide_eq_true hneg)]
    have : nmI (l.getD j 0) = IntKind.i64.wrap (-1 - l.getD j 0) := by unfold nmI; rw [if_pos hneg]
    rw [← this]; exact key
  · rw [bcF (b := decide _) (decide_eq_false hneg)]
    have : nmI (l.getD j 0) = l.getD j 0 := by unfold nmI; rw [if_neg hneg]
    rw [this] at key ⊢
    exact key
/-- What was laid till a number was refused. -/
def refL (m : Nat) (rows : List (List CV)) : List Bool → List Int → List UInt8 → List UInt8
  | _, [], L => L
  | tk, x :: xs, L => if ok1 m tk x then refL m rows (tk.set (0 + (nmI x).toNat * 1) true) xs (layX rows x L) else L
theorem okK_cons (m : Nat) (tk : List Bool) (x : Int) (xs : List Int) : okK m tk (x :: xs) = (ok1 m tk x && okK m (tk.set (0 + (nmI x).toNat * 1) true) xs) := by
  unfold ok1; simp only [okK, Bool.and_assoc]
def outQ (n m : Nat) (l : List Int) (k : List UInt8) (rows : List (List CV)) (j : Nat) (tk : List Bool) (L : List UInt8) : Ex × PState :=
  bcond (okK m tk (l.drop j)) (.exit 0, sQX n m l k rows (layAll rows (l.drop j) L)) (bcond (Nat.beq j 0 && !(ok1 m tk (l.getD 0 0))) (.ret, sQR0 n m l k rows) (.ret, sQR n m l k rows (refL m rows tk (l.drop j) L)))
theorem loopQ {n m len : Nat} {l : List Int} {k : List UInt8} {rows : List (List CV)} (hn : 0 < n ∧ n ≤ 1099511627776) (hm : rows.length = m) (hr : rowsB n rows = true) (hk : k.length = n) (hl : l.length = len) (h0 : 0 < len ∧ len ≤ 9223372036854775807) (hx : ∀ x ∈ l, i64B x = true) (tk : List Bool) (htk : tk.length = m) :
    Tri Try.prog (.loop loopQ1) (sQ0 n m len l k rows tk).toA (outQ n m l k rows 0 tk k).1 (outQ n m l k rows 0 tk k).2.toA 4 := by
  have key := loop_rounds (ent_sound (T := tLa) tLa_ok host nolv_ok (NF := 64) (m := 1) 20) (NF := 64) (m := 1) (x := loopQ1) (K := 4) loops_none (fun n => hasN [0, 1, 5, 6, 7] n) (fun n => hasN [0, 4, 6] n) (ι := { w : Nat × List Bool × List UInt8 // w.1 ≤ l.length ∧ w.2.1.length = m ∧ w.2.2.length = n ∧ (w.1 = 0 → w.2.2 = k) })
    (fun w => match w.1.1 with | 0 => sQ0 n m len l k rows w.1.2.1 | j + 1 => sQV n m len l k rows w.1.2.1 w.1.2.2 ((j + 1 : Nat) : Int)) (fun w => l.length - w.1.1) (fun w => outQ n m l k rows w.1.1 w.1.2.1 w.1.2.2) ?_ ?_ ⟨(0, tk, k), Nat.zero_le _, htk, hk, fun _ => rfl⟩
  · exact key
  · rintro ⟨⟨j, tk, L⟩, h1, h2, h3, h4⟩
    simp only at h1 h2 h3 h4
    have xin : ∀ j, j < l.length → i64B (l.getD j 0) = true := fun j hj => hx _ (by rw [List.getD_eq_getElem?_getD, List.getElem?_eq_getElem hj]; exact List.getElem_mem hj)
    have step : ∀ j (tk : List Bool) (L : List UInt8), j < l.length → ok1 m tk (l.getD j 0) = true → outQ n m l k rows (j + 1) (tk.set (0 + (nmI (l.getD j 0)).toNat * 1) true) (layX rows (l.getD j 0) L) = outQ n m l k rows j tk L := fun j tk L hj ho => by
      unfold outQ
      rw [getD_drop hj, okK_cons, ho, Bool.true_and]
      have e : (Nat.beq (j + 1) 0) = false := rfl
      have e2 : (Nat.beq j 0 && !ok1 m tk (l.getD 0 0)) = false := by
        cases j with
        | zero => rw [ho]; rfl
        | succ j => rfl
      rw [e, e2]
      simp only [layAll, refL, ho, if_true, Bool.false_and]
    have bad : ∀ j (tk : List Bool) (L : List UInt8), j < l.length → ok1 m tk (l.getD j 0) = false → okK m tk (l.drop j) = false ∧ refL m rows tk (l.drop j) L = L := fun j tk L hj ho => by
      rw [getD_drop hj, okK_cons, ho]
      exact ⟨rfl, by simp only [refL, ho, Bool.false_eq_true, if_false]⟩
    cases j with
    | zero =>
      obtain rfl := h4 rfl
      have hj : 0 < l.length := by omega
      have hq := roundQ_ok (j := 0) (nx := fun t L' => some (Ex.normal, sQV n m len l L rows t L' (iN 0))) (ret := some (Ex.ret, sQR0 n m l L rows)) (ex := some (Ex.exit 0, sQX0 n m l L rows)) hn hm hr h3 h2 h0.1 hl (xin 0 hj)
      have e : iN 0 = ((0 + 1 : Nat) : Int) := iN_big (j := 0) (by omega)
      cases ho : ok1 m tk (l.getD 0 0) with
      | true =>
        refine .inl ⟨⟨(1, tk.set (0 + (nmI (l.getD 0 0)).toNat * 1) true, layX rows (l.getD 0 0) L), hj, by simp only [List.length_set]; exact h2, layX_len hr (by rw [hm]; unfold ok1 at ho; rw [Bool.and_eq_true] at ho; exact ho.1) h3, fun e => by cases e⟩, by simp only; omega, step 0 tk L hj ho, ?_⟩
        refine (rQ0 n m len l L rows tk).trans (hq.trans ?_)
        rw [ho, bcT rfl, e]
      | false =>
        refine .inr ?_
        refine (rQ0 n m len l L rows tk).trans (hq.trans ?_)
        rw [ho, bcF rfl]
        unfold outQ
        rw [(bad 0 tk L hj ho).1, bcF rfl, ho]; rfl
    | succ j =>
      by_cases hj : j + 1 < l.length
      · have hq := roundQ_ok (j := j + 1) (nx := fun t L' => some (Ex.normal, sQV n m len l k rows t L' (iN ((j + 1 : Nat) : Int)))) (ret := some (Ex.ret, sQR n m l k rows L)) (ex := some (Ex.exit 0, sQX n m l k rows L)) hn hm hr h3 h2 (by omega) hl (xin (j + 1) hj)
        cases ho : ok1 m tk (l.getD (j + 1) 0) with
        | true =>
          refine .inl ⟨⟨(j + 2, tk.set (0 + (nmI (l.getD (j + 1) 0)).toNat * 1) true, layX rows (l.getD (j + 1) 0) L), hj, by simp only [List.length_set]; exact h2, layX_len hr (by rw [hm]; unfold ok1 at ho; rw [Bool.and_eq_true] at ho; exact ho.1) h3, fun e => by cases e⟩, by simp only; omega, step (j + 1) tk L hj ho, ?_⟩
          refine (rQV n m len l k rows tk L ((j + 1 : Nat) : Int)).trans (hq.trans ?_)
          rw [ho, bcT rfl, iN_big (j := j + 1) (by omega)]
        | false =>
          refine .inr ?_
          refine (rQV n m len l k rows tk L ((j + 1 : Nat) : Int)).trans (hq.trans ?_)
          rw [ho, bcF rfl]
          unfold outQ
          obtain ⟨b1, b2⟩ := bad (j + 1) tk L hj ho
          rw [b1, bcF rfl, b2]; rfl
      · refine .inr ?_
        refine (rQV n m len l k rows tk L ((j + 1 : Nat) : Int)).trans ?_
        unfold roundQ
        rw [bcF (b := decide (((j + 1 : Nat) : Int) < _)) (decide_eq_false (by omega))]
        unfold outQ
        rw [List.drop_of_length_le (by omega : l.length ≤ j + 1)]; rfl
  · intro w
    unfold outQ
    cases okK m w.1.2.1 (l.drop w.1.1) with
    | true => simp [bcond]
    | false =>
      cases (Nat.beq w.1.1 0 && !ok1 m w.1.2.1 (l.getD 0 0)) <;> simp [bcond]
end Go.Proofs.Ytoekeplljjaehaa

/- Layer 26: the document's own crash, as an entry. -/
set_option linter.unusedVariables false
set_option linter.unusedSimpArgs false
namespace Go.Proofs.Ytoekeplljjaehaa
open Go Sx
def askQ (n m len : Nat) (l : List Int) (k : List UInt8) (rows : List (List CV)) : Bool := decide (k.length = n ∧ 0 < n ∧ n ≤ 1099511627776 ∧ rows.length = m ∧ l.length = len ∧ 0 < len ∧ len ≤ 9223372036854775807 ∧ m ≤ 1099511627776) && (rowsB n rows && l.all i64B)
noncomputable def eQL (n m len : Nat) (l : List Int) (k : List UInt8) (rows : List (List CV)) : Nat → PState → LAns := fun K st =>
  .chk (Nat.beq K 4) (.chk (eqSt st (sQ0 n m len l k rows (tk m))) (.chk (askQ n m len l k rows) (.br (okK m (tk m) l) (.out (.exit 0) (sQX n m l k rows (layAll rows l k))) (.br (ok1 m (tk m) (l.getD 0 0)) (.out .ret (sQR n m l k rows (refL m rows (tk m) l k))) (.out .ret (sQR0 n m l k rows))))))
theorem eQL_ok (n m len : Nat) (l : List Int) (k : List UInt8) (rows : List (List CV)) (K : Nat) (st : PState) : LAnsOK Try.prog loopQ1 K st (eQL n m len l k rows K st) := by
  unfold eQL
  refine ⟨fun g1 => ⟨fun g2 => ⟨fun g3 => ?_, fun _ => trivial⟩, fun _ => trivial⟩, fun _ => trivial⟩
  obtain rfl := beqT.1 g1
  obtain rfl := eqSt_of g2
  unfold askQ at g3
  simp only [Bool.and_eq_true] at g3
  obtain ⟨h1, h2, h3, h4, h5, h6, h7, _⟩ := of_decide_eq_true g3.1
  have key := loopQ (tk := tk m) ⟨h2, h3⟩ h4 g3.2.1 h1 h5 ⟨h6, h7⟩ (fun x hx => List.all_eq_true.1 g3.2.2 x hx) (by unfold tk; simp)
  unfold outQ at key
  rw [List.drop_zero] at key
  refine ⟨fun e => ?_, fun e => ⟨fun e2 => ?_, fun e2 => ?_⟩⟩
  · rw [e] at key; exact key
  · rw [e, e2] at key; exact key
  · rw [e, e2] at key; exact key
noncomputable def lvQ (n m len : Nat) (l : List Int) (k : List UInt8) (rows : List (List CV)) : FuncId → Lv := fun f => match f with
  | 29 => { keep := fun _ => some [0, 1, 5, 6, 7], ent := fun i => match i with | 4 => some (eQL n m len l k rows) | _ => none }
  | _ => {}
theorem lvQ_ok (n m len : Nat) (l : List Int) (k : List UInt8) (rows : List (List CV)) : LvOK Try.prog (lvQ n m len l k rows) := by
  intro f fn body hf hb K x hx id e hid he st
  by_cases h : f = 29
  · subst h
    obtain rfl : fn = Try.f29 := (Option.some.inj (Try.func29.symm.trans hf)).symm
    have hbody : body = bodyOf Try.f29 := by unfold bodyOf; rw [hb]; rfl
    subst hbody
    have h1 : loopBodies (bodyOf Try.f29) = [loopQ1] := by kernel_rfl
    rw [h1] at hx
    have hx' := List.mem_singleton.1 hx
    have h2 : id = 4 := by
      have h3 : headReg loopQ1 = some 4 := by kernel_rfl
      rw [hx', h3] at hid; exact (Option.some.inj hid).symm
    subst h2
    have he' : eQL n m len l k rows = e := Option.some.inj he
    subst he'
    rw [hx']
    exact eQL_ok n m len l k rows K st
  · exfalso
    have : (lvQ n m len l k rows f).ent id = none := by
      unfold lvQ
      split
      · exact absurd rfl h
      · rfl
    rw [this] at he; cases he
/-- A disk of the document, and numbers: nothing pending; some pieces; behind a crash. -/
def q0 (b : Bool) (n : Nat) (l : List Int) (k : List UInt8) : List PObj := [.raw (.cells [.vec 2 n, .nilslice] rT), .flatI b l, .vecB k 5]
def q1 (b : Bool) (n m : Nat) (l : List Int) (k : List UInt8) (rows : List (List CV)) : List PObj := [.raw (.cells [.vec 2 n, .vec 3 m] rT), .flatI b l, .vecB k 5, .vecR shP rows qT]
def q2 (n : Nat) (l : List Int) (k : List UInt8) (rows : List (List CV)) : List PObj := [.raw (.cells [.vec 2 n, .nilslice] rT), .flatI false l, .vecB k 5, .vecR shP rows qT]
def q3 (n : Nat) (l : List Int) (k L : List UInt8) (rows : List (List CV)) : List PObj := [.raw (.cells [.vec 4 n, .nilslice] rT), .flatI false l, .vecB k 5, .vecR shP rows qT, .vecB L 5]
noncomputable def xQ (n m len : Nat) (l : List Int) (k : List UInt8) (rows : List (List CV)) : Ans :=
  .chk (mkB m) (.chk (eqSt (sQ0 n m len l k rows (tk m)) (sQ0 n m len l k rows (tk m))) (.chk (askQ n m len l k rows) (.br (okK m (tk m) l) (.ret (.int .i64 0) (q3 n l k (layAll rows l k) rows)) (.br (ok1 m (tk m) (l.getD 0 0)) (.ret (.int .i64 261) (q1 false n m l k rows)) (.ret (.int .i64 261) (q1 false n m l k rows))))))
theorem cQ1 (b : Bool) (n m len : Nat) (l : List Int) (k : List UInt8) (rows : List (List CV)) : Comes tLa (lvQ n m len l k rows) 29 [.ptr 0 0, .dsl 1 len] (q1 b n m l k rows) (xQ n m len l k rows) := by unfold Comes; kernel_rfl
theorem cQ2 (b : Bool) (n m : Nat) (k : List UInt8) (rows : List (List CV)) : Comes tLa nolv 29 [.ptr 0 0, .dsl 1 0] (q1 b n m [] k rows) (.chk (mkB m) (.ret (.int .i64 0) (q2 n [] k rows))) := by unfold Comes; kernel_rfl
theorem cQ3 (b : Bool) (n : Nat) (k : List UInt8) : Comes tLa nolv 29 [.ptr 0 0, .dsl 1 0] (q0 b n [] k) (.ret (.int .i64 0) (q0 false n [] k)) := by unfold Comes; kernel_rfl
def xQ4 (len : Nat) (l : List Int) (R A : Ans) : Ans :=
  .br (decide ((0 : Int) < (len : Int))) (.chk (bF 0 len) (.chk (lnL 0 l) (.br (decide (xK l 0 < 0)) (.br (decide (IntKind.i64.wrap (-1 - xK l 0) ≥ 0)) R (.br (ixm (IntKind.i64.wrap (-1 - xK l 0)) 0) .fail .fail)) (.br (decide (xK l 0 ≥ 0)) R (.br (ixm (xK l 0) 0) .fail .fail))))) A
theorem cQ4 (b : Bool) (n len : Nat) (l : List Int) (k : List UInt8) : Comes tLa nolv 29 [.ptr 0 0, .dsl 1 len] (q0 b n l k) (xQ4 len l (.ret (.int .i64 261) (q0 false n l k)) (.ret (.int .i64 0) (q0 false n l k))) := by unfold Comes; kernel_rfl
def askN (len : Nat) (l : List Int) : Bool := decide (l.length = len ∧ len ≤ 9223372036854775807) && l.all i64B
theorem xQ4_run {len : Nat} {l : List Int} {R A : Ans} (h : askN len l = true) : (xQ4 len l R A).run pure2 = (Ans.br l.isEmpty A R).run pure2 := by
  unfold askN at h
  rw [Bool.and_eq_true] at h
  obtain ⟨rfl, h2⟩ := of_decide_eq_true h.1
  unfold xQ4
  cases l with
  | nil => rfl
  | cons x xs =>
    have hx : i64B x = true := List.all_eq_true.1 h.2 x (List.mem_cons_self ..)
    have hp := nmI_ge0 hx
    have e : xK (x :: xs) 0 = x := rfl
    simp only [Ans.run, Ans.chk]
    rw [bcT (b := decide _) (decide_eq_true (by simp only [List.length_cons]; omega)), bcT (b := bF 0 _) (decide_eq_true (by simp only [List.length_cons]; omega)), bcT (b := lnL 0 _) (decide_eq_true (by simp)), e]
    show _ = R.run pure2
    by_cases h3 : x < 0
    · have : nmI x = IntKind.i64.wrap (-1 - x) := by unfold nmI; rw [if_pos h3]
      rw [bcT (b := decide (x < 0)) (decide_eq_true h3), bcT (b := decide (_ ≥ 0)) (decide_eq_true (by omega))]
    · rw [bcF (b := decide (x < 0)) (decide_eq_false h3), bcT (b := decide (x ≥ 0)) (decide_eq_true (by omega))]
def litX (x y q a t d : Nat) : Bool := Nat.beq x 0 && (Nat.beq y 0 && (Nat.beq q 1 && (Nat.beq a 2 && (Nat.beq t rT && Nat.beq d 5))))
theorem litX_eq {x y q a t d : Nat} (h : litX x y q a t d = true) : x = 0 ∧ y = 0 ∧ q = 1 ∧ a = 2 ∧ t = rT ∧ d = 5 := by
  unfold litX at h
  simpa only [Bool.and_eq_true, beqT] using h
def litY (v ty : Nat) (sh : List CK) : Bool := Nat.beq v 3 && (Nat.beq ty qT && eqC sh)
theorem litY_eq {v ty : Nat} {sh : List CK} (h : litY v ty sh = true) : v = 3 ∧ ty = qT ∧ sh = shP := by
  unfold litY at h
  simp only [Bool.and_eq_true, beqT] at h
  exact ⟨h.1, h.2.1, eqC_eq h.2.2⟩
def askV (n m len : Nat) (l : List Int) (k : List UInt8) (rows : List (List CV)) : Bool := decide (k.length = n ∧ 0 < n ∧ n ≤ 1099511627776 ∧ rows.length = m ∧ m ≤ 1099511627776) && (rowsB n rows && askN len l)
/-- A crash told by numbers, whatever they are. -/
def eRCr : Ent := fun args pre => match args, pre with
  | [.ptr x y, .dsl q len], [.raw (.cells [.vec a n, .nilslice] t), .flatI b l, .vecB k d] => .chk (litX x y q a t d) (.chk (askN len l) (.br l.isEmpty (.ret (.int .i64 0) (q0 false n l k)) (.ret (.int .i64 261) (q0 false n l k))))
  | [.ptr x y, .dsl q len], [.raw (.cells [.vec a n, .vec c m] t), .flatI b l, .vecB k d, .vecR sh rows ty] => .chk (litX x y q a t d) (.chk (litY c ty sh) (.chk (askV n m len l k rows) (.br l.isEmpty (.ret (.int .i64 0) (q2 n l k rows)) (.br (okK m (tk m) l) (.ret (.int .i64 0) (q3 n l k (layAll rows l k) rows)) (.ret (.int .i64 261) (q1 false n m l k rows))))))
  | _, _ => .fail
theorem eRCr_ok : EntOK Try.prog 29 eRCr := fun args pre => by
  unfold eRCr
  split
  · refine ⟨fun g1 => ⟨fun g2 => ?_, fun _ => trivial⟩, fun _ => trivial⟩
    obtain ⟨rfl, rfl, rfl, rfl, rfl, rfl⟩ := litX_eq g1
    exact of_run (ans_comes tLa_ok (cQ4 _ _ _ _ _)) fun r hr => (xQ4_run g2).trans hr
  · rename_i x y q len a n c m t b l k d sh rows ty
    refine ⟨fun g1 => ⟨fun g2 => ⟨fun g3 => ?_, fun _ => trivial⟩, fun _ => trivial⟩, fun _ => trivial⟩
    obtain ⟨rfl, rfl, rfl, rfl, rfl, rfl⟩ := litX_eq g1
    obtain ⟨rfl, rfl, rfl⟩ := litY_eq g2
    unfold askV at g3
    simp only [Bool.and_eq_true] at g3
    obtain ⟨h1, h2, h3, h4, h5⟩ := of_decide_eq_true g3.1
    have hN := g3.2.2
    unfold askN at hN
    simp only [Bool.and_eq_true] at hN
    obtain ⟨h6, h7⟩ := of_decide_eq_true hN.1
    cases l with
    | nil =>
      subst h6
      refine ⟨fun _ => ?_, fun e => by cases e⟩
      exact of_run (y := .ret _ _) (ans_comes tLa_ok (cQ2 _ _ _ _ _)) fun r hr => by
        rw [← hr]; simp only [Ans.run, Ans.chk]; rw [bcT (mkB_m h5)]
    | cons x0 xs =>
      refine ⟨fun e => (by cases e), fun _ => ?_⟩
      have hq : askQ n m len (x0 :: xs) k rows = true := by
        unfold askQ
        rw [decide_eq_true (show k.length = n ∧ 0 < n ∧ n ≤ 1099511627776 ∧ rows.length = m ∧ (x0 :: xs).length = len ∧ 0 < len ∧ len ≤ 9223372036854775807 ∧ m ≤ 1099511627776 from ⟨h1, h2, h3, h4, h6, by rw [← h6]; simp, h7, h5⟩), g3.2.1, hN.2]; rfl
      exact of_run (y := .br _ (.ret _ _) (.ret _ _)) (ans_comes tLa_ok (cQ1 _ _ _ _ _ _ _) (lvQ_ok _ _ _ _ _ _)) fun r hr => by
        rw [← hr]; unfold xQ; simp only [Ans.run, Ans.chk]; rw [bcT (mkB_m h5), bcT (eqSt_refl _), bcT hq]
        cases okK m (tk m) (x0 :: xs) with
        | true => rfl
        | false => cases ok1 m (tk m) ((x0 :: xs).getD 0 0) <;> rfl
  · trivial
end Go.Proofs.Ytoekeplljjaehaa

/- Layer 26: a crash told by numbers that are handed in: the program's rounds. -/
set_option linter.unusedVariables false
set_option linter.unusedSimpArgs false
namespace Go.Proofs.Ytoekeplljjaehaa
open Go Sx
def meKD (l : List Int) (k t : List UInt8) (n m : Nat) (rows : List (List CV)) : List (Option PObj) :=
  [some (.raw (.cells [.slice 2 0 n n, .slice 3 0 n n, .vec 4 m] dT)), some (.flatI false l), some (.arrB k 5), some (.arrB t 5), some (.vecR shP rows pT)]
def sArD (i : Int) (l : List Int) (k t : List UInt8) (n m len : Nat) (rows : List (List CV)) (tk : List Bool) : PState :=
  ⟨none :: none :: none :: none :: none :: some (.slice 5 0 m m) :: none :: none :: none :: none :: none :: none :: none :: none :: none :: some (.dsl 1 len) :: some (.int .i64 len) :: some (.int .i64 i) :: List.replicate 19 none,
   meKD l k t n m rows ++ some (.arrT tk 4) :: List.replicate 64 none⟩
def sArFD (l : List Int) (k t : List UInt8) (n m : Nat) (rows : List (List CV)) : PState := ⟨none :: none :: none :: none :: some (.bool false) :: List.replicate 32 none, meKD l k t n m rows ++ List.replicate 64 none⟩
def sArXD (l : List Int) (k t : List UInt8) (n m : Nat) (rows : List (List CV)) : PState := ⟨List.replicate 37 none, meKD l k t n m rows ++ List.replicate 64 none⟩
def sCrD (i : Int) (l : List Int) (k t : List UInt8) (n m len : Nat) (rows : List (List CV)) : PState :=
  ⟨some (.ptr 0 0) :: none :: none :: none :: none :: none :: none :: none :: none :: none :: none :: none :: none :: none :: some (.dsl 1 len) :: some (.int .i64 len) :: some (.int .i64 i) :: List.replicate 34 none, meKD l k t n m rows ++ List.replicate 64 none⟩
def sCrXD (l : List Int) (k t : List UInt8) (n m : Nat) (rows : List (List CV)) : PState := ⟨some (.ptr 0 0) :: List.replicate 50 none, meKD l k t n m rows ++ List.replicate 64 none⟩
theorem rArD (i : Int) (l : List Int) (k t : List UInt8) (n m len : Nat) (rows : List (List CV)) (tk : List Bool) : code (ent Try.prog tNu nolv 64 1 20) Try.prog {} 5 64 1 loopA1 (sArD i l k t n m len rows tk) (endK 5 64 (fun n => hasN [5, 15, 16, 17] n) (fun n => hasN [4] n))
  = bcond (decide (i < (len : Int))) (chks (bcond (decide (nmI (xK l i) ≥ (m : Int))) (some (.ret, sArFD l k t n m rows)) (chks (bcond (gtB (nmI (xK l i)) tk) (some (.ret, sArFD l k t n m rows))
      (chks (some (.normal, sArD (iN i) l k t n m len rows (tk.set (0 + (nmI (xK l i)).toNat * 1) true))) [ixm (nmI (xK l i)) m, lnB (nmI (xK l i)) tk])) [ixm (nmI (xK l i)) m, lnB (nmI (xK l i)) tk])) [bF i len, lnL i l]) (some (.exit 0, sArXD l k t n m rows)) := by kernel_rfl
theorem rCrD (i : Int) (l : List Int) (k t : List UInt8) (n m len : Nat) (rows : List (List CV)) : code (ent Try.prog tNu nolv 64 1 20) Try.prog {} 5 64 1 loopC1 (sCrD i l k t n m len rows) (endK 5 64 (fun n => hasN [0, 14, 15, 16] n) (fun n => hasN [0] n))
  = bcond (decide (i < (len : Int))) (chks (bcond (decide (xK l i < 0))
      (chks (some (.normal, sCrD (iN i) l (layT (rowCV (rK rows l i) 0).n (loS (hfI (rowCV (rK rows l i) 1).s) (rowCV (rK rows l i) 1).s) k n) t n m len rows)) (slB (hfI (rowCV (rK rows l i) 1).s) (rowCV (rK rows l i) 1).s :: layC (rowCV (rK rows l i) 0).n (loS (hfI (rowCV (rK rows l i) 1).s) (rowCV (rK rows l i) 1).s) k n))
      (chks (some (.normal, sCrD (iN i) l (layT (rowCV (rK rows l i) 0).n (rowCV (rK rows l i) 1).s k n) t n m len rows)) (layC (rowCV (rK rows l i) 0).n (rowCV (rK rows l i) 1).s k n)))
      [bF i len, lnL i l, ixm (nmI (xK l i)) m, decide ((nmI (xK l i)).toNat < rows.length) && true && true]) (some (.exit 0, sCrXD l k t n m rows)) := by kernel_rfl
def outA (l : List Int) (k t : List UInt8) (n m : Nat) (rows : List (List CV)) (b : Bool) : Ex × PState := bcond b (.exit 0, sArXD l k t n m rows) (.ret, sArFD l k t n m rows)
theorem loopArD {l : List Int} {k t : List UInt8} {n m : Nat} {rows : List (List CV)} (hl : l.length ≤ 9223372036854775807) (hx : ∀ x ∈ l, i64B x = true) (j : Nat) (tk : List Bool) (h : j ≤ l.length ∧ tk.length = m) :
    Tri Try.prog (.loop loopA1) (sArD j l k t n m l.length rows tk).toA (outA l k t n m rows (okK m tk (l.drop j))).1 (outA l k t n m rows (okK m tk (l.drop j))).2.toA 5 := by
  have key := loop_rounds (ent_sound (T := tNu) tNu_ok host nolv_ok (NF := 64) (m := 1) 20) (NF := 64) (m := 1) (x := loopA1) (K := 5) loops_none (fun n => hasN [5, 15, 16, 17] n) (fun n => hasN [4] n) (ι := { w : Nat × List Bool // w.1 ≤ l.length ∧ w.2.length = m })
    (fun w => sArD (w.1.1 : Int) l k t n m l.length rows w.1.2) (fun w => l.length - w.1.1) (fun w => outA l k t n m rows (okK m w.1.2 (l.drop w.1.1))) ?_ ?_ ⟨(j, tk), h⟩
  · exact key
  · rintro ⟨⟨j, tk⟩, h1, h2⟩
    simp only at h1 h2
    by_cases hj : j < l.length
    · have hp := nmI_ge0 (hx (l.getD j 0) (by rw [List.getD_eq_getElem?_getD, List.getElem?_eq_getElem hj]; exact List.getElem_mem hj))
      have e1 : bF (j : Int) l.length = true := decide_eq_true (by omega)
      have e2 : lnL (j : Int) l = true := decide_eq_true (by simp only [Int.toNat_natCast]; omega)
      have hok : okK m tk (l.drop j) = (ok1 m tk (l.getD j 0) && okK m (tk.set (0 + (nmI (l.getD j 0)).toNat * 1) true) (l.drop (j + 1))) := by rw [getD_drop hj, okK_cons]
      have run := rArD (j : Int) l k t n m l.length rows tk
      rw [xK_nat, iN_big (by omega), bcT (b := decide ((j : Int) < _)) (decide_eq_true (by omega)), chks_true (all2 e1 e2)] at run
      by_cases hq : nmI (l.getD j 0) ≥ (m : Int)
      · refine .inr ?_
        have e : ok1 m tk (l.getD j 0) = false := by unfold ok1; rw [show ixm (nmI (l.getD j 0)) m = false from decide_eq_false (by omega)]; rfl
        refine run.trans ?_
        simp only
        rw [bcT (b := decide _) (decide_eq_true hq), hok, e]; rfl
      · have g1 : ixm (nmI (l.getD j 0)) m = true := decide_eq_true (by omega)
        have e3 : lnB (nmI (l.getD j 0)) tk = true := decide_eq_true (by omega)
        rw [bcF (b := decide _) (decide_eq_false hq), chks_true (all2 g1 e3)] at run
        cases hg : gtB (nmI (l.getD j 0)) tk with
        | true =>
          refine .inr ?_
          have e : ok1 m tk (l.getD j 0) = false := by unfold ok1; rw [g1, hg]; rfl
          refine run.trans ?_
          simp only
          rw [hg, bcT rfl, hok, e]; rfl
        | false =>
          refine .inl ⟨⟨(j + 1, tk.set (0 + (nmI (l.getD j 0)).toNat * 1) true), by simp only; omega, by simp only [List.length_set]; exact h2⟩, by simp only; omega, ?_, ?_⟩
          · simp only
            have e : ok1 m tk (l.getD j 0) = true := by unfold ok1; rw [g1, hg]; rfl
            rw [hok, e, Bool.true_and]
          · refine run.trans ?_
            rw [hg, bcF rfl, chks_true (all2 g1 e3)]
    · refine .inr ?_
      refine (rArD j l k t n m l.length rows tk).trans ?_
      simp only
      rw [bcF (b := decide ((j : Int) < _)) (decide_eq_false (by omega)), List.drop_of_length_le (by omega)]; rfl
  · intro w
    unfold outA
    cases okK m w.1.2 (l.drop w.1.1) <;> simp [bcond]
where
  all2 {a b : Bool} (ha : a = true) (hb : b = true) : ∀ x ∈ [a, b], x = true := fun x hx => by
    simp only [List.mem_cons, List.not_mem_nil, or_false] at hx
    rcases hx with rfl | rfl
    · exact ha
    · exact hb
theorem loopCrD {l : List Int} {t : List UInt8} {n m : Nat} {rows : List (List CV)} (hl : l.length ≤ 9223372036854775807) (hn : n ≤ 1099511627776) (hm : rows.length = m) (hr : rowsB n rows = true) (hx : ∀ x ∈ l, ixm (nmI x) m = true) (j : Nat) (k : List UInt8) (h : j ≤ l.length ∧ k.length = n) :
    Tri Try.prog (.loop loopC1) (sCrD j l k t n m l.length rows).toA (.exit 0) (sCrXD l (layAll rows (l.drop j) k) t n m rows).toA 5 := by
  refine loop_rounds (ent_sound (T := tNu) tNu_ok host nolv_ok (NF := 64) (m := 1) 20) (NF := 64) (m := 1) loops_none (fun n => hasN [0, 14, 15, 16] n) (fun n => hasN [0] n) (ι := { w : Nat × List UInt8 // w.1 ≤ l.length ∧ w.2.length = n })
    (fun w => sCrD (w.1.1 : Int) l w.1.2 t n m l.length rows) (fun w => l.length - w.1.1) (fun w => (.exit 0, sCrXD l (layAll rows (l.drop w.1.1) w.1.2) t n m rows)) ?_ (fun _ => by simp) ⟨(j, k), h⟩
  rintro ⟨⟨j, k⟩, h1, h2⟩
  simp only at h1 h2
  by_cases hj : j < l.length
  · left
    have hxj := hx (l.getD j 0) (by rw [List.getD_eq_getElem?_getD, List.getElem?_eq_getElem hj]; exact List.getElem_mem hj)
    have hxj' := of_decide_eq_true hxj
    have hin : (nmI (l.getD j 0)).toNat < rows.length := by omega
    obtain ⟨p1, p2⟩ := rowsB_at hr hin
    refine ⟨⟨(j + 1, layX rows (l.getD j 0) k), by simp only; omega, layX_len hr (by rw [hm]; exact hxj) h2⟩, by simp only; omega, ?_, ?_⟩
    · simp only
      rw [getD_drop hj]; rfl
    · refine (rCrD j l k t n m l.length rows).trans ?_
      have e1 : bF (j : Int) l.length = true := decide_eq_true (by omega)
      have e2 : lnL (j : Int) l = true := decide_eq_true (by simp only [Int.toNat_natCast]; omega)
      have e3 : (decide ((nmI (l.getD j 0)).toNat < rows.length) && true && true) = true := by rw [decide_eq_true hin]; rfl
      unfold rK
      rw [xK_nat, iN_big (by omega)]
      rw [bcT (b := decide ((j : Int) < _)) (decide_eq_true (by omega)), chks_true (by
        intro b hb
        simp only [List.mem_cons, List.not_mem_nil, or_false] at hb
        rcases hb with rfl | rfl | rfl | rfl
        · exact e1
        · exact e2
        · exact hxj
        · exact e3)]
      generalize hrow : Sx.rowAt rows (nmI (l.getD j 0)).toNat = r at p1 p2
      have hlx : layX rows (l.getD j 0) k = splice (rowCV r 0).n.toNat (if l.getD j 0 < 0 then (rowCV r 1).s.take ((rowCV r 1).s.length / 2) else (rowCV r 1).s) k := by unfold layX; rw [hrow]
      show _ = some (Ex.normal, sCrD ((j + 1 : Nat) : Int) l (layX rows (l.getD j 0) k) t n m l.length rows)
      rw [hlx]
      by_cases hneg : l.getD j 0 < 0
      · rw [bcT (b := decide _) (decide_eq_true hneg), if_pos hneg, hfI_nat (by omega)]
        have es : loS (((rowCV r 1).s.length / 2 : Nat) : Int) (rowCV r 1).s = (rowCV r 1).s.take ((rowCV r 1).s.length / 2) := rfl
        rw [es]
        obtain ⟨q1, q2⟩ := lay_nat (s := (rowCV r 1).s.take ((rowCV r 1).s.length / 2)) p1 (by rw [List.length_take]; omega) h2
        rw [chks_true (by
          intro b hb
          rcases List.mem_cons.1 hb with rfl | hb
          · exact decide_eq_true ⟨by omega, by simp only [Int.toNat_natCast]; omega⟩
          · exact q2 b hb), q1]
      · rw [bcF (b := decide _) (decide_eq_false hneg), if_neg hneg]
        obtain ⟨q1, q2⟩ := lay_nat p1 p2 h2
        rw [chks_true q2, q1]
  · right
    have hd : l.drop j = [] := List.drop_of_length_le (by omega)
    simp only [hd, layAll]
    refine (rCrD j l k t n m l.length rows).trans ?_
    rw [bcF (b := decide ((j : Int) < _)) (decide_eq_false (by omega))]
end Go.Proofs.Ytoekeplljjaehaa

/- Layer 26: a crash told by numbers that are handed in: the program's, as an entry. -/
set_option linter.unusedVariables false
set_option linter.unusedSimpArgs false
namespace Go.Proofs.Ytoekeplljjaehaa
open Go Sx
def askP (n m len : Nat) (l : List Int) (k t : List UInt8) (rows : List (List CV)) : Bool := decide (l.length = len ∧ len ≤ 9223372036854775807 ∧ rows.length = m ∧ m ≤ 1099511627776 ∧ k.length = n ∧ t.length = n ∧ n ≤ 1099511627776) && (rowsB n rows && l.all i64B)
noncomputable def eArLD (n m len : Nat) (l : List Int) (k t : List UInt8) (rows : List (List CV)) : Nat → PState → LAns := fun K st =>
  .chk (Nat.beq K 5) (.chk (eqSt st (sArD 0 l k t n m len rows (tk m))) (.chk (askP n m len l k t rows) (.br (okK m (tk m) l) (.out (.exit 0) (sArXD l k t n m rows)) (.out .ret (sArFD l k t n m rows)))))
noncomputable def eCrLD (n m len : Nat) (l : List Int) (k t : List UInt8) (rows : List (List CV)) : Nat → PState → LAns := fun K st =>
  .chk (Nat.beq K 5) (.chk (eqSt st (sCrD 0 l k t n m len rows)) (.chk (askP n m len l k t rows) (.chk (okK m (tk m) l) (.out (.exit 0) (sCrXD l (layAll rows l k) t n m rows)))))
theorem eArLD_ok (n m len : Nat) (l : List Int) (k t : List UInt8) (rows : List (List CV)) (K : Nat) (st : PState) : LAnsOK Try.prog loopA1 K st (eArLD n m len l k t rows K st) := by
  unfold eArLD
  refine ⟨fun g1 => ⟨fun g2 => ⟨fun g3 => ?_, fun _ => trivial⟩, fun _ => trivial⟩, fun _ => trivial⟩
  obtain rfl := beqT.1 g1
  obtain rfl := eqSt_of g2
  unfold askP at g3
  simp only [Bool.and_eq_true] at g3
  obtain ⟨rfl, h2, _⟩ := of_decide_eq_true g3.1
  have key := loopArD (k := k) (t := t) (n := n) (m := m) (rows := rows) h2 (fun x hx => List.all_eq_true.1 g3.2.2 x hx) 0 (tk m) ⟨Nat.zero_le _, by unfold tk; simp⟩
  rw [List.drop_zero] at key
  unfold outA at key
  refine ⟨fun e => ?_, fun e => ?_⟩
  · rw [e] at key; exact key
  · rw [e] at key; exact key
theorem eCrLD_ok (n m len : Nat) (l : List Int) (k t : List UInt8) (rows : List (List CV)) (K : Nat) (st : PState) : LAnsOK Try.prog loopC1 K st (eCrLD n m len l k t rows K st) := by
  unfold eCrLD
  refine ⟨fun g1 => ⟨fun g2 => ⟨fun g3 => ⟨fun g4 => ?_, fun _ => trivial⟩, fun _ => trivial⟩, fun _ => trivial⟩, fun _ => trivial⟩
  obtain rfl := beqT.1 g1
  obtain rfl := eqSt_of g2
  unfold askP at g3
  simp only [Bool.and_eq_true] at g3
  obtain ⟨rfl, h2, h3, h4, h5, h6, h7⟩ := of_decide_eq_true g3.1
  have key := loopCrD (t := t) h2 h7 h3 g3.2.1 (fun x hx => okK_in g4 x hx) 0 k ⟨Nat.zero_le _, h5⟩
  rw [List.drop_zero] at key
  exact key
noncomputable def lvCD (n m len : Nat) (l : List Int) (k t : List UInt8) (rows : List (List CV)) : FuncId → Lv := fun f => match f with
  | 32 => { keep := fun _ => some [5, 15, 16, 17], ent := fun i => match i with | 3 => some (eArLD n m len l k t rows) | _ => none }
  | 21 => { keep := fun _ => some [0, 14, 15, 16], ent := fun i => match i with | 6 => some (eCrLD n m len l k t rows) | _ => none }
  | _ => {}
theorem lvCD_ok (n m len : Nat) (l : List Int) (k t : List UInt8) (rows : List (List CV)) : LvOK Try.prog (lvCD n m len l k t rows) := by
  intro f fn body hf hb K x hx id e hid he st
  by_cases h : f = 32
  · subst h
    obtain rfl : fn = Try.f32 := (Option.some.inj (Try.func32.symm.trans hf)).symm
    have hbody : body = bodyOf Try.f32 := by unfold bodyOf; rw [hb]; rfl
    subst hbody
    have h1 : loopBodies (bodyOf Try.f32) = [loopA1] := by kernel_rfl
    rw [h1] at hx
    have hx' := List.mem_singleton.1 hx
    have h2 : id = 3 := by
      have h3 : headReg loopA1 = some 3 := by kernel_rfl
      rw [hx', h3] at hid; exact (Option.some.inj hid).symm
    subst h2
    have he' : eArLD n m len l k t rows = e := Option.some.inj he
    subst he'
    rw [hx']
    exact eArLD_ok n m len l k t rows K st
  · by_cases h' : f = 21
    · subst h'
      obtain rfl : fn = Try.f21 := (Option.some.inj (Try.func21.symm.trans hf)).symm
      have hbody : body = bodyOf Try.f21 := by unfold bodyOf; rw [hb]; rfl
      subst hbody
      have h1 : loopBodies (bodyOf Try.f21) = [loopC1] := by kernel_rfl
      rw [h1] at hx
      have hx' := List.mem_singleton.1 hx
      have h2 : id = 6 := by
        have h3 : headReg loopC1 = some 6 := by kernel_rfl
        rw [hx', h3] at hid; exact (Option.some.inj hid).symm
      subst h2
      have he' : eCrLD n m len l k t rows = e := Option.some.inj he
      subst he'
      rw [hx']
      exact eCrLD_ok n m len l k t rows K st
    · exfalso
      have : (lvCD n m len l k t rows f).ent id = none := by
        unfold lvCD
        split
        · exact absurd rfl h
        · exact absurd rfl h'
        · rfl
      rw [this] at he; cases he
/-- A disk of the program, and numbers. -/
def p0 (b : Bool) (n : Nat) (l : List Int) (k t : List UInt8) : List PObj := [.raw (.cells [.slice 2 0 n n, .slice 3 0 n n, .nilslice] dT), .flatI b l, .arrB k 5, .arrB t 5]
def p1 (b : Bool) (n m : Nat) (l : List Int) (k t : List UInt8) (rows : List (List CV)) : List PObj := [.raw (.cells [.slice 2 0 n n, .slice 3 0 n n, .vec 4 m] dT), .flatI b l, .arrB k 5, .arrB t 5, .vecR shP rows pT]
def p2 (n : Nat) (l : List Int) (k t : List UInt8) (rows : List (List CV)) : List PObj := [.raw (.cells [.slice 2 0 n n, .slice 3 0 n n, .nilslice] dT), .flatI false l, .arrB k 5, .arrB t 5, .vecR shP rows pT]
noncomputable def xCD (n m len : Nat) (l : List Int) (k t : List UInt8) (rows : List (List CV)) : Ans :=
  .chk (mkB m) (.chk (eqSt (sArD 0 l k t n m len rows (tk m)) (sArD 0 l k t n m len rows (tk m))) (.chk (askP n m len l k t rows) (.br (okK m (tk m) l)
    (.chk (eqSt (sCrD 0 l k t n m len rows) (sCrD 0 l k t n m len rows)) (.chk (askP n m len l k t rows) (.chk (okK m (tk m) l) (.chk (cpC n t (layAll rows l k)) (.ret (.int .i64 0) (p2 n l (layAll rows l k) (cpB n t (layAll rows l k)) rows))))))
    (.ret (.int .i64 261) (p1 false n m l k t rows)))))
theorem cCD (b : Bool) (n m len : Nat) (l : List Int) (k t : List UInt8) (rows : List (List CV)) : Comes tNu (lvCD n m len l k t rows) 21 [.ptr 0 0, .dsl 1 len] (p1 b n m l k t rows) (xCD n m len l k t rows) := by unfold Comes; kernel_rfl
def xC4 (n len : Nat) (l : List Int) (k t : List UInt8) : Ans :=
  .br (decide ((0 : Int) < (len : Int))) (.chk (bF 0 len) (.chk (lnL 0 l) (.br (decide (nmI (xK l 0) ≥ 0)) (.ret (.int .i64 261) (p0 false n l k t)) (.br (ixm (nmI (xK l 0)) 0) .fail .fail))))
    (.br (decide ((0 : Int) < (len : Int))) (.chk (bF 0 len) (.br (lnL 0 l) .fail .fail)) (.chk (cpC n t k) (.ret (.int .i64 0) (p0 false n l k (cpB n t k)))))
theorem cC4 (b : Bool) (n len : Nat) (l : List Int) (k t : List UInt8) : Comes tNu nolv 21 [.ptr 0 0, .dsl 1 len] (p0 b n l k t) (xC4 n len l k t) := by unfold Comes; kernel_rfl
theorem xC4_run {n len : Nat} {l : List Int} {k t : List UInt8} (h : askN len l = true) (hs : smN n k t = true) : (xC4 n len l k t).run pure2 = (Ans.br l.isEmpty (.ret (.int .i64 0) (p0 false n l k k)) (.ret (.int .i64 261) (p0 false n l k t))).run pure2 := by
  unfold askN at h
  rw [Bool.and_eq_true] at h
  obtain ⟨rfl, h2⟩ := of_decide_eq_true h.1
  obtain ⟨s1, s2, s3⟩ := smN_of hs
  have hs' : smN n t k = true := decide_eq_true ⟨s2, s1, s3⟩
  unfold xC4
  cases l with
  | nil =>
    simp only [Ans.run, Ans.chk]
    rw [cpB_eq hs', cpC_eq hs']; rfl
  | cons x xs =>
    have hp := nmI_ge0 (List.all_eq_true.1 h.2 x (List.mem_cons_self ..))
    have e : xK (x :: xs) 0 = x := rfl
    simp only [Ans.run, Ans.chk]
    rw [bcT (b := decide _) (decide_eq_true (by simp only [List.length_cons]; omega)), bcT (b := bF 0 _) (decide_eq_true (by simp only [List.length_cons]; omega)), bcT (b := lnL 0 _) (decide_eq_true (by simp)), e, bcT (b := decide (nmI x ≥ 0)) (decide_eq_true hp)]
    rfl
def litZ (x y q a a0 b b0 t d d' n n1 n2 n3 : Nat) : Bool := Nat.beq x 0 && (Nat.beq y 0 && (Nat.beq q 1 && (Nat.beq a 2 && (Nat.beq a0 0 && (Nat.beq b 3 && (Nat.beq b0 0 && (Nat.beq t dT && (Nat.beq d 5 && (Nat.beq d' 5 && (Nat.beq n1 n && (Nat.beq n2 n && Nat.beq n3 n)))))))))))
theorem litZ_eq {x y q a a0 b b0 t d d' n n1 n2 n3 : Nat} (h : litZ x y q a a0 b b0 t d d' n n1 n2 n3 = true) : x = 0 ∧ y = 0 ∧ q = 1 ∧ a = 2 ∧ a0 = 0 ∧ b = 3 ∧ b0 = 0 ∧ t = dT ∧ d = 5 ∧ d' = 5 ∧ n1 = n ∧ n2 = n ∧ n3 = n := by
  unfold litZ at h
  simpa only [Bool.and_eq_true, beqT] using h
def eCrD : Ent := fun args pre => match args, pre with
  | [.ptr x y, .dsl q len], [.raw (.cells [.slice a a0 n n1, .slice b b0 n2 n3, .nilslice] ty), .flatI c l, .arrB k d, .arrB t d'] => .chk (litZ x y q a a0 b b0 ty d d' n n1 n2 n3) (.chk (askN len l) (.chk (smN n k t) (.br l.isEmpty (.ret (.int .i64 0) (p0 false n l k k)) (.ret (.int .i64 261) (p0 false n l k t)))))
  | [.ptr x y, .dsl q len], [.raw (.cells [.slice a a0 n n1, .slice b b0 n2 n3, .vec v m] ty), .flatI c l, .arrB k d, .arrB t d', .vecR sh rows tv] => .chk (litZ x y q a a0 b b0 ty d d' n n1 n2 n3) (.chk (litU v tv sh) (.chk (askP n m len l k t rows) (.br (okK m (tk m) l) (.ret (.int .i64 0) (p2 n l (layAll rows l k) (layAll rows l k) rows)) (.ret (.int .i64 261) (p1 false n m l k t rows)))))
  | _, _ => .fail
theorem eCrD_ok : EntOK Try.prog 21 eCrD := fun args pre => by
  unfold eCrD
  split
  · refine ⟨fun g1 => ⟨fun g2 => ⟨fun g3 => ?_, fun _ => trivial⟩, fun _ => trivial⟩, fun _ => trivial⟩
    obtain ⟨rfl, rfl, rfl, rfl, rfl, rfl, rfl, rfl, rfl, rfl, rfl, rfl, rfl⟩ := litZ_eq g1
    exact of_run (y := .br _ (.ret _ _) (.ret _ _)) (ans_comes tNu_ok (cC4 _ _ _ _ _ _)) fun r hr => (xC4_run g2 g3).trans hr
  · refine ⟨fun g1 => ⟨fun g2 => ⟨fun g3 => ?_, fun _ => trivial⟩, fun _ => trivial⟩, fun _ => trivial⟩
    obtain ⟨rfl, rfl, rfl, rfl, rfl, rfl, rfl, rfl, rfl, rfl, rfl, rfl, rfl⟩ := litZ_eq g1
    obtain ⟨rfl, rfl, rfl⟩ := litU_eq g2
    have g3' := g3
    unfold askP at g3'
    simp only [Bool.and_eq_true] at g3'
    obtain ⟨_, _, h3, h4, h5, h6, h7⟩ := of_decide_eq_true g3'.1
    refine of_run (y := .br _ (.ret _ _) (.ret _ _)) (ans_comes tNu_ok (cCD _ _ _ _ _ _ _ _) (lvCD_ok _ _ _ _ _ _ _)) fun r hr => ?_
    rw [← hr]; unfold xCD; simp only [Ans.run, Ans.chk]
    rw [bcT (mkB_m h4), bcT (eqSt_refl _), bcT g3]
    subst h3
    cases ho : okK _ _ _ with
    | false => rfl
    | true =>
      have hlen := layAll_len g3'.2.1 (okK_in ho) h5
      have hs : smN _ _ _ = true := decide_eq_true ⟨h6, hlen, h7⟩
      rw [bcT rfl, bcT (eqSt_refl _), bcT g3, bcT rfl, cpB_eq hs, bcT (cpC_eq hs)]; rfl
  · trivial
end Go.Proofs.Ytoekeplljjaehaa

/- Layer 26: the document's crash told by numbers that were chosen, or by none; two new disks. -/
set_option linter.unusedVariables false
set_option linter.unusedSimpArgs false
namespace Go.Proofs.Ytoekeplljjaehaa
open Go Sx
theorem cQn0 (n : Nat) (k : List UInt8) : Comes tLa nolv 29 [.ptr 0 0, .nilslice] (r0 n k) (.ret (.int .i64 0) (r0 n k)) := by unfold Comes; kernel_rfl
def r4 (n : Nat) (k : List UInt8) (rows : List (List CV)) : List PObj := [.raw (.cells [.vec 1 n, .nilslice] rT), .vecB k 5, .vecR shP rows qT]
theorem cQn1 (n m : Nat) (k : List UInt8) (rows : List (List CV)) : Comes tLa nolv 29 [.ptr 0 0, .nilslice] (r1 n m k rows) (.chk (mkB m) (.ret (.int .i64 0) (r4 n k rows))) := by unfold Comes; kernel_rfl
def q3v (n : Nat) (l : List Int) (k L : List UInt8) (rows : List (List CV)) : List PObj := [.raw (.cells [.vec 4 n, .nilslice] rT), .vecI .i64 l 3, .vecB k 5, .vecR shP rows qT, .vecB L 5]
def eRCrV : Ent := fun args pre => match args, pre with
  | [.ptr x y, .nilslice], [.raw (.cells [.vec a n, .nilslice] t), .vecB k d] => .chk (litR x y a t d) (.ret (.int .i64 0) (r0 n k))
  | [.ptr x y, .nilslice], [.raw (.cells [.vec a n, .vec b m] t), .vecB k d, .vecR sh rows ty] => .chk (litR x y a t d) (.chk (litQ b ty sh) (.chk (mkB m) (.ret (.int .i64 0) (r4 n k rows))))
  | [.ptr x y, .vec q len], [.raw (.cells [.vec a n, .vec c m] t), .vecI .i64 l c1, .vecB k d, .vecR sh rows ty] => .chk (litX x y q a t d && Nat.beq c1 3) (.chk (litY c ty sh) (.chk (askV n m len l k rows) (.chk (!l.isEmpty) (.chk (okK m (tk m) l) (.ret (.int .i64 0) (q3v n l k (layAll rows l k) rows))))))
  | _, _ => .fail
theorem vec_dsl {E : Env} {p : AV} {q len : Nat} {xs : List Value} (h : denL E [p, .vec q len] = some xs) : denL E [p, .dsl q len] = some xs := by
  obtain ⟨x, ys, hx, hy, rfl⟩ := denL_cons.1 h
  obtain ⟨y, zs, hy2, hz, rfl⟩ := denL_cons.1 hy
  refine denL_cons.2 ⟨x, _, hx, denL_cons.2 ⟨y, zs, ?_, hz, rfl⟩, rfl⟩
  obtain ⟨b, c, hb, hpx⟩ := vec_den hy2
  obtain ⟨h1, h2, h3⟩ := vec_cap hy2 hb
  rw [hpx]
  simp only [den, hb, Option.bind_some, h1, h2, Bool.false_eq_true, if_false]
  rw [if_pos h3]
theorem eRCrV_ok : EntOK Try.prog 29 eRCrV := fun args pre => by
  unfold eRCrV
  split
  · refine ⟨fun g1 => ?_, fun _ => trivial⟩
    obtain ⟨rfl, rfl, rfl, rfl, rfl⟩ := litR_eq g1
    exact ans_comes tLa_ok (cQn0 _ _)
  · refine ⟨fun g1 => ⟨fun g2 => ?_, fun _ => trivial⟩, fun _ => trivial⟩
    obtain ⟨rfl, rfl, rfl, rfl, rfl⟩ := litR_eq g1
    obtain ⟨rfl, rfl, rfl⟩ := litQ_eq g2
    exact ans_comes tLa_ok (cQn1 _ _ _ _)
  · rename_i x y q len a n c m t l c1 k d sh rows ty
    refine ⟨fun g1 => ⟨fun g2 => ⟨fun g3 => ⟨fun g4 => ⟨fun g5 => ?_, fun _ => trivial⟩, fun _ => trivial⟩, fun _ => trivial⟩, fun _ => trivial⟩, fun _ => trivial⟩
    rw [Bool.and_eq_true, beqT] at g1
    obtain ⟨rfl, rfl, rfl, rfl, rfl, rfl⟩ := litX_eq g1.1
    obtain rfl := g1.2
    obtain ⟨rfl, rfl, rfl⟩ := litY_eq g2
    have h : AnsOK Try.prog 29 [.ptr 0 0, .dsl 1 len] (q1 false n m l k rows) _ := eRCr_ok [.ptr 0 0, .dsl 1 len] (q1 false n m l k rows)
    have h2 := ((((h.1 (by rfl)).1 (by rfl)).1 g3).2 ((Bool.not_eq_true' _).mp g4)).1 g5
    exact meets_args (meets_fitV (j := 1) (l := l) (l' := l) (t := 3) h2 rfl (List.take_length ..)) fun E xs hxs => vec_dsl hxs
  · trivial
/-- Which pieces are kept, out of any numbers. -/
def eKp : Ent := fun args pre => match args, pre with
  | [.dsl a len, .int .i64 mi], [.flatI b l] => .chk (Nat.beq a 0) (.br (decide (mi = 0)) (.ret .nilslice [.flatI false l]) (.chk (askKp l len mi) (.br (keepS mi.toNat l).isEmpty (.ret .nilslice [.flatI false l]) (.ret (.vec 1 (keepS mi.toNat l).length) [.flatI false l, .vecI .i64 (keepS mi.toNat l) 3]))))
  | _, _ => .fail
theorem eKp_ok : EntOK Try.prog 22 eKp := fun args pre => by
  have h0 := eKp0_ok args pre
  have h1 := eKpE_ok args pre
  have h2 := eKpV_ok args pre
  unfold eKp0 at h0
  unfold eKpE at h1
  unfold eKpV at h2
  unfold eKp
  split
  · exact ⟨fun g1 => ⟨fun g2 => (h0.1 g1).1 g2, fun _ => ⟨fun g3 => ⟨fun g4 => ((h1.1 g1).1 g3).1 g4, fun g4 => ((h2.1 g1).1 g3).1 (by rw [g4]; rfl)⟩, fun _ => trivial⟩⟩, fun _ => trivial⟩
  · trivial
def eCrP : Ent := fun args pre => match args with
  | [_, .dsl _ _] => eCrD args pre
  | _ => eCrashV args pre
theorem eCrP_ok : EntOK Try.prog 21 eCrP := fun args pre => by
  unfold eCrP
  split
  · exact eCrD_ok _ _
  · exact eCrashV_ok _ _
def eCrR : Ent := fun args pre => match args with
  | [_, .dsl _ _] => eRCr args pre
  | _ => eRCrV args pre
theorem eCrR_ok : EntOK Try.prog 29 eCrR := fun args pre => by
  unfold eCrR
  split
  · exact eRCr_ok _ _
  · exact eRCrV_ok _ _
def tDo : Tab := [(25, eWrite), (27, eRWr), (24, eSync), (28, eRSy), (21, eCrP), (29, eCrR), (22, eKp), (23, ePick)]
theorem tDo_ok : TabOK Try.prog tDo := .cons eWrite_ok (.cons eRWr_ok (.cons eSync_ok (.cons eRSy_ok (.cons eCrP_ok (.cons eCrR_ok (.cons eKp_ok (.cons ePick_ok .nil)))))))
end Go.Proofs.Ytoekeplljjaehaa

/- Layer 26: two new disks of one to five sectors. -/
set_option linter.unusedVariables false
set_option linter.unusedSimpArgs false
namespace Go.Proofs.Ytoekeplljjaehaa
open Go Sx
def tTw : Tab := [(18, eNewD'), (19, eNewR'), (23, ePick)]
theorem tTw_ok : TabOK Try.prog tTw := .cons eNewD'_ok (.cons eNewR'_ok (.cons ePick_ok .nil))
def nTw (a : Int) : Int := IntKind.i64.wrap (64 * IntKind.i64.wrap (1 + pkI a 5))
/-- How many bytes: one to five sectors. -/
def szTw (a : Int) : Nat := 64 * (1 + pk a 5)
theorem nTw_nat {a : Int} (h : i64B a = true) : nTw a = (szTw a : Int) := by
  have e : pkI a 5 = (pk a 5 : Nat) := pkI_nat (n := 5) h
  have := pk_lt (c := a) (n := 5) (by omega)
  unfold nTw szTw
  have h1 : IntKind.i64.wrap (1 + ((pk a 5 : Nat) : Int)) = 1 + ((pk a 5 : Nat) : Int) := i64_in (by omega) (by omega)
  rw [e, h1, i64_in (by omega) (by omega)]; omega
theorem szTw_le (a : Int) : 64 ≤ szTw a ∧ szTw a ≤ 320 := by
  have := pk_lt (c := a) (n := 5) (by omega)
  unfold szTw; omega
theorem okN_tw {a : Int} (h : i64B a = true) : okN (nTw a) = true := by
  rw [nTw_nat h]
  have h1 := szTw_le a
  refine decide_eq_true ⟨by omega, by omega, ?_⟩
  unfold szTw
  rw [show ((64 * (1 + pk a 5) : Nat) : Int).tmod 64 = ((64 * (1 + pk a 5) % 64 : Nat) : Int) by rfl]
  omega
/-- A disk of the program and one of the document: nothing pending. -/
def t0 (n : Nat) (k t K : List UInt8) : List PObj := [.raw (.cells [.slice 2 0 n n, .slice 3 0 n n, .nilslice] dT), .raw (.cells [.vec 4 n, .nilslice] rT), .arrB k 5, .arrB t 5, .vecB K 5]
theorem cTw (a : Int) : Comes tTw nolv 11 [.int .i64 a] [] (.chk (i64B a) (.chk (okN (nTw a)) (.chk (okN (nTw a)) (.ret (.tuple [.ptr 0 0, .ptr 1 0]) (t0 (nTw a).toNat (zB (nTw a)) (zB (nTw a)) (zB (nTw a))))))) := by unfold Comes; kernel_rfl
def eTwo : Ent := fun args pre => match args, pre with
  | [.int .i64 a], [] => .chk (i64B a) (.ret (.tuple [.ptr 0 0, .ptr 1 0]) (t0 (szTw a) (List.replicate (szTw a) 0) (List.replicate (szTw a) 0) (List.replicate (szTw a) 0)))
  | _, _ => .fail
theorem eTwo_ok : EntOK Try.prog 11 eTwo := fun args pre => by
  unfold eTwo
  split
  · refine of_run (ans_comes tTw_ok (cTw _)) fun r hr => ?_
    obtain ⟨c1, hr⟩ := chk_run hr
    rw [← hr]; simp only [Ans.run, Ans.chk]
    rw [bcT c1, bcT (okN_tw c1), bcT (okN_tw c1)]
    unfold zB
    rw [nTw_nat c1, Int.toNat_natCast]
  · trivial
end Go.Proofs.Ytoekeplljjaehaa
