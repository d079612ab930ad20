/- Layer 26: a crash, as an entry. -/
import Derived.Test.YtoekeplljjaehaaGr06
set_option linter.unusedVariables false
set_option linter.unusedSimpArgs false
namespace Go.Proofs.Ytoekeplljjaehaa
open Go Sx
theorem mkB_m {m : Nat} (h : m ≤ 1099511627776) : mkB m = true := decide_eq_true (by omega)
def litW (x y q x3 y3 x4 y4 v d c1 c2 c3 ty : Nat) (sh : List CK) : Bool := Nat.beq x 0 && (Nat.beq y 0 && (Nat.beq q 1 && litK x3 y3 x4 y4 v d c1 c2 c3 ty sh))
theorem litW_eq {x y q x3 y3 x4 y4 v d c1 c2 c3 ty : Nat} {sh : List CK} (h : litW x y q x3 y3 x4 y4 v d c1 c2 c3 ty sh = true) : x = 0 ∧ y = 0 ∧ q = 1 ∧ litK x3 y3 x4 y4 v d c1 c2 c3 ty sh = true := by
  unfold litW at h
  simpa only [Bool.and_eq_true, beqT] using h
/-- What a crash asks: the numbers, and the pieces. -/
def askC (l : List Int) (len n n1 n2 n3 m : Nat) (k t : List UInt8) (rows : List (List CV)) : Bool := decide (l.length = len ∧ len ≤ 1099511627776 ∧ n1 = n ∧ n2 = n ∧ n3 = n ∧ rows.length = m ∧ m ≤ 1099511627776 ∧ k.length = n ∧ t.length = n ∧ n ≤ 1099511627776)
def eCrashV : Ent := fun args pre => match args, pre with
  | [.nilptr, .nilslice], [] => .ret (.int .i64 1) []
  | [.ptr x y, .nilslice], [.raw (.cells [.slice x1' y1 n n1, .slice x2' y2 n2 n3, .nilslice] d), .arrB k d1, .arrB t d2] => .chk (litD x y x1' y1 x2' y2 d d1 d2 n n1 n2 n3) (.chk (smN n k t) (.ret (.int .i64 0) (dk0 n k k)))
  | [.ptr x y, .nilslice], [.raw (.cells [.slice x1' y1 n n1, .slice x2' y2 n2 n3, .vec v m] d), .arrB k d1, .arrB t d2, .vecR sh rows ty] => .chk (litD x y x1' y1 x2' y2 d d1 d2 n n1 n2 n3) (.chk (litV v ty sh) (.chk (smN n k t) (.chk (decide (rows.length = m ∧ m ≤ 1099511627776)) (.ret (.int .i64 0) (dkv n k k rows)))))
  | [.ptr x y, .vec q len], [.raw (.cells [.slice x3 y3 n n1, .slice x4 y4 n2 n3, .vec v m] d), .vecI .i64 l c1, .arrB k c2, .arrB t c3, .vecR sh rows ty] =>
    .chk (litW x y q x3 y3 x4 y4 v d c1 c2 c3 ty sh) (.chk (askC l len n n1 n2 n3 m k t rows) (.chk (okK m (tk m) l) (.chk (rowsB n rows) (.ret (.int .i64 0) (postK l (layAll rows l k) (layAll rows l k) n rows)))))
  | _, _ => .fail
theorem cCn : Comes [] nolv 21 [.nilptr, .nilslice] [] (.ret (.int .i64 1) []) := by unfold Comes; kernel_rfl
theorem eCrashV_ok : EntOK Try.prog 21 eCrashV := fun args pre => by
  unfold eCrashV
  split
  · exact ans_comes .nil cCn
  · refine ⟨fun g1 => ⟨fun g2 => ?_, fun _ => trivial⟩, fun _ => trivial⟩
    obtain ⟨rfl, rfl, rfl, rfl, rfl, rfl, rfl, rfl, rfl, rfl, rfl, rfl⟩ := litD_eq g1
    obtain ⟨h1, h2, h3⟩ := smN_of g2
    refine of_run (ans_comes tNu_ok (cC0 _ _ _)) fun r hr => ?_
    have hs : smN _ _ _ = true := decide_eq_true ⟨h2, h1, h3⟩
    rw [← hr]; unfold xC0; rw [cpB_eq hs]; simp only [Ans.run, Ans.chk]; rw [bcT (cpC_eq hs)]
  · refine ⟨fun g1 => ⟨fun g2 => ⟨fun g3 => ⟨fun g4 => ?_, fun _ => trivial⟩, fun _ => trivial⟩, fun _ => trivial⟩, fun _ => trivial⟩
    obtain ⟨rfl, rfl, rfl, rfl, rfl, rfl, rfl, rfl, rfl, rfl, rfl, rfl⟩ := litD_eq g1
    obtain ⟨rfl, rfl, rfl⟩ := litV_eq g2
    obtain ⟨h1, h2, h3⟩ := smN_of g3
    refine of_run (ans_comes tNu_ok (cC1 _ _ _ _ _)) fun r hr => ?_
    have hs : smN _ _ _ = true := decide_eq_true ⟨h2, h1, h3⟩
    have g4 := of_decide_eq_true g4
    rw [← hr]; unfold xC1; rw [cpB_eq hs]; simp only [Ans.run, Ans.chk]; rw [bcT (mkB_m g4.2), bcT (cpC_eq hs)]
  · refine ⟨fun g1 => ⟨fun g2 => ⟨fun g3 => ⟨fun g4 => ?_, fun _ => trivial⟩, fun _ => trivial⟩, fun _ => trivial⟩, fun _ => trivial⟩
    obtain ⟨rfl, rfl, rfl, g1⟩ := litW_eq g1
    obtain ⟨rfl, rfl, rfl, rfl, rfl, rfl, rfl, rfl, rfl, rfl, rfl⟩ := litK_eq g1
    obtain ⟨h1, h2, rfl, rfl, rfl, h3, h4, h5, h6, h7⟩ := of_decide_eq_true g2
    subst h1
    subst h3
    refine of_run (ans_comes tNu_ok (cCr _ _ _ _ _ _ _) lvC_ok) fun r hr => ?_
    have hin : inK _ _ = true := List.all_eq_true.2 fun x hx => okK_in g3 x hx
    have hlen := layAll_len (k := _) g4 (okK_in g3) h5
    have hs : smN _ _ _ = true := decide_eq_true ⟨h6, hlen, h7⟩
    rw [← hr]; unfold xCr; rw [cpB_eq hs]; simp only [Ans.run, Ans.chk]
    rw [bcT (mkB_m h4), bcT (b := c1K _ _ _ _ _ _ _ _ _ _ _ _) (decide_eq_true ⟨rfl, rfl, rfl, h2, rfl, rfl, rfl, rfl, rfl, by unfold tk; simp⟩), bcT g3, bcT (b := c2K _ _ _ _ _ _ _ _ _ _ _) (decide_eq_true ⟨rfl, rfl, rfl, h2, rfl, rfl, rfl, rfl, h5, h7⟩), bcT g4, bcT hin, bcT (cpC_eq hs)]
  · trivial
end Go.Proofs.Ytoekeplljjaehaa

/- Layer 26: which pieces are kept, out of raw numbers. -/
set_option linter.unusedVariables false
set_option linter.unusedSimpArgs false
namespace Go.Proofs.Ytoekeplljjaehaa
open Go Sx
def keepS (m : Nat) (l : List Int) : List Int := keepL m (tk m) (l.take 20)
def c3K (i mi : Int) (l : List Int) (len a b : Nat) (tk' : List Bool) : Bool := decide (i = 0 ∧ l.length = len ∧ mi = (a : Int) ∧ b = a ∧ tk' = tk a ∧ 0 < a ∧ a ≤ 1099511627776)
def eKL : Nat → PState → LAns := fun K st => match K, st with
  | 1, ⟨some (.dsl z len) :: some (.int .i64 mi) :: none :: none :: none :: some .nilslice :: some (.slice x y a b) :: some (.int .i64 i) :: rs, some (.flatI false l) :: some (.arrT tk' c) :: rm⟩ =>
    .chk (Nat.beq z 0 && (Nat.beq x 1 && (Nat.beq y 0 && (Nat.beq c 4 && (noV 48 rs && noB 64 rm))))) (.chk (c3K i mi l len a b tk') (.chk (l.all i64B) (.br (keepS a l).isEmpty (.out (.exit 0) (sKNx l)) (.out (.exit 0) (sKVx l (keepS a l) (keepS a l).length)))))
  | _, _ => .fail
theorem eKL_ok (K : Nat) (st : PState) : LAnsOK Try.prog loopK1 K st (eKL K st) := by
  unfold eKL
  split
  · rename_i z len mi x y a b i rs l tk' c rm
    refine ⟨fun g1 => ⟨fun g2 => ⟨fun g3 => ?_, fun _ => trivial⟩, fun _ => trivial⟩, fun _ => trivial⟩
    simp only [Bool.and_eq_true, beqT] at g1
    obtain ⟨rfl, rfl, rfl, rfl, q1, q2⟩ := g1
    rw [noV_eq _ _ q1, noB_eq _ _ q2]
    obtain ⟨rfl, h1, rfl, rfl, rfl, h2, h3⟩ := of_decide_eq_true g2
    have hl := loopK h1 h2 h3 (fun x hx => List.all_eq_true.1 g3 x hx) 0 (tk b) [] ⟨by simp, by unfold tk; simp, by simp⟩
    rw [List.drop_zero, List.nil_append] at hl
    refine ⟨fun e => ?_, fun e => ?_⟩
    · have e := List.isEmpty_iff.1 e
      unfold keepS at e
      rw [e] at hl; exact hl
    · have hne : keepL b (tk b) (l.take 20) ≠ [] := fun e2 => by unfold keepS at e; rw [e2] at e; cases e
      have hx : keepXx l (keepL b (tk b) (l.take 20)) = sKVx l (keepS b l) (keepS b l).length := by
        unfold keepS
        cases hk : keepL b (tk b) (l.take 20) with
        | nil => exact absurd hk hne
        | cons c out => rfl
      rw [hx] at hl; exact hl
  · trivial
def lvK : FuncId → Lv := fun f => match f with
  | 22 => { keep := fun _ => some [0, 1, 5, 6, 7], ent := fun i => match i with | 4 => some eKL | _ => none }
  | _ => {}
theorem lvK_ok : LvOK Try.prog lvK := by
  intro f fn body hf hb K x hx id e hid he t
  by_cases h : f = 22
  · subst h
    obtain rfl : fn = Try.f22 := (Option.some.inj (Try.func22.symm.trans hf)).symm
    have hbody : body = bodyOf Try.f22 := by unfold bodyOf; rw [hb]; rfl
    subst hbody
    have h1 : loopBodies (bodyOf Try.f22) = [loopK1] := by kernel_rfl
    rw [h1] at hx
    have hx' := List.mem_singleton.1 hx
    have h2 : id = 4 := by
      have h3 : headReg loopK1 = some 4 := by kernel_rfl
      rw [hx', h3] at hid; exact (Option.some.inj hid).symm
    subst h2
    have he' : eKL = e := Option.some.inj he
    subst he'
    rw [hx']
    exact eKL_ok K t
  · exfalso
    have : (lvK f).ent id = none := by
      unfold lvK
      split
      · exact absurd rfl h
      · rfl
    rw [this] at he; cases he
def xKp (b : Bool) (l : List Int) (len m : Nat) : Ans :=
  .chk (mkB m) (.chk (c3K 0 m l len m m (tk m)) (.chk (l.all i64B) (.br (keepS m l).isEmpty (.ret .nilslice [.flatI false l]) (.ret (.vec 1 (keepS m l).length) [.flatI false l, .vecI .i64 (keepS m l) 3]))))
theorem cKp (b : Bool) (l : List Int) (len m : Nat) : Comes tPk lvK 22 [.dsl 0 len, .int .i64 m] [.flatI b l] (xKp b l len m) := by unfold Comes; kernel_rfl
theorem cK0 (b : Bool) (l : List Int) (len : Nat) : Comes tPk nolv 22 [.dsl 0 len, .int .i64 0] [.flatI b l] (.br (decide ((0 : Int) < (len : Int))) (.ret .nilslice [.flatI false l]) (.ret .nilslice [.flatI false l])) := by unfold Comes; kernel_rfl
def askKp (l : List Int) (len : Nat) (mi : Int) : Bool := decide (l.length = len ∧ 0 < mi ∧ mi ≤ 1099511627776) && l.all i64B
/-- Of nothing; of some, where none is kept; where some are. -/
def eKp0 : Ent := fun args pre => match args, pre with
  | [.dsl a len, .int .i64 mi], [.flatI b l] => .chk (Nat.beq a 0) (.chk (decide (mi = 0)) (.ret .nilslice [.flatI false l]))
  | _, _ => .fail
def eKpE : Ent := fun args pre => match args, pre with
  | [.dsl a len, .int .i64 mi], [.flatI b l] => .chk (Nat.beq a 0) (.chk (askKp l len mi) (.chk (keepS mi.toNat l).isEmpty (.ret .nilslice [.flatI false l])))
  | _, _ => .fail
def eKpV : Ent := fun args pre => match args, pre with
  | [.dsl a len, .int .i64 mi], [.flatI b l] => .chk (Nat.beq a 0) (.chk (askKp l len mi) (.chk (!(keepS mi.toNat l).isEmpty) (.ret (.vec 1 (keepS mi.toNat l).length) [.flatI false l, .vecI .i64 (keepS mi.toNat l) 3])))
  | _, _ => .fail
theorem eKp0_ok : EntOK Try.prog 22 eKp0 := fun args pre => by
  unfold eKp0
  split
  · refine ⟨fun g1 => ⟨fun g2 => ?_, fun _ => trivial⟩, fun _ => trivial⟩
    obtain rfl := beqT.1 g1
    have g2 := of_decide_eq_true g2
    subst g2
    refine of_run (ans_comes tPk_ok (cK0 _ _ _)) fun r hr => ?_
    rw [← hr]
    simp only [Ans.run]
    cases decide ((0 : Int) < _) <;> rfl
  · trivial
theorem askKp_of {l : List Int} {len : Nat} {mi : Int} (h : askKp l len mi = true) : ∃ m : Nat, mi = (m : Int) ∧ l.length = len ∧ 0 < m ∧ m ≤ 1099511627776 ∧ l.all i64B = true := by
  unfold askKp at h
  simp only [Bool.and_eq_true] at h
  obtain ⟨h1, h2, h3⟩ := of_decide_eq_true h.1
  obtain ⟨m, rfl⟩ := Int.eq_ofNat_of_zero_le (show 0 ≤ mi by omega)
  exact ⟨m, rfl, h1, by omega, by omega, h.2⟩
theorem eKpE_ok : EntOK Try.prog 22 eKpE := fun args pre => by
  unfold eKpE
  split
  · refine ⟨fun g1 => ⟨fun g2 => ⟨fun g3 => ?_, fun _ => trivial⟩, fun _ => trivial⟩, fun _ => trivial⟩
    obtain rfl := beqT.1 g1
    obtain ⟨m, rfl, h1, h2, h3, h4⟩ := askKp_of g2
    rw [Int.toNat_natCast] at g3
    refine of_run (ans_comes tPk_ok (cKp _ _ _ _) lvK_ok) fun r hr => ?_
    rw [← hr]; unfold xKp; simp only [Ans.run, Ans.chk]
    rw [bcT (mkB_m h3), bcT (b := c3K _ _ _ _ _ _ _) (decide_eq_true ⟨rfl, h1, rfl, rfl, rfl, h2, h3⟩), bcT h4, bcT g3]
  · trivial
theorem eKpV_ok : EntOK Try.prog 22 eKpV := fun args pre => by
  unfold eKpV
  split
  · refine ⟨fun g1 => ⟨fun g2 => ⟨fun g3 => ?_, fun _ => trivial⟩, fun _ => trivial⟩, fun _ => trivial⟩
    obtain rfl := beqT.1 g1
    obtain ⟨m, rfl, h1, h2, h3, h4⟩ := askKp_of g2
    simp only [Int.toNat_natCast] at g3 ⊢
    refine of_run (ans_comes tPk_ok (cKp _ _ _ _) lvK_ok) fun r hr => ?_
    rw [← hr]; unfold xKp; simp only [Ans.run, Ans.chk]
    rw [bcT (mkB_m h3), bcT (b := c3K _ _ _ _ _ _ _) (decide_eq_true ⟨rfl, h1, rfl, rfl, rfl, h2, h3⟩), bcT h4, bcF ((Bool.not_eq_true' _).mp g3)]
  · trivial
end Go.Proofs.Ytoekeplljjaehaa

/- Layer 26: the document's own pieces. -/
set_option linter.unusedVariables false
set_option linter.unusedSimpArgs false
namespace Go.Proofs.Ytoekeplljjaehaa
open Go Sx
abbrev qT : Nat := 58
noncomputable abbrev loopP1 : Code := (loopBodies (bodyOf Try.f26)).headD .skip
def slP (p : AV) (a : Int) (s : List UInt8) : List (Option AV) := some (.int .i64 a) :: some (.str s) :: none :: none :: none :: some p :: List.replicate 25 none
def slPx (p : AV) : List (Option AV) := none :: none :: none :: none :: none :: some p :: List.replicate 25 none
def sPN (a : Int) (s : List UInt8) : PState := ⟨slP .nilslice a s, List.replicate 64 none⟩
def sPV (rows : List (List CV)) (m : Nat) (a : Int) (s : List UInt8) : PState := ⟨slP (.vec 0 m) a s, some (.vecR shP rows qT) :: List.replicate 64 none⟩
def sPNx : PState := ⟨slPx .nilslice, List.replicate 64 none⟩
def sPVx (rows : List (List CV)) (m : Nat) : PState := ⟨slPx (.vec 0 m), some (.vecR shP rows qT) :: List.replicate 64 none⟩
def slM (a : Int) (s : List UInt8) : Bool := decide (0 ≤ mI a s ∧ (mI a s).toNat ≤ s.length)
theorem rP0 (a : Int) (s : List UInt8) : code (ent Try.prog [] nolv 64 1 20) Try.prog {} 0 64 1 loopP1 (sPN a s) (endK 0 64 (fun n => hasN [0, 1, 5] n) (fun n => hasN [5] n))
  = bcond (decide ((s.length : Int) > 0)) (chks (some (.normal, sPV [rJ a s] 1 (aJ a s) (sJ a s))) [slM a s, slM a s]) (some (.exit 0, sPNx)) := by kernel_rfl
theorem rP1 (rows : List (List CV)) (m : Nat) (a : Int) (s : List UInt8) : code (ent Try.prog [] nolv 64 1 20) Try.prog {} 0 64 1 loopP1 (sPV rows m a s) (endK 0 64 (fun n => hasN [0, 1, 5] n) (fun n => hasN [5] n))
  = bcond (decide ((s.length : Int) > 0)) (chks (some (.normal, sPV (rows ++ [rJ a s]) (m + 1) (aJ a s) (sJ a s))) [slM a s, decide (rows.length * 2 = m * 2) && roomB (m + 1) 24, slM a s]) (some (.exit 0, sPVx rows m)) := by kernel_rfl
def sPX (P : List (Nat × List UInt8)) (a : Int) (s : List UInt8) : PState := match P with
  | [] => sPN a s
  | p :: ps => sPV ((p :: ps).map rowOf) (p :: ps).length a s
def sPXx (P : List (Nat × List UInt8)) : PState := match P with
  | [] => sPNx
  | p :: ps => sPVx ((p :: ps).map rowOf) (p :: ps).length
theorem loopP (a : Nat) (s : List UInt8) (P : List (Nat × List UInt8)) (h : a + s.length ≤ 320 ∧ P.length + s.length ≤ 1000) :
    Tri Try.prog (.loop loopP1) (sPX P a s).toA (.exit 0) (sPXx (P ++ parts a s)).toA 0 := by
  refine loop_rounds (ent_sound (T := []) .nil host nolv_ok (NF := 64) (m := 1) 20) (NF := 64) (m := 1) loops_none (fun n => hasN [0, 1, 5] n) (fun n => hasN [5] n) (ι := { w : Nat × List UInt8 × List (Nat × List UInt8) // w.1 + w.2.1.length ≤ 320 ∧ w.2.2.length + w.2.1.length ≤ 1000 })
    (fun w => sPX w.1.2.2 (w.1.1 : Int) w.1.2.1) (fun w => w.1.2.1.length) (fun w => (.exit 0, sPXx (w.1.2.2 ++ parts w.1.1 w.1.2.1))) ?_ (fun _ => by simp) ⟨(a, s, P), h⟩
  rintro ⟨⟨a, s, P⟩, h1, h2⟩
  simp only at h1 h2
  by_cases hs : 0 < s.length
  · left
    have h3 := hd_le a s
    have h4 := hd_pos (a := a) hs
    have hm := mI_nat (s := s) (show a < 4611686018427387904 by omega)
    have hp := pI_nat (s := s) (show a < 4611686018427387904 by omega)
    have q1 : aJ (a : Int) s = ((a + hd a s : Nat) : Int) := by unfold aJ; rw [hm, i64_in (by omega) (by omega)]; omega
    have q2 : sJ (a : Int) s = s.drop (hd a s) := by
      unfold sJ; rw [hm, List.take_of_length_le]
      · rfl
      · rw [List.length_drop]; show s.length - hd a s ≤ _; exact Nat.le_refl _
    have q4 : rJ (a : Int) s = rowOf (a, s.take (hd a s)) := by unfold rJ rowOf; rw [hp]
    have q5 : slM (a : Int) s = true := decide_eq_true (by rw [hm]; exact ⟨by omega, h3⟩)
    refine ⟨⟨(a + hd a s, s.drop (hd a s), P ++ [(a, s.take (hd a s))]), by simp only [List.length_drop]; omega, by simp only [List.length_append, List.length_singleton, List.length_drop]; omega⟩, by simp only [List.length_drop]; omega, ?_, ?_⟩
    · simp only; rw [parts_cons hs, List.append_assoc]; rfl
    · cases P with
      | nil =>
        refine (rP0 a s).trans ?_
        rw [bcT (b := decide _) (decide_eq_true (by omega)), chks_true (bs := [_, _]) (by intro b hb; simp only [List.mem_cons, List.not_mem_nil, or_false, or_self] at hb; rw [hb]; exact q5), q1, q2, q4]; rfl
      | cons p ps =>
        refine (rP1 ((p :: ps).map rowOf) (p :: ps).length a s).trans ?_
        rw [bcT (b := decide _) (decide_eq_true (by omega)), chks_true (bs := [_, _, _]) (by
          intro b hb
          simp only [List.mem_cons, List.not_mem_nil, or_false] at hb
          rcases hb with rfl | rfl | rfl
          · exact q5
          · rw [decide_eq_true (by rw [List.length_map]), Bool.true_and]; exact decide_eq_true (by omega)
          · exact q5), q1, q2, q4]
        simp only [sPX, List.cons_append, List.map_cons, List.map_append, List.length_cons, List.length_append]; rfl
  · right
    have : s = [] := List.eq_nil_of_length_eq_zero (by omega)
    subst this
    simp only [parts_nil, List.append_nil]
    cases P with
    | nil => refine (rP0 a []).trans ?_; rw [bcF (b := decide _) (decide_eq_false (by simp))]; rfl
    | cons p ps => refine (rP1 ((p :: ps).map rowOf) (p :: ps).length a []).trans ?_; rw [bcF (b := decide _) (decide_eq_false (by simp))]; rfl
def eP1 : Nat → PState → LAns := fun K st => match K, st with
  | 0, ⟨some (.int .i64 a) :: some (.str s) :: none :: none :: none :: some .nilslice :: rs, rm⟩ =>
    .chk (noV 25 rs && noB 64 rm) (.chk (inD 320 a s.length) (.br (parts a.toNat s).isEmpty (.out (.exit 0) sPNx) (.out (.exit 0) (sPVx ((parts a.toNat s).map rowOf) (parts a.toNat s).length))))
  | _, _ => .fail
theorem eP1_ok (K : Nat) (st : PState) : LAnsOK Try.prog loopP1 K st (eP1 K st) := by
  unfold eP1
  split
  · rename_i a s rs rm
    refine ⟨fun g1 => ⟨fun g2 => ?_, fun _ => trivial⟩, fun _ => trivial⟩
    rw [Bool.and_eq_true] at g1
    rw [noV_eq _ _ g1.1, noB_eq _ _ g1.2]
    obtain ⟨h1, h2⟩ := of_decide_eq_true g2
    obtain ⟨a, rfl⟩ := Int.eq_ofNat_of_zero_le h1
    simp only [Int.ofNat_eq_natCast, Int.toNat_natCast] at h2 ⊢
    have hl := loopP a s [] ⟨h2, by simp; omega⟩
    rw [List.nil_append] at hl
    refine ⟨fun e => ?_, fun e => ?_⟩
    · rw [List.isEmpty_iff.1 e] at hl; exact hl
    · have hx : sPXx (parts a s) = sPVx ((parts a s).map rowOf) (parts a s).length := by
        cases hk : parts a s with
        | nil => rw [hk] at e; cases e
        | cons c out => rfl
      rw [hx] at hl; exact hl
  · trivial
def lvP : FuncId → Lv := fun f => match f with
  | 26 => { keep := fun _ => some [0, 1, 5], ent := fun i => match i with | 2 => some eP1 | _ => none }
  | _ => {}
theorem lvP_ok : LvOK Try.prog lvP := by
  intro f fn body hf hb K x hx id e hid he t
  by_cases h : f = 26
  · subst h
    obtain rfl : fn = Try.f26 := (Option.some.inj (Try.func26.symm.trans hf)).symm
    have hbody : body = bodyOf Try.f26 := by unfold bodyOf; rw [hb]; rfl
    subst hbody
    have h1 : loopBodies (bodyOf Try.f26) = [loopP1] := by kernel_rfl
    rw [h1] at hx
    have hx' := List.mem_singleton.1 hx
    have h2 : id = 2 := by
      have h3 : headReg loopP1 = some 2 := by kernel_rfl
      rw [hx', h3] at hid; exact (Option.some.inj hid).symm
    subst h2
    have he' : eP1 = e := Option.some.inj he
    subst he'
    rw [hx']
    exact eP1_ok K t
  · exfalso
    have : (lvP f).ent id = none := by
      unfold lvP
      split
      · exact absurd rfl h
      · rfl
    rw [this] at he; cases he
theorem cPa (a : Int) (s : List UInt8) : Comes [] lvP 26 [.int .i64 a, .str s] [] (.chk (inD 320 a s.length) (.br (parts a.toNat s).isEmpty (.ret .nilslice []) (.ret (.vec 0 (parts a.toNat s).length) [.vecR shP ((parts a.toNat s).map rowOf) qT]))) := by unfold Comes; kernel_rfl
/-- Of nothing; of some bytes. -/
def ePa0 : Ent := fun args pre => match args, pre with
  | [.int .i64 a, .str s], [] => .chk (inD 320 a s.length) (.chk (parts a.toNat s).isEmpty (.ret .nilslice []))
  | _, _ => .fail
def ePaV : Ent := fun args pre => match args, pre with
  | [.int .i64 a, .str s], [] => .chk (inD 320 a s.length) (.chk (!(parts a.toNat s).isEmpty) (.ret (.vec 0 (parts a.toNat s).length) [.vecR shP ((parts a.toNat s).map rowOf) qT]))
  | _, _ => .fail
theorem ePa0_ok : EntOK Try.prog 26 ePa0 := fun args pre => by
  unfold ePa0
  split
  · refine of_run (ans_comes .nil (cPa _ _) lvP_ok) fun r hr => ?_
    obtain ⟨c1, hr⟩ := chk_run hr
    obtain ⟨c2, hr⟩ := chk_run hr
    rw [← hr]; simp only [Ans.run, Ans.chk]; rw [bcT c1, bcT c2]
  · trivial
theorem ePaV_ok : EntOK Try.prog 26 ePaV := fun args pre => by
  unfold ePaV
  split
  · refine of_run (ans_comes .nil (cPa _ _) lvP_ok) fun r hr => ?_
    obtain ⟨c1, hr⟩ := chk_run hr
    obtain ⟨c2, hr⟩ := chk_run hr
    rw [← hr]; simp only [Ans.run, Ans.chk]; rw [bcT c1, bcF ((Bool.not_eq_true' _).mp c2)]
  · trivial
end Go.Proofs.Ytoekeplljjaehaa

/- Layer 26: what was synced stays: the inner loop. -/
set_option linter.unusedVariables false
set_option linter.unusedSimpArgs false
namespace Go.Proofs.Ytoekeplljjaehaa
open Go Sx
noncomputable abbrev loopS1 : Code := (loopBodies (bodyOf Try.f4)).headD .skip
noncomputable abbrev loopS2 : Code := ((loopBodies (bodyOf Try.f4)).drop 1).headD .skip
def meS (r1 r2 : List (List CV)) (ks : List Int) (k t : List UInt8) : List (Option PObj) := some (fr r1) :: some (fr r2) :: some (.flatI false ks) :: some (.raw (.cells [.slice 4 0 320 320, .slice 5 0 320 320, .nilslice] dT)) :: some (.arrB k 5) :: some (.arrB t 5) :: List.replicate 64 none
def sIn (l2 : Nat) (r1 r2 : List (List CV)) (ks : List Int) (w v k t : List UInt8) (i : Int) (b : Bool) (j : Int) : PState :=
  ⟨none :: some (.dsl 1 l2) :: none :: none :: none :: none :: none :: some (.bool true) :: some (.ptr 3 0) :: some (.str w) :: none :: some (.str v) :: some (.int .i64 i) :: some (.bool b) :: some (.int .i64 j) :: List.replicate 83 none, meS r1 r2 ks k t⟩
def sInX (l2 : Nat) (r1 r2 : List (List CV)) (ks : List Int) (w v k t : List UInt8) (i : Int) (b : Bool) : PState :=
  ⟨none :: some (.dsl 1 l2) :: none :: none :: none :: none :: none :: some (.bool true) :: some (.ptr 3 0) :: some (.str w) :: none :: some (.str v) :: some (.int .i64 i) :: some (.bool b) :: List.replicate 84 none, meS r1 r2 ks k t⟩
def sOut (l2 : Nat) (r1 r2 : List (List CV)) (ks : List Int) (w v k t : List UInt8) (i : Int) : PState :=
  ⟨none :: some (.dsl 1 l2) :: none :: none :: none :: none :: none :: some (.bool true) :: some (.ptr 3 0) :: some (.str w) :: none :: some (.str v) :: some (.int .i64 i) :: List.replicate 85 none, meS r1 r2 ks k t⟩
def roundI {α : Type} (l2 : Nat) (r2 : List (List CV)) (i j : Int) (b : Bool) (z : Bool → Option α) (x : Option α) : Option α :=
  bcond (decide (j < (l2 : Int))) (bcond (decide (j < 8)) (chks (bcond b (z true) (bcond (decide (i ≥ aF (Sx.rowAt r2 j.toNat))) (chks (z (decide (IntKind.i64.wrap (i - aF (Sx.rowAt r2 j.toNat)) < ((sC (Sx.rowAt r2 j.toNat)).length : Int)))) [bF j l2, rF j r2]) (z false)))
    [bF j l2, rF j r2, i64B (atC (Sx.rowAt r2 j.toNat))]) x) x
theorem rIn (l2 : Nat) (r1 r2 : List (List CV)) (ks : List Int) (w v k t : List UInt8) (i : Int) (b : Bool) (j : Int) : code (ent Try.prog tPk nolv 64 1 20) Try.prog {} 3 64 1 loopS2 (sIn l2 r1 r2 ks w v k t i b j) (endK 3 64 (fun n => hasN [1, 7, 8, 9, 11, 12, 13, 14] n) (fun n => hasN [1, 7, 8, 9, 11, 12, 13] n))
  = roundI l2 r2 i j b (fun c => some (.normal, sIn l2 r1 r2 ks w v k t i c (iN j))) (some (.exit 2, sInX l2 r1 r2 ks w v k t i b)) := by kernel_rfl
/-- Does a row write there? -/
def hit (i : Int) (r : List CV) : Bool := decide ((aN r : Int) ≤ i ∧ i - (aN r : Int) < ((sC r).length : Int))
theorem loopIn {l2 : Nat} {r1 r2 : List (List CV)} {ks : List Int} {w v k t : List UInt8} {i : Int} (hi : 0 ≤ i ∧ i ≤ 320) (hl : r2.length = l2) (hr : ∀ r ∈ r2, i64B (atC r) = true) (b : Bool) (j : Nat) (hj : j ≤ min l2 8) :
    Tri Try.prog (.loop loopS2) (sIn l2 r1 r2 ks w v k t i b j).toA (.exit 2) (sInX l2 r1 r2 ks w v k t i (b || ((r2.take 8).drop j).any (hit i))).toA 3 := by
  refine loop_rounds (ent_sound (T := tPk) tPk_ok host nolv_ok (NF := 64) (m := 1) 20) (NF := 64) (m := 1) loops_none (fun n => hasN [1, 7, 8, 9, 11, 12, 13, 14] n) (fun n => hasN [1, 7, 8, 9, 11, 12, 13] n) (ι := { w : Nat × Bool // w.1 ≤ min l2 8 })
    (fun x => sIn l2 r1 r2 ks w v k t i x.1.2 (x.1.1 : Int)) (fun x => 8 - x.1.1) (fun x => (.exit 2, sInX l2 r1 r2 ks w v k t i (x.1.2 || ((r2.take 8).drop x.1.1).any (hit i)))) ?_ (fun _ => by simp) ⟨(j, b), hj⟩
  rintro ⟨⟨j, b⟩, hj⟩
  simp only at hj
  by_cases h : j < min l2 8
  · left
    have hj1 : j < r2.length := by omega
    have hrow : Sx.rowAt r2 j = r2[j] := by unfold Sx.rowAt; rw [List.getD_eq_getElem?_getD, List.getElem?_eq_getElem hj1]; rfl
    have hat := hr r2[j] (List.getElem_mem hj1)
    have hlt := aN_lt r2[j]
    have hdrop : (r2.take 8).drop j = r2[j] :: (r2.take 8).drop (j + 1) := by
      rw [List.drop_eq_getElem_cons (by rw [List.length_take]; omega)]; congr 1; rw [List.getElem_take]
    refine ⟨⟨(j + 1, b || hit i r2[j]), by simp only; omega⟩, by simp only; omega, ?_, ?_⟩
    · simp only; rw [hdrop, List.any_cons, Bool.or_assoc]
    · refine (rIn l2 r1 r2 ks w v k t i b j).trans ?_
      have e1 : bF (j : Int) l2 = true := decide_eq_true (by omega)
      have e2 : rF (j : Int) r2 = true := by unfold rF; rw [Bool.and_true]; exact decide_eq_true hj1
      unfold roundI
      simp only [Int.toNat_natCast, hrow]
      rw [bcT (b := decide ((j : Int) < _)) (decide_eq_true (by omega)), bcT (b := decide ((j : Int) < _)) (decide_eq_true (by omega)), chks_true (bs := [_, _, _]) (by
        intro c hc
        simp only [List.mem_cons, List.not_mem_nil, or_false] at hc
        rcases hc with rfl | rfl | rfl
        · exact e1
        · exact e2
        · exact hat), chks_true (bs := [_, _]) (by
        intro c hc
        simp only [List.mem_cons, List.not_mem_nil, or_false] at hc
        rcases hc with rfl | rfl
        · exact e1
        · exact e2), iN_nat (by omega), aF_nat hat, i64_in (by omega) (by omega)]
      cases b with
      | true => rfl
      | false =>
        rw [bcF rfl, Bool.false_or]
        unfold hit
        by_cases c1 : (aN r2[j] : Int) ≤ i
        · rw [bcT (b := decide _) (decide_eq_true c1)]
          congr 3
          simp [c1]
        · rw [bcF (b := decide _) (decide_eq_false c1), decide_eq_false (fun e => c1 e.1)]
  · right
    have hd : (r2.take 8).drop j = [] := List.drop_of_length_le (by rw [List.length_take]; omega)
    simp only [hd, List.any_nil, Bool.or_false]
    refine (rIn l2 r1 r2 ks w v k t i b j).trans ?_
    unfold roundI
    by_cases h4 : j < l2
    · rw [bcT (b := decide _) (decide_eq_true (by omega)), bcF (b := decide _) (decide_eq_false (by omega))]
    · rw [bcF (b := decide _) (decide_eq_false (by omega))]
end Go.Proofs.Ytoekeplljjaehaa

/- Layer 26: all pieces are kept, or none: disks that are filled with some pending, or none; the law's loop. -/
set_option linter.unusedVariables false
set_option linter.unusedSimpArgs false
namespace Go.Proofs.Ytoekeplljjaehaa
open Go Sx
/-- Disks with nothing pending; with something. -/
def eFilN : Ent := fun args pre => match args, pre with
  | [.dsl a l1, .dsl b l2], [.raw (.flatR m1 sh1 r1), .raw (.flatR m2 sh2 r2)] => .chk (Nat.beq a 0 && (Nat.beq b 1 && (eqA sh1 && eqA sh2))) (.chk (okA l1 r1) (.chk (okA l2 r2) (.chk (fillP (r2.take 8)).isEmpty (.ret (.ptr 2 0) (fr r1 :: fr r2 :: dkA0 2 320 (sT1 r1) (sT2 r1 r2))))))
  | [.dsl a l1, .nilslice], [.raw (.flatR m1 sh1 r1)] => .chk (Nat.beq a 0 && eqA sh1) (rFill1 l1 r1)
  | _, _ => .fail
def eFilV : Ent := fun args pre => match args, pre with
  | [.dsl a l1, .dsl b l2], [.raw (.flatR m1 sh1 r1), .raw (.flatR m2 sh2 r2)] => .chk (Nat.beq a 0 && (Nat.beq b 1 && (eqA sh1 && eqA sh2))) (.chk (okA l1 r1) (.chk (okA l2 r2) (.chk (!(fillP (r2.take 8)).isEmpty) (.ret (.ptr 2 0) (fr r1 :: fr r2 :: dkA1 2 320 (sT1 r1) (sT2 r1 r2) ((fillP (r2.take 8)).map rowOf) (fillP (r2.take 8)).length)))))
  | [.dsl a l1, .nilslice], [.raw (.flatR m1 sh1 r1)] => .chk (Nat.beq a 0 && eqA sh1) (rFill1 l1 r1)
  | _, _ => .fail
theorem eFilN_ok : EntOK Try.prog 20 eFilN := fun args pre => by
  refine of_run (eFilled_ok args pre) fun r hr => ?_
  unfold eFilN at hr
  unfold eFilled
  split at hr
  · obtain ⟨c1, hr⟩ := chk_run hr
    obtain ⟨c2, hr⟩ := chk_run hr
    obtain ⟨c3, hr⟩ := chk_run hr
    obtain ⟨c4, hr⟩ := chk_run hr
    unfold rFill
    simp only [Ans.run, Ans.chk] at hr ⊢
    rw [bcT c1, bcT c2, bcT c3, bcT c4]; exact hr
  · exact hr
  · cases hr
theorem eFilV_ok : EntOK Try.prog 20 eFilV := fun args pre => by
  refine of_run (eFilled_ok args pre) fun r hr => ?_
  unfold eFilV at hr
  unfold eFilled
  split at hr
  · obtain ⟨c1, hr⟩ := chk_run hr
    obtain ⟨c2, hr⟩ := chk_run hr
    obtain ⟨c3, hr⟩ := chk_run hr
    obtain ⟨c4, hr⟩ := chk_run hr
    unfold rFill
    simp only [Ans.run, Ans.chk] at hr ⊢
    rw [bcT c1, bcT c2, bcT c3, bcF ((Bool.not_eq_true' _).mp c4)]; exact hr
  · exact hr
  · cases hr
def tAn (e : Ent) : Tab := [(21, eCrashV), (24, eSync), (13, eReadI), (20, e), (10, eTrue)]
theorem tAn_ok {e : Ent} (h : EntOK Try.prog 20 e) : TabOK Try.prog (tAn e) := .cons eCrashV_ok (.cons eSync_ok (.cons eReadI_ok (.cons h (.cons awake_ok .nil))))
end Go.Proofs.Ytoekeplljjaehaa

/- Layer 26: all pieces are kept: the law's loop. -/
set_option linter.unusedVariables false
set_option linter.unusedSimpArgs false
namespace Go.Proofs.Ytoekeplljjaehaa
open Go Sx
def cel (x y z n m : Nat) : Option PObj := some (.raw (.cells [.slice x 0 n n, .slice y 0 n n, .vec z m] dT))
def three (k t : List UInt8) (rows : List (List CV)) : List (Option PObj) := [some (.arrB k 5), some (.arrB t 5), some (.vecR shP rows pT), some (.arrB k 5), some (.arrB t 5), some (.vecR shP rows pT), some (.arrB k 5), some (.arrB t 5), some (.vecR shP rows pT)]
def slN (l1 : Nat) (w : List UInt8) (p : AV) (i : Option AV) : List (Option AV) := some (.dsl 0 l1) :: none :: none :: none :: none :: some (.bool true) :: some (.ptr 2 0) :: some (.ptr 3 0) :: some (.ptr 4 0) :: some (.str w) :: some p :: i :: List.replicate 72 none
def sN0 (l1 : Nat) (r1 r2 : List (List CV)) (w k t : List UInt8) (rows : List (List CV)) (m : Nat) : PState :=
  ⟨slN l1 w .nilslice (some (.int .i64 0)), some (fr r1) :: some (fr r2) :: cel 5 6 7 320 m :: cel 8 9 10 320 m :: cel 11 12 13 320 m :: three k t rows ++ List.replicate 64 none⟩
def memV (r1 r2 : List (List CV)) (k t : List UInt8) (rows : List (List CV)) (m : Nat) (l : List Int) : List (Option PObj) := some (fr r1) :: some (fr r2) :: cel 6 7 8 320 m :: cel 9 10 11 320 m :: cel 12 13 14 320 m :: some (.vecI .i64 l 3) :: three k t rows ++ List.replicate 64 none
def sNV (l1 : Nat) (r1 r2 : List (List CV)) (w k t : List UInt8) (rows : List (List CV)) (m : Nat) (i : Int) (len : Nat) (l : List Int) : PState := ⟨slN l1 w (.vec 5 len) (some (.int .i64 i)), memV r1 r2 k t rows m l⟩
def sNX (l1 : Nat) (r1 r2 : List (List CV)) (w k t : List UInt8) (rows : List (List CV)) (m : Nat) (len : Nat) (l : List Int) : PState := ⟨slN l1 w (.vec 5 len) none, memV r1 r2 k t rows m l⟩
noncomputable abbrev loopN1 : Code := (loopBodies (bodyOf Try.f5)).headD .skip
set_option maxRecDepth 100000
theorem rN0 (l1 : Nat) (r1 r2 : List (List CV)) (w k t : List UInt8) (rows : List (List CV)) (m : Nat) : code (ent Try.prog (tAn eFilV) nolv 64 1 20) Try.prog {} 2 64 1 loopN1 (sN0 l1 r1 r2 w k t rows m) (endK 2 64 (fun n => hasN [0, 5, 6, 7, 8, 9, 10, 11] n) (fun n => hasN [0, 5, 6, 7, 8, 9, 10] n))
  = bcond (decide ((0 : Int) < (m : Int))) (some (.normal, sNV l1 r1 r2 w k t rows m (iN 0) 1 [0])) (some (.exit 0, ⟨slN l1 w .nilslice none, (sN0 l1 r1 r2 w k t rows m).mem⟩)) := by kernel_rfl
theorem rNV (l1 : Nat) (r1 r2 : List (List CV)) (w k t : List UInt8) (rows : List (List CV)) (m : Nat) (i : Int) (len : Nat) (l : List Int) : code (ent Try.prog (tAn eFilV) nolv 64 1 20) Try.prog {} 2 64 1 loopN1 (sNV l1 r1 r2 w k t rows m i len l) (endK 2 64 (fun n => hasN [0, 5, 6, 7, 8, 9, 10, 11] n) (fun n => hasN [0, 5, 6, 7, 8, 9, 10] n))
  = bcond (decide (i < (m : Int))) (chks (some (.normal, sNV l1 r1 r2 w k t rows m (iN i) (len + 1) (l ++ [i]))) [decide (l.length = len * 1) && roomB (len + 1) 8]) (some (.exit 0, sNX l1 r1 r2 w k t rows m len l)) := by kernel_rfl
end Go.Proofs.Ytoekeplljjaehaa

/- Layer 26: all pieces are kept: the law's loop, all rounds; the law, evaluated. -/
set_option linter.unusedVariables false
set_option linter.unusedSimpArgs false
namespace Go.Proofs.Ytoekeplljjaehaa
open Go Sx
/-- The numbers below one. -/
def upto (m : Nat) : List Int := (List.range m).map fun j => ((j : Nat) : Int)
theorem upto_len (m : Nat) : (upto m).length = m := by unfold upto; simp
theorem upto_succ (m : Nat) : upto (m + 1) = upto m ++ [(m : Int)] := by unfold upto; rw [List.range_succ, List.map_append]; rfl
theorem loopN {l1 : Nat} {r1 r2 : List (List CV)} {w k t : List UInt8} {rows : List (List CV)} {m : Nat} (h0 : 0 < m) (hm : m ≤ 1099511627776) :
    Tri Try.prog (.loop loopN1) (sN0 l1 r1 r2 w k t rows m).toA (.exit 0) (sNX l1 r1 r2 w k t rows m m (upto m)).toA 2 := by
  refine loop_rounds (ent_sound (T := tAn eFilV) (tAn_ok eFilV_ok) host nolv_ok (NF := 64) (m := 1) 20) (NF := 64) (m := 1) loops_none (fun n => hasN [0, 5, 6, 7, 8, 9, 10, 11] n) (fun n => hasN [0, 5, 6, 7, 8, 9, 10] n) (ι := { j : Nat // j ≤ m })
    (fun j => match j.1 with | 0 => sN0 l1 r1 r2 w k t rows m | j + 1 => sNV l1 r1 r2 w k t rows m ((j + 1 : Nat) : Int) (j + 1) (upto (j + 1))) (fun j => m - j.1) (fun _ => (.exit 0, sNX l1 r1 r2 w k t rows m m (upto m))) ?_ (fun _ => by simp) ⟨0, Nat.zero_le _⟩
  rintro ⟨j, hj⟩
  cases j with
  | zero =>
    refine .inl ⟨⟨1, h0⟩, by simp only; omega, rfl, ?_⟩
    refine (rN0 l1 r1 r2 w k t rows m).trans ?_
    rw [bcT (b := decide _) (decide_eq_true (by omega))]
    have e : iN 0 = ((0 + 1 : Nat) : Int) := iN_nat (j := 0) (by omega)
    rw [e]; rfl
  | succ j =>
    by_cases h : j + 1 < m
    · refine .inl ⟨⟨j + 2, h⟩, by simp only; omega, rfl, ?_⟩
      refine (rNV l1 r1 r2 w k t rows m ((j + 1 : Nat) : Int) (j + 1) (upto (j + 1))).trans ?_
      rw [bcT (b := decide _) (decide_eq_true (by omega)), chks_true (by
        intro b hb
        rw [List.mem_singleton.1 hb, upto_len, decide_eq_true (by omega), Bool.true_and]
        exact decide_eq_true (by omega)), iN_nat (j := j + 1) (by omega), ← upto_succ]
    · refine .inr ?_
      have : m = j + 1 := by omega
      subst this
      refine (rNV l1 r1 r2 w k t rows (j + 1) ((j + 1 : Nat) : Int) (j + 1) (upto (j + 1))).trans ?_
      rw [bcF (b := decide _) (decide_eq_false (by omega))]
noncomputable def eqSt (a b : PState) : Bool := @decide (a = b) (Classical.propDecidable _)
theorem eqSt_of {a b : PState} (h : eqSt a b = true) : a = b := by unfold eqSt at h; exact @of_decide_eq_true _ (Classical.propDecidable _) h
theorem eqSt_refl (a : PState) : eqSt a a = true := by unfold eqSt; exact @decide_eq_true _ (Classical.propDecidable _) rfl
def posM (m : Nat) : Bool := decide (0 < m ∧ m ≤ 1099511627776)
noncomputable def eNL (l1 : Nat) (r1 r2 : List (List CV)) (w k t : List UInt8) (rows : List (List CV)) (m : Nat) : Nat → PState → LAns := fun K st =>
  .chk (Nat.beq K 2) (.chk (eqSt st (sN0 l1 r1 r2 w k t rows m)) (.chk (posM m) (.out (.exit 0) (sNX l1 r1 r2 w k t rows m m (upto m)))))
theorem eNL_ok (l1 : Nat) (r1 r2 : List (List CV)) (w k t : List UInt8) (rows : List (List CV)) (m : Nat) (K : Nat) (st : PState) : LAnsOK Try.prog loopN1 K st (eNL l1 r1 r2 w k t rows m K st) := by
  unfold eNL
  refine ⟨fun g1 => ⟨fun g2 => ⟨fun g3 => ?_, fun _ => trivial⟩, fun _ => trivial⟩, fun _ => trivial⟩
  obtain rfl := beqT.1 g1
  obtain rfl := eqSt_of g2
  obtain ⟨h1, h2⟩ := of_decide_eq_true g3
  exact loopN h1 h2
noncomputable def lvN (l1 : Nat) (r1 r2 : List (List CV)) (w k t : List UInt8) (rows : List (List CV)) (m : Nat) : FuncId → Lv := fun f => match f with
  | 5 => { keep := fun _ => some [0, 5, 6, 7, 8, 9, 10, 11], ent := fun i => match i with | 8 => some (eNL l1 r1 r2 w k t rows m) | _ => none }
  | _ => {}
theorem lvN_ok (l1 : Nat) (r1 r2 : List (List CV)) (w k t : List UInt8) (rows : List (List CV)) (m : Nat) : LvOK Try.prog (lvN l1 r1 r2 w k t rows m) := by
  intro f fn body hf hb K x hx id e hid he st
  by_cases h : f = 5
  · subst h
    obtain rfl : fn = Try.f5 := (Option.some.inj (Try.func5.symm.trans hf)).symm
    have hbody : body = bodyOf Try.f5 := by unfold bodyOf; rw [hb]; rfl
    subst hbody
    have h1 : loopBodies (bodyOf Try.f5) = [loopN1] := by kernel_rfl
    rw [h1] at hx
    have hx' := List.mem_singleton.1 hx
    have h2 : id = 8 := by
      have h3 : headReg loopN1 = some 8 := by kernel_rfl
      rw [hx', h3] at hid; exact (Option.some.inj hid).symm
    subst h2
    have he' : eNL l1 r1 r2 w k t rows m = e := Option.some.inj he
    subst he'
    rw [hx']
    exact eNL_ok l1 r1 r2 w k t rows m K st
  · exfalso
    have : (lvN l1 r1 r2 w k t rows m f).ent id = none := by
      unfold lvN
      split
      · exact absurd rfl h
      · rfl
    rw [this] at he; cases he
def allS (t : List UInt8) : List UInt8 := (t.drop (Int.toNat 0)).take (Int.toNat 320)
def vB (rows : List (List CV)) (m : Nat) : Bool := decide (rows.length = m ∧ m ≤ 1099511627776)
def endN (l1 : Nat) (r1 r2 : List (List CV)) (k t a : List UInt8) : Ans :=
  .chk (smN 320 a a) (.br (allS a == allS t) (.chk (smN 320 k k) (.chk (okA l1 r1) (.chk (smN 320 k k) (.br (allS k == allS k) (.chk (smN 320 t t) (.ret (.bool (allS t == allS t)) [fr r1, fr r2])) (.ret (.bool false) [fr r1, fr r2]))))) (.ret (.bool false) [fr r1, fr r2]))
def xN0 (l1 l2 : Nat) (r1 r2 : List (List CV)) : Ans :=
  ansChks (endN l1 r1 r2 (sT1 r1) (sT2 r1 r2) (sT1 r1)) [okA l1 r1, okA l2 r2, (fillP (r2.take 8)).isEmpty, okA l1 r1, okA l2 r2, (fillP (r2.take 8)).isEmpty, okA l1 r1, okA l2 r2, (fillP (r2.take 8)).isEmpty,
    smN 320 (sT1 r1) (sT2 r1 r2), smN 320 (sT1 r1) (sT2 r1 r2), smN 320 (sT1 r1) (sT2 r1 r2), smN 320 (sT1 r1) (sT2 r1 r2), smN 320 (sT2 r1 r2) (sT2 r1 r2)]
noncomputable def xNV (l1 l2 : Nat) (r1 r2 : List (List CV)) (rows : List (List CV)) (m : Nat) : Ans :=
  ansChks (endN l1 r1 r2 (sT1 r1) (sT2 r1 r2) (layAll rows (upto m) (sT1 r1))) [okA l1 r1, okA l2 r2, !(fillP (r2.take 8)).isEmpty, okA l1 r1, okA l2 r2, !(fillP (r2.take 8)).isEmpty, okA l1 r1, okA l2 r2, !(fillP (r2.take 8)).isEmpty,
    smN 320 (sT1 r1) (sT2 r1 r2), vB rows m, eqSt (sN0 l1 r1 r2 (allS (sT2 r1 r2)) (sT1 r1) (sT2 r1 r2) rows m) (sN0 l1 r1 r2 (allS (sT2 r1 r2)) (sT1 r1) (sT2 r1 r2) rows m), posM m,
    askC (upto m) m 320 320 320 320 m (sT1 r1) (sT2 r1 r2) rows, okK m (tk m) (upto m), rowsB 320 rows, smN 320 (sT1 r1) (sT2 r1 r2), vB rows m, smN 320 (sT1 r1) (sT2 r1 r2), vB rows m, smN 320 (sT2 r1 r2) (sT2 r1 r2)]
end Go.Proofs.Ytoekeplljjaehaa

/- Layer 26: what was synced stays: the inner loop, told. -/
set_option linter.unusedVariables false
set_option linter.unusedSimpArgs false
namespace Go.Proofs.Ytoekeplljjaehaa
open Go Sx
noncomputable def clB (p : Prop) : Bool := @decide p (Classical.propDecidable p)
theorem clB_of {p : Prop} (h : clB p = true) : p := by unfold clB at h; exact @of_decide_eq_true _ (Classical.propDecidable p) h
theorem clB_to {p : Prop} (h : p) : clB p = true := by unfold clB; exact @decide_eq_true _ (Classical.propDecidable p) h
def rng (i : Int) : Bool := decide (0 ≤ i ∧ i ≤ 320)
def anyB (r2 : List (List CV)) (i : Int) : Bool := (r2.take 8).any (hit i)
noncomputable def eInL (l2 : Nat) (r1 r2 : List (List CV)) (ks : List Int) (w v k t : List UInt8) : Nat → PState → LAns := fun K st =>
  match (st.slots[12]?).join with
  | some (AV.int IntKind.i64 i) => .chk (Nat.beq K 3) (.chk (eqSt st (sIn l2 r1 r2 ks w v k t i false 0)) (.chk (rng i) (.chk (okA l2 r2) (.out (.exit 2) (sInX l2 r1 r2 ks w v k t i (anyB r2 i))))))
  | _ => .fail
theorem eInL_ok (l2 : Nat) (r1 r2 : List (List CV)) (ks : List Int) (w v k t : List UInt8) (K : Nat) (st : PState) : LAnsOK Try.prog loopS2 K st (eInL l2 r1 r2 ks w v k t K st) := by
  unfold eInL
  split
  · refine ⟨fun g1 => ⟨fun g2 => ⟨fun g3 => ⟨fun g4 => ?_, fun _ => trivial⟩, fun _ => trivial⟩, fun _ => trivial⟩, fun _ => trivial⟩
    obtain rfl := beqT.1 g1
    obtain rfl := eqSt_of g2
    obtain ⟨h1, h2⟩ := okA_of g4
    have := loopIn (r1 := r1) (ks := ks) (w := w) (v := v) (k := k) (t := t) (of_decide_eq_true g3) h1 h2 false 0 (Nat.zero_le _)
    rw [List.drop_zero, Bool.false_or] at this
    exact this
  · trivial
end Go.Proofs.Ytoekeplljjaehaa

/- Layer 26: pieces that are torn: the inner loop. -/
set_option linter.unusedVariables false
set_option linter.unusedSimpArgs false
namespace Go.Proofs.Ytoekeplljjaehaa
open Go Sx
noncomputable abbrev loopT1 : Code := (loopBodies (bodyOf Try.f7)).headD .skip
noncomputable abbrev loopT2 : Code := ((loopBodies (bodyOf Try.f7)).drop 1).headD .skip
def slT (w v : List UInt8) (m : Nat) (p : AV) (k : Int) (rest : List (Option AV)) : List (Option AV) :=
  none :: none :: none :: none :: none :: none :: none :: none :: none :: some (.bool true) :: none :: some (.str w) :: none :: none :: none :: some (.vec 2 m) :: some p :: none :: some (.str v) :: some (.int .i64 k) :: rest
def meT (r1 : List (List CV)) (ks : List Int) (rows : List (List CV)) (kept : List Int) : List (Option PObj) := some (fr r1) :: some (.flatI false ks) :: some (.vecR shP rows qT) :: some (.vecI .i64 kept 3) :: List.replicate 64 none
def meT0 (r1 : List (List CV)) (ks : List Int) (rows : List (List CV)) : List (Option PObj) := some (fr r1) :: some (.flatI false ks) :: some (.vecR shP rows qT) :: List.replicate 64 none
def sTn (r1 : List (List CV)) (ks : List Int) (w v : List UInt8) (rows : List (List CV)) (m : Nat) (kept : List Int) (kl : Nat) (k n i : Int) : PState := ⟨slT w v m (.vec 3 kl) k (some (.int .i64 n) :: some (.int .i64 i) :: List.replicate 129 none), meT r1 ks rows kept⟩
def sTnX (r1 : List (List CV)) (ks : List Int) (w v : List UInt8) (rows : List (List CV)) (m : Nat) (kept : List Int) (kl : Nat) (k n : Int) : PState := ⟨slT w v m (.vec 3 kl) k (some (.int .i64 n) :: List.replicate 130 none), meT r1 ks rows kept⟩
def sTo (r1 : List (List CV)) (ks : List Int) (w v : List UInt8) (rows : List (List CV)) (m : Nat) (kept : List Int) (kl : Nat) (k : Int) : PState := ⟨slT w v m (.vec 3 kl) k (List.replicate 131 none), meT r1 ks rows kept⟩
def sT0 (r1 : List (List CV)) (ks : List Int) (w v : List UInt8) (rows : List (List CV)) (m : Nat) (k : Int) : PState := ⟨slT w v m .nilslice k (List.replicate 131 none), meT0 r1 ks rows⟩
/-- How much of a piece is kept, behind one number. -/
def nOne (k : Int) (L x n : Int) : Int := if x == IntKind.i64.wrap (-1 - k) then IntKind.i64.wrap (L.tdiv 2) else if x == k then L else n
end Go.Proofs.Ytoekeplljjaehaa

/- Layer 26: pieces that are torn: the inner loop, all rounds; a round of the outer one. -/
set_option linter.unusedVariables false
set_option linter.unusedSimpArgs false
namespace Go.Proofs.Ytoekeplljjaehaa
open Go Sx
def pkC (rows : List (List CV)) (k : Int) : Bool := decide (k.toNat < rows.length) && true && true
def sP (rows : List (List CV)) (k : Int) : List UInt8 := (rowCV (Sx.rowAt rows k.toNat) 1).s
def fP (rows : List (List CV)) (k : Int) : Int := (rowCV (Sx.rowAt rows k.toNat) 0).n
theorem rTn (r1 : List (List CV)) (ks : List Int) (w v : List UInt8) (rows : List (List CV)) (m : Nat) (kept : List Int) (kl : Nat) (k n i : Int) : code (ent Try.prog [] nolv 64 1 20) Try.prog {} 2 64 1 loopT2 (sTn r1 ks w v rows m kept kl k n i) (endK 2 64 (fun n => hasN [9, 11, 15, 16, 18, 19, 20, 21] n) (fun n => hasN [9, 11, 15, 16, 18, 19, 20] n))
  = bcond (decide (i < (kl : Int))) (chks (bcond (xK kept i == k)
      (chks (bcond (xK kept i == IntKind.i64.wrap (-1 - k)) (chks (some (.normal, sTn r1 ks w v rows m kept kl k (hfI (sP rows k)) (iN i))) [bF k m, pkC rows k]) (some (.normal, sTn r1 ks w v rows m kept kl k ((sP rows k).length : Int) (iN i)))) [bF k m, pkC rows k, bF i kl, lnL i kept])
      (chks (bcond (xK kept i == IntKind.i64.wrap (-1 - k)) (chks (some (.normal, sTn r1 ks w v rows m kept kl k (hfI (sP rows k)) (iN i))) [bF k m, pkC rows k]) (some (.normal, sTn r1 ks w v rows m kept kl k n (iN i)))) [bF i kl, lnL i kept]))
      [bF i kl, lnL i kept]) (some (.exit 2, sTnX r1 ks w v rows m kept kl k n)) := by kernel_rfl
/-- How much of a piece is kept, behind some numbers. -/
def nT (k L : Nat) : List Int → Nat → Nat
  | [], n => n
  | x :: xs, n => nT k L xs (if x = -1 - (k : Int) then L / 2 else if x = (k : Int) then L else n)
theorem loopTn {r1 : List (List CV)} {ks : List Int} {w v : List UInt8} {rows : List (List CV)} {m : Nat} {kept : List Int} {k : Nat} (hm : rows.length = m) (hm2 : m ≤ 1099511627776) (hk : k < m) (hkl : kept.length ≤ 1099511627776) (hS : (sP rows k).length ≤ 1099511627776) (n j : Nat) (hj : j ≤ kept.length) :
    Tri Try.prog (.loop loopT2) (sTn r1 ks w v rows m kept kept.length k n j).toA (.exit 2) (sTnX r1 ks w v rows m kept kept.length k (nT k (sP rows k).length (kept.drop j) n : Nat)).toA 2 := by
  refine loop_rounds (ent_sound (T := []) .nil host nolv_ok (NF := 64) (m := 1) 20) (NF := 64) (m := 1) loops_none (fun n => hasN [9, 11, 15, 16, 18, 19, 20, 21] n) (fun n => hasN [9, 11, 15, 16, 18, 19, 20] n) (ι := { x : Nat × Nat // x.1 ≤ kept.length })
    (fun x => sTn r1 ks w v rows m kept kept.length k (x.1.2 : Int) (x.1.1 : Int)) (fun x => kept.length - x.1.1) (fun x => (.exit 2, sTnX r1 ks w v rows m kept kept.length k (nT k (sP rows k).length (kept.drop x.1.1) x.1.2 : Nat))) ?_ (fun _ => by simp) ⟨(j, n), hj⟩
  rintro ⟨⟨j, n⟩, hj⟩
  simp only at hj
  by_cases h : j < kept.length
  · left
    have e1 : bF (j : Int) kept.length = true := decide_eq_true (by omega)
    have e2 : lnL (j : Int) kept = true := decide_eq_true (by simp only [Int.toNat_natCast]; omega)
    have e3 : bF (k : Int) m = true := decide_eq_true (by omega)
    have e4 : pkC rows (k : Int) = true := by unfold pkC; rw [decide_eq_true (by simp only [Int.toNat_natCast]; omega)]; rfl
    have hw : IntKind.i64.wrap (-1 - (k : Int)) = -1 - (k : Int) := i64_in (by omega) (by omega)
    refine ⟨⟨(j + 1, if kept.getD j 0 = -1 - (k : Int) then (sP rows k).length / 2 else if kept.getD j 0 = (k : Int) then (sP rows k).length else n), h⟩, by simp only; omega, ?_, ?_⟩
    · simp only; rw [getD_drop h]; rfl
    · refine (rTn r1 ks w v rows m kept kept.length k n j).trans ?_
      have a2 : ∀ b ∈ [bF (j : Int) kept.length, lnL (j : Int) kept], b = true := by
        intro b hb
        simp only [List.mem_cons, List.not_mem_nil, or_false] at hb
        rcases hb with rfl | rfl <;> assumption
      have a3 : ∀ b ∈ [bF (k : Int) m, pkC rows (k : Int)], b = true := by
        intro b hb
        simp only [List.mem_cons, List.not_mem_nil, or_false] at hb
        rcases hb with rfl | rfl <;> assumption
      have a4 : ∀ b ∈ [bF (k : Int) m, pkC rows (k : Int), bF (j : Int) kept.length, lnL (j : Int) kept], b = true := by
        intro b hb
        simp only [List.mem_cons, List.not_mem_nil, or_false] at hb
        rcases hb with rfl | rfl | rfl | rfl <;> assumption
      rw [bcT (b := decide _) (decide_eq_true (by omega)), chks_true a2, chks_true a4, chks_true a2, chks_true a3, xK_nat, iN_nat (by omega), hw, hfI_nat hS]
      by_cases c1 : kept.getD j 0 = -1 - (k : Int)
      · rw [if_pos c1, c1, beq_self_eq_true]
        cases hq : (-1 - (k : Int) == (k : Int)) <;> rfl
      · rw [if_neg c1]
        have c1' : (kept.getD j 0 == -1 - (k : Int)) = false := by rw [beq_eq_false_iff_ne]; exact c1
        rw [c1']
        by_cases c2 : kept.getD j 0 = (k : Int)
        · rw [if_pos c2, c2, beq_self_eq_true]; rfl
        · have c2' : (kept.getD j 0 == (k : Int)) = false := by rw [beq_eq_false_iff_ne]; exact c2
          rw [if_neg c2, c2']; rfl
  · right
    have hd : kept.drop j = [] := List.drop_of_length_le (by omega)
    simp only [hd, nT]
    refine (rTn r1 ks w v rows m kept kept.length k n j).trans ?_
    rw [bcF (b := decide _) (decide_eq_false (by omega))]
def okT (rows : List (List CV)) (m kl : Nat) (kept : List Int) (k : Int) : Bool := decide (0 ≤ k ∧ k < (m : Int) ∧ rows.length = m ∧ m ≤ 1099511627776 ∧ kept.length = kl ∧ kl ≤ 1099511627776 ∧ (sP rows k).length ≤ 1099511627776)
noncomputable def eTnL (r1 : List (List CV)) (ks : List Int) (w v : List UInt8) (rows : List (List CV)) (m : Nat) (kept : List Int) (kl : Nat) : Nat → PState → LAns := fun K st =>
  match (st.slots[19]?).join with
  | some (AV.int IntKind.i64 k) => .chk (Nat.beq K 2) (.chk (eqSt st (sTn r1 ks w v rows m kept kl k 0 0)) (.chk (okT rows m kl kept k) (.out (.exit 2) (sTnX r1 ks w v rows m kept kl k (nT k.toNat (sP rows k).length kept 0 : Nat)))))
  | _ => .fail
theorem eTnL_ok (r1 : List (List CV)) (ks : List Int) (w v : List UInt8) (rows : List (List CV)) (m : Nat) (kept : List Int) (kl : Nat) (K : Nat) (st : PState) : LAnsOK Try.prog loopT2 K st (eTnL r1 ks w v rows m kept kl K st) := by
  unfold eTnL
  split
  · rename_i k hst
    refine ⟨fun g1 => ⟨fun g2 => ⟨fun g3 => ?_, fun _ => trivial⟩, fun _ => trivial⟩, fun _ => trivial⟩
    obtain rfl := beqT.1 g1
    obtain rfl := eqSt_of g2
    obtain ⟨h1, h2, h3, h4, rfl, h6, h7⟩ := of_decide_eq_true g3
    obtain ⟨k, rfl⟩ := Int.eq_ofNat_of_zero_le h1
    simp only [Int.ofNat_eq_natCast, Int.toNat_natCast] at *
    have := loopTn (r1 := r1) (ks := ks) (w := w) (v := v) h3 h4 (by omega) h6 h7 0 0 (Nat.zero_le _)
    rw [List.drop_zero] at this
    exact this
  · trivial
end Go.Proofs.Ytoekeplljjaehaa

/- Layer 26: pieces that are torn: the outer loop. -/
set_option linter.unusedVariables false
set_option linter.unusedSimpArgs false
namespace Go.Proofs.Ytoekeplljjaehaa
open Go Sx
noncomputable def lvT (r1 : List (List CV)) (ks : List Int) (w v : List UInt8) (rows : List (List CV)) (m : Nat) (kept : List Int) (kl : Nat) : Lv := { keep := fun i => match i with | 18 => some [9, 11, 15, 16, 18, 19, 20, 21] | _ => none, ent := fun i => match i with | 18 => some (eTnL r1 ks w v rows m kept kl) | _ => none }
def slTx (b : Option AV) : List (Option AV) := none :: none :: none :: none :: none :: none :: none :: none :: b :: some (.bool true) :: List.replicate 141 none
def sTx (r1 : List (List CV)) (ks : List Int) (b : Option AV) : PState := ⟨slTx b, some (fr r1) :: some (.flatI false ks) :: List.replicate 64 none⟩
def sbB (lo hi : Int) (s : List UInt8) : Bool := decide (0 ≤ lo ∧ 0 ≤ hi ∧ lo.toNat ≤ hi.toNat ∧ hi.toNat ≤ s.length)
def sbS (lo hi : Int) (s : List UInt8) : List UInt8 := List.take (hi.toNat - lo.toNat) (List.drop lo.toNat s)
def eI (rows : List (List CV)) (k nI : Int) : Int := IntKind.i64.wrap (fP rows k + nI)
def toI (rows : List (List CV)) (k : Int) : Int := IntKind.i64.wrap (fP rows k + ((sP rows k).length : Int))
def roundT {α : Type} (rows : List (List CV)) (m : Nat) (k nI : Int) (c : List Bool) (w v : List UInt8) (f n x : Option α) : Option α :=
  bcond (decide (k < (m : Int))) (chks (bcond (!(sbS (fP rows k) (eI rows k nI) v == loS nI (sP rows k))) f (chks (bcond (!(sbS (eI rows k nI) (toI rows k) v == sbS (eI rows k nI) (toI rows k) w)) f n) [sbB (eI rows k nI) (toI rows k) v, sbB (eI rows k nI) (toI rows k) w]))
    (c ++ [bF k m, pkC rows k, bF k m, pkC rows k, sbB (fP rows k) (eI rows k nI) v, bF k m, pkC rows k, slB nI (sP rows k)])) x
theorem rT0 (r1 : List (List CV)) (ks : List Int) (w v : List UInt8) (rows : List (List CV)) (m : Nat) (k : Int) : code (ent Try.prog [] nolv 64 1 20) Try.prog {} 2 64 1 loopT1 (sT0 r1 ks w v rows m k) (endK 2 64 (fun n => hasN [9, 11, 15, 16, 18, 19] n) (fun n => hasN [8, 9] n))
  = roundT rows m k 0 [] w v (some (.ret, sTx r1 ks (some (.bool false)))) (some (.normal, sT0 r1 ks w v rows m (iN k))) (some (.exit 0, sTx r1 ks none)) := by kernel_rfl
theorem rTo (r1 : List (List CV)) (ks : List Int) (w v : List UInt8) (rows : List (List CV)) (m : Nat) (kept : List Int) (kl : Nat) (k : Int) : code (ent Try.prog [] nolv 64 1 20) Try.prog (lvT r1 ks w v rows m kept kl) 2 64 1 loopT1 (sTo r1 ks w v rows m kept kl k) (endK 2 64 (fun n => hasN [9, 11, 15, 16, 18, 19] n) (fun n => hasN [8, 9] n))
  = roundT rows m k (nT k.toNat (sP rows k).length kept 0 : Nat) [eqSt (sTn r1 ks w v rows m kept kl k 0 0) (sTn r1 ks w v rows m kept kl k 0 0), okT rows m kl kept k] w v (some (.ret, sTx r1 ks (some (.bool false)))) (some (.normal, sTo r1 ks w v rows m kept kl (iN k))) (some (.exit 0, sTx r1 ks none)) := by kernel_rfl
theorem loopT1_in : loopBodies loopT1 = [loopT2] := by kernel_rfl
theorem lvT_ok (r1 : List (List CV)) (ks : List Int) (w v : List UInt8) (rows : List (List CV)) (m : Nat) (kept : List Int) (kl : Nat) (K : Nat) : LoopsOK Try.prog (lvT r1 ks w v rows m kept kl) K loopT1 := by
  intro x hx id e hid he st
  rw [loopT1_in] at hx
  have hx' := List.mem_singleton.1 hx
  have h2 : id = 18 := by
    have h3 : headReg loopT2 = some 18 := by kernel_rfl
    rw [hx', h3] at hid; exact (Option.some.inj hid).symm
  subst h2
  have he' : eTnL r1 ks w v rows m kept kl = e := Option.some.inj he
  subst he'
  rw [hx']
  exact eTnL_ok r1 ks w v rows m kept kl K st
theorem nT_le {k L : Nat} : ∀ (l : List Int) (n : Nat), n ≤ L → nT k L l n ≤ L
  | [], n, h => h
  | x :: xs, n, h => nT_le (k := k) (L := L) xs _ (by split; omega; split <;> omega)
/-- Of each piece there is what was kept of it, and behind that what stood there. -/
def Torn (rows : List (List CV)) (N : Nat → Nat) (w v : List UInt8) : Prop := v.length = 320 ∧ w.length = 320 ∧ rowsB 320 rows = true ∧ rows.length ≤ 1000 ∧
  ∀ k : Nat, k < rows.length → N k ≤ (sP rows k).length ∧ (v.drop (fP rows k).toNat).take (N k) = (sP rows k).take (N k) ∧ (v.drop ((fP rows k).toNat + N k)).take ((sP rows k).length - N k) = (w.drop ((fP rows k).toNat + N k)).take ((sP rows k).length - N k)
theorem roundT_ok {α : Type} {rows : List (List CV)} {N : Nat → Nat} {w v : List UInt8} (h : Torn rows N w v) {m : Nat} (hm : rows.length = m) {k : Nat} (hk : k < m) {c : List Bool} (hc : ∀ b ∈ c, b = true) (f n x : Option α) : roundT rows m (k : Int) (N k : Nat) c w v f n x = n := by
  obtain ⟨h1, h2, h3, h4, h5⟩ := h
  obtain ⟨g1, g2, g3⟩ := h5 k (by omega)
  obtain ⟨p1, p2⟩ := rowsB_at h3 (j := k) (by omega)
  have p1 : 0 ≤ fP rows k := p1
  have p2 : (fP rows k).toNat + (sP rows k).length ≤ 320 := p2
  obtain ⟨a, ha⟩ := Int.eq_ofNat_of_zero_le p1
  have pa : a + (sP rows k).length ≤ 320 := by rw [ha] at p2; simpa using p2
  have he : eI rows (k : Int) (N k : Nat) = ((a + N k : Nat) : Int) := by unfold eI; rw [ha, i64_in (by omega) (by omega)]; simp
  have ht : toI rows (k : Int) = ((a + (sP rows k).length : Nat) : Int) := by unfold toI; rw [ha, i64_in (by omega) (by omega)]; simp
  unfold roundT
  rw [he, ht, ha]
  rw [ha] at g2 g3 p2
  simp only [Int.ofNat_eq_natCast, Int.toNat_natCast] at g2 g3 p2 ⊢
  have e3 : bF (k : Int) m = true := decide_eq_true (by omega)
  have e4 : pkC rows (k : Int) = true := by unfold pkC; rw [decide_eq_true (by simp only [Int.toNat_natCast]; omega)]; rfl
  have s1 : sbB (a : Int) ((a + N k : Nat) : Int) v = true := decide_eq_true (by simp only [Int.toNat_natCast]; omega)
  have s2 : sbB ((a + N k : Nat) : Int) ((a + (sP rows k).length : Nat) : Int) v = true := decide_eq_true (by simp only [Int.toNat_natCast]; omega)
  have s3 : sbB ((a + N k : Nat) : Int) ((a + (sP rows k).length : Nat) : Int) w = true := decide_eq_true (by simp only [Int.toNat_natCast]; omega)
  have s4 : slB ((N k : Nat) : Int) (sP rows k) = true := decide_eq_true ⟨by omega, by simp only [Int.toNat_natCast]; exact g1⟩
  have t1 : sbS (a : Int) ((a + N k : Nat) : Int) v = loS ((N k : Nat) : Int) (sP rows k) := by
    unfold sbS; simp only [Int.toNat_natCast]; rw [Nat.add_sub_cancel_left, g2]; rfl
  have t2 : sbS ((a + N k : Nat) : Int) ((a + (sP rows k).length : Nat) : Int) v = sbS ((a + N k : Nat) : Int) ((a + (sP rows k).length : Nat) : Int) w := by
    unfold sbS; simp only [Int.toNat_natCast]; rw [show a + (sP rows k).length - (a + N k) = (sP rows k).length - N k by omega, g3]
  rw [bcT (b := decide _) (decide_eq_true (by omega)), chks_true (by
    intro b hb
    rcases List.mem_append.1 hb with hb | hb
    · exact hc b hb
    · simp only [List.mem_cons, List.not_mem_nil, or_false] at hb
      rcases hb with rfl | rfl | rfl | rfl | rfl | rfl | rfl | rfl <;> assumption), t1, bcF (by simp), chks_true (by
    intro b hb
    simp only [List.mem_cons, List.not_mem_nil, or_false] at hb
    rcases hb with rfl | rfl <;> assumption), t2, bcF (by simp)]
theorem loopT0 {r1 : List (List CV)} {ks : List Int} {w v : List UInt8} {rows : List (List CV)} {m : Nat} (hm : rows.length = m) (h : Torn rows (fun _ => 0) w v) :
    Tri Try.prog (.loop loopT1) (sT0 r1 ks w v rows m 0).toA (.exit 0) (sTx r1 ks none).toA 2 := by
  refine loop_rounds (ent_sound (T := []) .nil host nolv_ok (NF := 64) (m := 1) 20) (NF := 64) (m := 1) loops_none (fun n => hasN [9, 11, 15, 16, 18, 19] n) (fun n => hasN [8, 9] n) (ι := { j : Nat // j ≤ m })
    (fun j => sT0 r1 ks w v rows m (j.1 : Int)) (fun j => m - j.1) (fun _ => (.exit 0, sTx r1 ks none)) ?_ (fun _ => by simp) ⟨0, Nat.zero_le _⟩
  rintro ⟨j, hj⟩
  by_cases hk : j < m
  · refine .inl ⟨⟨j + 1, hk⟩, by simp only; omega, rfl, ?_⟩
    refine (rT0 r1 ks w v rows m j).trans ?_
    have hr := roundT_ok (α := Ex × PState) h hm hk (c := []) (by simp) (some (.ret, sTx r1 ks (some (.bool false)))) (some (.normal, sT0 r1 ks w v rows m (iN j))) (some (.exit 0, sTx r1 ks none))
    refine hr.trans ?_
    rw [iN_nat (by have := h.2.2.2.1; omega)]
  · refine .inr ((rT0 r1 ks w v rows m j).trans ?_)
    unfold roundT
    rw [bcF (b := decide _) (decide_eq_false (by omega))]
theorem loopTo {r1 : List (List CV)} {ks : List Int} {w v : List UInt8} {rows : List (List CV)} {m : Nat} {kept : List Int} (hm : rows.length = m) (hkl : kept.length ≤ 1000) (h : Torn rows (fun k => nT k (sP rows k).length kept 0) w v) :
    Tri Try.prog (.loop loopT1) (sTo r1 ks w v rows m kept kept.length 0).toA (.exit 0) (sTx r1 ks none).toA 2 := by
  refine loop_rounds (ent_sound (T := []) .nil host nolv_ok (NF := 64) (m := 1) 20) (NF := 64) (m := 1) (lvT_ok r1 ks w v rows m kept kept.length 2) (fun n => hasN [9, 11, 15, 16, 18, 19] n) (fun n => hasN [8, 9] n) (ι := { j : Nat // j ≤ m })
    (fun j => sTo r1 ks w v rows m kept kept.length (j.1 : Int)) (fun j => m - j.1) (fun _ => (.exit 0, sTx r1 ks none)) ?_ (fun _ => by simp) ⟨0, Nat.zero_le _⟩
  rintro ⟨j, hj⟩
  by_cases hk : j < m
  · refine .inl ⟨⟨j + 1, hk⟩, by simp only; omega, rfl, ?_⟩
    refine (rTo r1 ks w v rows m kept kept.length j).trans ?_
    obtain ⟨p1, p2⟩ := rowsB_at h.2.2.1 (j := j) (by omega)
    have p2 : (fP rows j).toNat + (sP rows j).length ≤ 320 := p2
    have hr := roundT_ok (α := Ex × PState) h hm hk (c := [eqSt (sTn r1 ks w v rows m kept kept.length j 0 0) (sTn r1 ks w v rows m kept kept.length j 0 0), okT rows m kept.length kept j]) (by
      intro b hb
      simp only [List.mem_cons, List.not_mem_nil, or_false] at hb
      rcases hb with rfl | rfl
      · exact eqSt_refl _
      · have := h.2.2.2.1
        exact decide_eq_true (by omega)) (some (.ret, sTx r1 ks (some (.bool false)))) (some (.normal, sTo r1 ks w v rows m kept kept.length (iN j))) (some (.exit 0, sTx r1 ks none))
    refine hr.trans ?_
    rw [iN_nat (by have := h.2.2.2.1; omega)]
  · refine .inr ((rTo r1 ks w v rows m kept kept.length j).trans ?_)
    unfold roundT
    rw [bcF (b := decide _) (decide_eq_false (by omega))]
end Go.Proofs.Ytoekeplljjaehaa

/- Layer 26: pieces that are torn: the law, evaluated. -/
set_option linter.unusedVariables false
set_option linter.unusedSimpArgs false
namespace Go.Proofs.Ytoekeplljjaehaa
open Go Sx
/-- Writes of nothing; of some bytes; within the disk. -/
def eWrN : Ent := onDisk (fun vs => .fail)
  (fun n k t vs => match vs with | [.int .i64 a, .str s] => .chk (i64B a) (.chk (inD n a s.length) (.chk s.isEmpty (.ret (.int .i64 0) (dk0 n k t)))) | _ => .fail)
  (fun n k t rows m vs => .fail)
def eWrV : Ent := onDisk (fun vs => .fail)
  (fun n k t vs => match vs with | [.int .i64 a, .str s] => .chk (i64B a) (.chk (inD n a s.length) (.chk (!s.isEmpty) (.ret (.int .i64 0) (dk1 n k (splice a.toNat s t) ((parts a.toNat s).map rowOf) (parts a.toNat s).length)))) | _ => .fail)
  (fun n k t rows m vs => .fail)
theorem eWrN_ok : EntOK Try.prog 25 eWrN := fun args pre => by
  refine of_run (eWrite_ok args pre) fun r hr => ?_
  unfold eWrN onDisk at hr
  unfold eWrite onDisk
  split at hr
  · cases hr
  · obtain ⟨c1, hr⟩ := chk_run hr
    obtain ⟨c2, hr⟩ := chk_run hr
    simp only [Ans.run, Ans.chk] at hr ⊢
    rw [bcT c1, bcT c2]
    split at hr
    · obtain ⟨c3, hr⟩ := chk_run hr
      obtain ⟨c4, hr⟩ := chk_run hr
      obtain ⟨c5, hr⟩ := chk_run hr
      unfold rW0
      simp only [Ans.run]
      rw [bcT c3, bcT c4, bcT c5]; exact hr
    · cases hr
  · obtain ⟨_, hr⟩ := chk_run hr
    obtain ⟨_, hr⟩ := chk_run hr
    obtain ⟨_, hr⟩ := chk_run hr
    obtain ⟨_, hr⟩ := chk_run hr
    cases hr
  · cases hr
theorem eWrV_ok : EntOK Try.prog 25 eWrV := fun args pre => by
  refine of_run (eWrite_ok args pre) fun r hr => ?_
  unfold eWrV onDisk at hr
  unfold eWrite onDisk
  split at hr
  · cases hr
  · obtain ⟨c1, hr⟩ := chk_run hr
    obtain ⟨c2, hr⟩ := chk_run hr
    simp only [Ans.run, Ans.chk] at hr ⊢
    rw [bcT c1, bcT c2]
    split at hr
    · obtain ⟨c3, hr⟩ := chk_run hr
      obtain ⟨c4, hr⟩ := chk_run hr
      obtain ⟨c5, hr⟩ := chk_run hr
      unfold rW0
      simp only [Ans.run]
      rw [bcT c3, bcT c4, bcF ((Bool.not_eq_true' _).mp c5)]; exact hr
    · cases hr
  · obtain ⟨_, hr⟩ := chk_run hr
    obtain ⟨_, hr⟩ := chk_run hr
    obtain ⟨_, hr⟩ := chk_run hr
    obtain ⟨_, hr⟩ := chk_run hr
    cases hr
  · cases hr
def tTo (ew ep ek : Ent) : Tab := [(21, eCrashV), (13, eReadI), (20, eFilled), (22, ek), (26, ep), (25, ew), (23, ePick), (10, eTrue)]
theorem tTo_ok {ew ep ek : Ent} (h1 : EntOK Try.prog 25 ew) (h2 : EntOK Try.prog 26 ep) (h3 : EntOK Try.prog 22 ek) : TabOK Try.prog (tTo ew ep ek) := .cons eCrashV_ok (.cons eReadI_ok (.cons eFilled_ok (.cons h3 (.cons h2 (.cons h1 (.cons ePick_ok (.cons awake_ok .nil)))))))
noncomputable def eT0L (r1 : List (List CV)) (ks : List Int) (w v : List UInt8) (rows : List (List CV)) (m : Nat) : Nat → PState → LAns := fun K st =>
  .chk (Nat.beq K 2) (.chk (eqSt st (sT0 r1 ks w v rows m 0)) (.chk (clB (rows.length = m ∧ Torn rows (fun _ => 0) w v)) (.out (.exit 0) (sTx r1 ks none))))
noncomputable def eToL (r1 : List (List CV)) (ks : List Int) (w v : List UInt8) (rows : List (List CV)) (m : Nat) (kept : List Int) (kl : Nat) : Nat → PState → LAns := fun K st =>
  .chk (Nat.beq K 2) (.chk (eqSt st (sTo r1 ks w v rows m kept kl 0)) (.chk (clB (rows.length = m ∧ kept.length = kl ∧ kept.length ≤ 1000 ∧ Torn rows (fun k => nT k (sP rows k).length kept 0) w v)) (.out (.exit 0) (sTx r1 ks none))))
theorem eT0L_ok (r1 : List (List CV)) (ks : List Int) (w v : List UInt8) (rows : List (List CV)) (m : Nat) (K : Nat) (st : PState) : LAnsOK Try.prog loopT1 K st (eT0L r1 ks w v rows m K st) := by
  unfold eT0L
  refine ⟨fun g1 => ⟨fun g2 => ⟨fun g3 => ?_, fun _ => trivial⟩, fun _ => trivial⟩, fun _ => trivial⟩
  obtain rfl := beqT.1 g1
  obtain rfl := eqSt_of g2
  obtain ⟨h1, h2⟩ := clB_of g3
  exact loopT0 h1 h2
theorem eToL_ok (r1 : List (List CV)) (ks : List Int) (w v : List UInt8) (rows : List (List CV)) (m : Nat) (kept : List Int) (kl : Nat) (K : Nat) (st : PState) : LAnsOK Try.prog loopT1 K st (eToL r1 ks w v rows m kept kl K st) := by
  unfold eToL
  refine ⟨fun g1 => ⟨fun g2 => ⟨fun g3 => ?_, fun _ => trivial⟩, fun _ => trivial⟩, fun _ => trivial⟩
  obtain rfl := beqT.1 g1
  obtain rfl := eqSt_of g2
  obtain ⟨h1, rfl, h3, h2⟩ := clB_of g3
  exact loopTo h1 h3 h2
noncomputable def lvTE (r1 : List (List CV)) (ks : List Int) (w v : List UInt8) (rows : List (List CV)) (m : Nat) : FuncId → Lv := fun f => match f with
  | 7 => { keep := fun i => match i with | 14 => some [9, 11, 15, 16, 18, 19] | _ => none, ent := fun i => match i with | 14 => some (eT0L r1 ks w v rows m) | _ => none }
  | _ => {}
noncomputable def lvTV (r1 : List (List CV)) (ks : List Int) (w v : List UInt8) (rows : List (List CV)) (m : Nat) (kept : List Int) (kl : Nat) : FuncId → Lv := fun f => match f with
  | 7 => { keep := fun i => match i with | 14 => some [9, 11, 15, 16, 18, 19] | 18 => some [9, 11, 15, 16, 18, 19, 20, 21] | _ => none, ent := fun i => match i with | 14 => some (eToL r1 ks w v rows m kept kl) | 18 => some (eTnL r1 ks w v rows m kept kl) | _ => none }
  | _ => {}
theorem loopsT : loopBodies (bodyOf Try.f7) = [loopT1, loopT2] := by kernel_rfl
theorem headT1 : headReg loopT1 = some 14 := by kernel_rfl
theorem headT2 : headReg loopT2 = some 18 := by kernel_rfl
theorem lvTE_ok (r1 : List (List CV)) (ks : List Int) (w v : List UInt8) (rows : List (List CV)) (m : Nat) : LvOK Try.prog (lvTE r1 ks w v rows m) := by
  intro f fn body hf hb K x hx id e hid he st
  by_cases h : f = 7
  · subst h
    obtain rfl : fn = Try.f7 := (Option.some.inj (Try.func7.symm.trans hf)).symm
    have hbody : body = bodyOf Try.f7 := by unfold bodyOf; rw [hb]; rfl
    subst hbody
    rw [loopsT] at hx
    rcases List.mem_cons.1 hx with hx' | hx'
    · rw [hx', headT1] at hid
      obtain rfl := (Option.some.inj hid).symm
      have he' : eT0L r1 ks w v rows m = e := Option.some.inj he
      subst he'
      rw [hx']
      exact eT0L_ok r1 ks w v rows m K st
    · have hx' := List.mem_singleton.1 hx'
      rw [hx', headT2] at hid
      obtain rfl := (Option.some.inj hid).symm
      cases he
  · exfalso
    have : (lvTE r1 ks w v rows m f).ent id = none := by
      unfold lvTE
      split
      · exact absurd rfl h
      · rfl
    rw [this] at he; cases he
theorem lvTV_ok (r1 : List (List CV)) (ks : List Int) (w v : List UInt8) (rows : List (List CV)) (m : Nat) (kept : List Int) (kl : Nat) : LvOK Try.prog (lvTV r1 ks w v rows m kept kl) := by
  intro f fn body hf hb K x hx id e hid he st
  by_cases h : f = 7
  · subst h
    obtain rfl : fn = Try.f7 := (Option.some.inj (Try.func7.symm.trans hf)).symm
    have hbody : body = bodyOf Try.f7 := by unfold bodyOf; rw [hb]; rfl
    subst hbody
    rw [loopsT] at hx
    rcases List.mem_cons.1 hx with hx' | hx'
    · rw [hx', headT1] at hid
      obtain rfl := (Option.some.inj hid).symm
      have he' : eToL r1 ks w v rows m kept kl = e := Option.some.inj he
      subst he'
      rw [hx']
      exact eToL_ok r1 ks w v rows m kept kl K st
    · have hx' := List.mem_singleton.1 hx'
      rw [hx', headT2] at hid
      obtain rfl := (Option.some.inj hid).symm
      have he' : eTnL r1 ks w v rows m kept kl = e := Option.some.inj he
      subst he'
      rw [hx']
      exact eTnL_ok r1 ks w v rows m kept kl K st
  · exfalso
    have : (lvTV r1 ks w v rows m kept kl f).ent id = none := by
      unfold lvTV
      split
      · exact absurd rfl h
      · rfl
    rw [this] at he; cases he
def pT2 (r1 : List (List CV)) (ks : List Int) : List PObj := [fr r1, .flatI false ks]
def endT (r1 : List (List CV)) (ks : List Int) (k' : List UInt8) (c : List Bool) : Ans :=
  .chk (smN 320 k' k') (.br (((allS k').length : Int) != 320) (.ret (.bool false) (pT2 r1 ks)) (.br (((allS (sT1 r1)).length : Int) != 320) (.ret (.bool false) (pT2 r1 ks)) (ansChks (.ret (.bool true) (pT2 r1 ks)) c)))
def askT (l1 : Nat) (r1 : List (List CV)) (at_ : Int) (s : List UInt8) (e1 e2 : Bool) : List Bool :=
  [okA l1 r1, smN 320 (sT1 r1) (sT1 r1), i64B at_, slB (minL (pkI at_ 320) s) s, smN 320 (sT1 r1) (sT1 r1), i64B (pkI at_ 320), inD 320 (pkI at_ 320) (tS at_ s).length, e1, inD 320 (pkI at_ 320) (tS at_ s).length, e2]
def pTs (at_ : Int) (s : List UInt8) : List (Nat × List UInt8) := parts (pkI at_ 320).toNat (tS at_ s)
def xT0 (l1 : Nat) (r1 : List (List CV)) (ks : List Int) (at_ : Int) (s : List UInt8) : Ans :=
  ansChks (endT r1 ks (sT1 r1) []) (askT l1 r1 at_ s (tS at_ s).isEmpty (pTs at_ s).isEmpty ++ [smN 320 (sT1 r1) (sT1 r1)])
noncomputable def xTE (l1 lk : Nat) (r1 : List (List CV)) (ks : List Int) (at_ : Int) (s : List UInt8) : Ans :=
  ansChks (endT r1 ks (sT1 r1) [eqSt (sT0 r1 ks (allS (sT1 r1)) (allS (sT1 r1)) ((pTs at_ s).map rowOf) (pTs at_ s).length 0) (sT0 r1 ks (allS (sT1 r1)) (allS (sT1 r1)) ((pTs at_ s).map rowOf) (pTs at_ s).length 0), clB (((pTs at_ s).map rowOf).length = (pTs at_ s).length ∧ Torn ((pTs at_ s).map rowOf) (fun _ => 0) (allS (sT1 r1)) (allS (sT1 r1)))])
    (askT l1 r1 at_ s (!(tS at_ s).isEmpty) (!(pTs at_ s).isEmpty) ++ [askKp ks lk (pTs at_ s).length, (keepS (pTs at_ s).length ks).isEmpty, smN 320 (sT1 r1) (splice (pkI at_ 320).toNat (tS at_ s) (sT1 r1)), vB ((pTs at_ s).map rowOf) (pTs at_ s).length])
def kT (r1 : List (List CV)) (ks : List Int) (at_ : Int) (s : List UInt8) : List UInt8 := layAll ((pTs at_ s).map rowOf) (keepS (pTs at_ s).length ks) (sT1 r1)
noncomputable def xTV (l1 lk : Nat) (r1 : List (List CV)) (ks : List Int) (at_ : Int) (s : List UInt8) : Ans :=
  ansChks (endT r1 ks (kT r1 ks at_ s) [eqSt (sTo r1 ks (allS (sT1 r1)) (allS (kT r1 ks at_ s)) ((pTs at_ s).map rowOf) (pTs at_ s).length (keepS (pTs at_ s).length ks) (keepS (pTs at_ s).length ks).length 0) (sTo r1 ks (allS (sT1 r1)) (allS (kT r1 ks at_ s)) ((pTs at_ s).map rowOf) (pTs at_ s).length (keepS (pTs at_ s).length ks) (keepS (pTs at_ s).length ks).length 0),
      clB (((pTs at_ s).map rowOf).length = (pTs at_ s).length ∧ (keepS (pTs at_ s).length ks).length = (keepS (pTs at_ s).length ks).length ∧ (keepS (pTs at_ s).length ks).length ≤ 1000 ∧ Torn ((pTs at_ s).map rowOf) (fun k => nT k (sP ((pTs at_ s).map rowOf) k).length (keepS (pTs at_ s).length ks) 0) (allS (sT1 r1)) (allS (kT r1 ks at_ s)))])
    (askT l1 r1 at_ s (!(tS at_ s).isEmpty) (!(pTs at_ s).isEmpty) ++ [askKp ks lk (pTs at_ s).length, !(keepS (pTs at_ s).length ks).isEmpty, askC (keepS (pTs at_ s).length ks) (keepS (pTs at_ s).length ks).length 320 320 320 320 (pTs at_ s).length (sT1 r1) (splice (pkI at_ 320).toNat (tS at_ s) (sT1 r1)) ((pTs at_ s).map rowOf), okK (pTs at_ s).length (tk (pTs at_ s).length) (keepS (pTs at_ s).length ks), rowsB 320 ((pTs at_ s).map rowOf)])
end Go.Proofs.Ytoekeplljjaehaa

/- Layer 26: what was synced stays: the outer loop. -/
set_option linter.unusedVariables false
set_option linter.unusedSimpArgs false
namespace Go.Proofs.Ytoekeplljjaehaa
open Go Sx
noncomputable def lvI (l2 : Nat) (r1 r2 : List (List CV)) (ks : List Int) (w v k t : List UInt8) : Lv := { keep := fun i => match i with | 13 => some [1, 7, 8, 9, 11, 12, 13, 14] | _ => none, ent := fun i => match i with | 13 => some (eInL l2 r1 r2 ks w v k t) | _ => none }
def sOX (r1 r2 : List (List CV)) (ks : List Int) (k t : List UInt8) : PState := ⟨none :: none :: none :: none :: none :: none :: none :: some (.bool true) :: some (.ptr 3 0) :: List.replicate 89 none, meS r1 r2 ks k t⟩
def sOF (r1 r2 : List (List CV)) (ks : List Int) (k t : List UInt8) : PState := ⟨none :: none :: none :: none :: none :: none :: some (.bool false) :: some (.bool true) :: some (.ptr 3 0) :: List.replicate 89 none, meS r1 r2 ks k t⟩
def ixS (i : Int) (s : List UInt8) : Bool := decide (0 ≤ i ∧ i.toNat < s.length)
theorem rOut (l2 : Nat) (r1 r2 : List (List CV)) (ks : List Int) (w v k t : List UInt8) (i : Int) : code (ent Try.prog tPk nolv 64 1 20) Try.prog (lvI l2 r1 r2 ks w v k t) 3 64 1 loopS1 (sOut l2 r1 r2 ks w v k t i) (endK 3 64 (fun n => hasN [1, 7, 8, 9, 11, 12] n) (fun n => hasN [6, 7, 8] n))
  = bcond (decide (i < 320)) (chks (bcond (!anyB r2 i) (chks (bcond (byteAt v i.toNat != byteAt w i.toNat) (some (.ret, sOF r1 r2 ks k t)) (some (.normal, sOut l2 r1 r2 ks w v k t (iN i)))) [ixS i v, ixS i w]) (some (.normal, sOut l2 r1 r2 ks w v k t (iN i))))
      [eqSt (sIn l2 r1 r2 ks w v k t i false 0) (sIn l2 r1 r2 ks w v k t i false 0), rng i, okA l2 r2]) (some (.exit 0, sOX r1 r2 ks k t)) := by kernel_rfl
theorem loopS1_in : loopBodies loopS1 = [loopS2] := by kernel_rfl
theorem lvI_ok (l2 : Nat) (r1 r2 : List (List CV)) (ks : List Int) (w v k t : List UInt8) (K : Nat) : LoopsOK Try.prog (lvI l2 r1 r2 ks w v k t) K loopS1 := by
  intro x hx id e hid he st
  rw [loopS1_in] at hx
  have hx' := List.mem_singleton.1 hx
  have h2 : id = 13 := by
    have h3 : headReg loopS2 = some 13 := by kernel_rfl
    rw [hx', h3] at hid; exact (Option.some.inj hid).symm
  subst h2
  have he' : eInL l2 r1 r2 ks w v k t = e := Option.some.inj he
  subst he'
  rw [hx']
  exact eInL_ok l2 r1 r2 ks w v k t K st
/-- Where nothing was written, nothing has changed. -/
def NoLoss (r2 : List (List CV)) (w v : List UInt8) : Prop := v.length = 320 ∧ w.length = 320 ∧ ∀ i : Nat, i < 320 → anyB r2 i = false → byteAt v i = byteAt w i
theorem loopOut {l2 : Nat} {r1 r2 : List (List CV)} {ks : List Int} {w v k t : List UInt8} (ho : okA l2 r2 = true) (hn : NoLoss r2 w v) :
    Tri Try.prog (.loop loopS1) (sOut l2 r1 r2 ks w v k t 0).toA (.exit 0) (sOX r1 r2 ks k t).toA 3 := by
  refine loop_rounds (ent_sound (T := tPk) tPk_ok host nolv_ok (NF := 64) (m := 1) 20) (NF := 64) (m := 1) (lvI_ok l2 r1 r2 ks w v k t 3) (fun n => hasN [1, 7, 8, 9, 11, 12] n) (fun n => hasN [6, 7, 8] n) (ι := { j : Nat // j ≤ 320 })
    (fun j => sOut l2 r1 r2 ks w v k t (j.1 : Int)) (fun j => 320 - j.1) (fun _ => (.exit 0, sOX r1 r2 ks k t)) ?_ (fun _ => by simp) ⟨0, Nat.zero_le _⟩
  rintro ⟨j, hj⟩
  obtain ⟨h1, h2, h3⟩ := hn
  by_cases h : j < 320
  · refine .inl ⟨⟨j + 1, h⟩, by simp only; omega, rfl, ?_⟩
    refine (rOut l2 r1 r2 ks w v k t j).trans ?_
    have c1 : ixS (j : Int) v = true := decide_eq_true (by simp only [Int.toNat_natCast]; omega)
    have c2 : ixS (j : Int) w = true := decide_eq_true (by simp only [Int.toNat_natCast]; omega)
    rw [bcT (b := decide _) (decide_eq_true (by omega)), chks_true (bs := [_, _, _]) (by
      intro c hc
      simp only [List.mem_cons, List.not_mem_nil, or_false] at hc
      rcases hc with rfl | rfl | rfl
      · exact eqSt_refl _
      · exact decide_eq_true (by omega)
      · exact ho), chks_true (bs := [_, _]) (by
      intro c hc
      simp only [List.mem_cons, List.not_mem_nil, or_false] at hc
      rcases hc with rfl | rfl
      · exact c1
      · exact c2), iN_nat (by omega)]
    cases ha : anyB r2 (j : Int) with
    | true => rfl
    | false =>
      rw [bcT (b := !false) rfl, Int.toNat_natCast, bcF (by rw [h3 j h ha]; simp)]
  · refine .inr ?_
    refine (rOut l2 r1 r2 ks w v k t j).trans ?_
    rw [bcF (b := decide _) (decide_eq_false (by omega))]
noncomputable def eOuL (l2 : Nat) (r1 r2 : List (List CV)) (ks : List Int) (w v k t : List UInt8) : Nat → PState → LAns := fun K st =>
  .chk (Nat.beq K 3) (.chk (eqSt st (sOut l2 r1 r2 ks w v k t 0)) (.chk (okA l2 r2) (.chk (clB (NoLoss r2 w v)) (.out (.exit 0) (sOX r1 r2 ks k t)))))
theorem eOuL_ok (l2 : Nat) (r1 r2 : List (List CV)) (ks : List Int) (w v k t : List UInt8) (K : Nat) (st : PState) : LAnsOK Try.prog loopS1 K st (eOuL l2 r1 r2 ks w v k t K st) := by
  unfold eOuL
  refine ⟨fun g1 => ⟨fun g2 => ⟨fun g3 => ⟨fun g4 => ?_, fun _ => trivial⟩, fun _ => trivial⟩, fun _ => trivial⟩, fun _ => trivial⟩
  obtain rfl := beqT.1 g1
  obtain rfl := eqSt_of g2
  exact loopOut g3 (clB_of g4)
noncomputable def lvSy (l2 : Nat) (r1 r2 : List (List CV)) (ks : List Int) (w v k t : List UInt8) : FuncId → Lv := fun f => match f with
  | 4 => { keep := fun i => match i with | 9 => some [1, 7, 8, 9, 11, 12] | 13 => some [1, 7, 8, 9, 11, 12, 13, 14] | _ => none, ent := fun i => match i with | 9 => some (eOuL l2 r1 r2 ks w v k t) | 13 => some (eInL l2 r1 r2 ks w v k t) | _ => none }
  | _ => {}
theorem lvSy_ok (l2 : Nat) (r1 r2 : List (List CV)) (ks : List Int) (w v k t : List UInt8) : LvOK Try.prog (lvSy l2 r1 r2 ks w v k t) := by
  intro f fn body hf hb K x hx id e hid he st
  by_cases h : f = 4
  · subst h
    obtain rfl : fn = Try.f4 := (Option.some.inj (Try.func4.symm.trans hf)).symm
    have hbody : body = bodyOf Try.f4 := by unfold bodyOf; rw [hb]; rfl
    subst hbody
    have h1 : loopBodies (bodyOf Try.f4) = [loopS1, loopS2] := by kernel_rfl
    rw [h1] at hx
    rcases List.mem_cons.1 hx with hx' | hx'
    · have h2 : id = 9 := by
        have h3 : headReg loopS1 = some 9 := by kernel_rfl
        rw [hx', h3] at hid; exact (Option.some.inj hid).symm
      subst h2
      have he' : eOuL l2 r1 r2 ks w v k t = e := Option.some.inj he
      subst he'
      rw [hx']
      exact eOuL_ok l2 r1 r2 ks w v k t K st
    · have hx' := List.mem_singleton.1 hx'
      have h2 : id = 13 := by
        have h3 : headReg loopS2 = some 13 := by kernel_rfl
        rw [hx', h3] at hid; exact (Option.some.inj hid).symm
      subst h2
      have he' : eInL l2 r1 r2 ks w v k t = e := Option.some.inj he
      subst he'
      rw [hx']
      exact eInL_ok l2 r1 r2 ks w v k t K st
  · exfalso
    have : (lvSy l2 r1 r2 ks w v k t f).ent id = none := by
      unfold lvSy
      split
      · exact absurd rfl h
      · rfl
    rw [this] at he; cases he
end Go.Proofs.Ytoekeplljjaehaa

/- Layer 26: what was synced stays: the law, evaluated. -/
set_option linter.unusedVariables false
set_option linter.unusedSimpArgs false
namespace Go.Proofs.Ytoekeplljjaehaa
open Go Sx
def tSd (e1 e2 : Ent) : Tab := [(21, eCrashV), (13, eReadI), (20, e1), (22, e2), (23, ePick), (10, eTrue)]
theorem tSd_ok {e1 e2 : Ent} (h1 : EntOK Try.prog 20 e1) (h2 : EntOK Try.prog 22 e2) : TabOK Try.prog (tSd e1 e2) := .cons eCrashV_ok (.cons eReadI_ok (.cons h1 (.cons h2 (.cons ePick_ok (.cons awake_ok .nil)))))
def pS (r1 r2 : List (List CV)) (ks : List Int) : List PObj := [fr r1, fr r2, .flatI false ks]
noncomputable def endS (l2 : Nat) (r1 r2 : List (List CV)) (ks : List Int) (k' : List UInt8) : Ans :=
  .chk (smN 320 k' k') (.br (((allS k').length : Int) != 320) (.ret (.bool false) (pS r1 r2 ks)) (.br (((allS (sT1 r1)).length : Int) != 320) (.ret (.bool false) (pS r1 r2 ks))
    (ansChks (.ret (.bool true) (pS r1 r2 ks)) [eqSt (sOut l2 r1 r2 ks (allS (sT1 r1)) (allS k') k' k' 0) (sOut l2 r1 r2 ks (allS (sT1 r1)) (allS k') k' k' 0), okA l2 r2, clB (NoLoss r2 (allS (sT1 r1)) (allS k'))])))
noncomputable def xS0 (l1 l2 : Nat) (r1 r2 : List (List CV)) (ks : List Int) : Ans :=
  ansChks (endS l2 r1 r2 ks (sT1 r1)) [okA l1 r1, okA l2 r2, (fillP (r2.take 8)).isEmpty, okA l1 r1, smN 320 (sT1 r1) (sT1 r1), smN 320 (sT1 r1) (sT2 r1 r2)]
noncomputable def xSE (l1 l2 lk : Nat) (r1 r2 : List (List CV)) (ks : List Int) (rows : List (List CV)) (m : Nat) : Ans :=
  ansChks (endS l2 r1 r2 ks (sT1 r1)) [okA l1 r1, okA l2 r2, !(fillP (r2.take 8)).isEmpty, okA l1 r1, smN 320 (sT1 r1) (sT1 r1), askKp ks lk m, (keepS m ks).isEmpty, smN 320 (sT1 r1) (sT2 r1 r2), vB rows m]
noncomputable def xSV (l1 l2 lk : Nat) (r1 r2 : List (List CV)) (ks : List Int) (rows : List (List CV)) (m : Nat) : Ans :=
  ansChks (endS l2 r1 r2 ks (layAll rows (keepS m ks) (sT1 r1))) [okA l1 r1, okA l2 r2, !(fillP (r2.take 8)).isEmpty, okA l1 r1, smN 320 (sT1 r1) (sT1 r1), askKp ks lk m, !(keepS m ks).isEmpty, askC (keepS m ks) (keepS m ks).length 320 320 320 320 m (sT1 r1) (sT2 r1 r2) rows, okK m (tk m) (keepS m ks), rowsB 320 rows]
end Go.Proofs.Ytoekeplljjaehaa

/- Layer 26: what can't be done changes nothing: the law, evaluated. -/
set_option linter.unusedVariables false
set_option linter.unusedSimpArgs false
namespace Go.Proofs.Ytoekeplljjaehaa
open Go Sx
/-- Reads of all, and reads that are refused; writes that are refused. -/
def rE (n : Nat) (t : List UInt8) (a c : Int) (post : List PObj) : Ans :=
  if c = 320 then .chk (i64B a) (.chk (decide (0 ≤ c) && inD n a c.toNat) (.ret (.tuple [.str ((t.drop a.toNat).take c.toNat), .int .i64 0]) post))
  else .chk (i64B a) (.chk (i64B c) (.chk (!(decide (0 ≤ c) && inD n a c.toNat)) (.ret (.tuple [.str [], .int .i64 260]) post)))
def eReadE : Ent := onDisk (fun vs => match vs with | [.int .i64 a, .int .i64 c] => .ret (.tuple [.str [], .int .i64 1]) [] | _ => .fail)
  (fun n k t vs => match vs with | [.int .i64 a, .int .i64 c] => rE n t a c (dk0 n k t) | _ => .fail)
  (fun n k t rows m vs => match vs with | [.int .i64 a, .int .i64 c] => rE n t a c (dk1 n k t rows m) | _ => .fail)
theorem rE_run {n : Nat} {t : List UInt8} {a c : Int} {post : List PObj} {r : AV × List PObj} (h : (rE n t a c post).run pure2 = some r) : i64B a = true ∧ i64B c = true ∧ (rRd n t a c post).run pure2 = some r := by
  unfold rE at h
  unfold rRd
  simp only [Ans.run]
  split at h
  · rename_i e
    obtain ⟨h1, h⟩ := chk_run h
    obtain ⟨h2, h⟩ := chk_run h
    exact ⟨h1, by rw [e]; rfl, by rw [bcT h2]; exact h⟩
  · obtain ⟨h1, h⟩ := chk_run h
    obtain ⟨h2, h⟩ := chk_run h
    obtain ⟨h3, h⟩ := chk_run h
    exact ⟨h1, h2, by rw [bcF ((Bool.not_eq_true' _).mp h3)]; exact h⟩
theorem eReadE_ok : EntOK Try.prog 13 eReadE := fun args pre => by
  refine of_run (eRead_ok args pre) fun r hr => ?_
  unfold eReadE onDisk at hr
  unfold eRead onDisk
  split at hr
  · exact hr
  · obtain ⟨c1, hr⟩ := chk_run hr
    obtain ⟨c2, hr⟩ := chk_run hr
    simp only [Ans.run, Ans.chk] at hr ⊢
    rw [bcT c1, bcT c2]
    split at hr
    · obtain ⟨c3, c4, hr⟩ := rE_run hr
      simp only [Ans.run]
      rw [bcT c3, bcT c4]; exact hr
    · cases hr
  · obtain ⟨c1, hr⟩ := chk_run hr
    obtain ⟨c2, hr⟩ := chk_run hr
    obtain ⟨c6, hr⟩ := chk_run hr
    obtain ⟨c7, hr⟩ := chk_run hr
    simp only [Ans.run, Ans.chk] at hr ⊢
    rw [bcT c1, bcT c2, bcT c6, bcT c7]
    split at hr
    · obtain ⟨c3, c4, hr⟩ := rE_run hr
      simp only [Ans.run]
      rw [bcT c3, bcT c4]; exact hr
    · cases hr
  · cases hr
def eWriteE : Ent := onDisk (fun vs => match vs with | [.int .i64 a, .str s] => .ret (.int .i64 1) [] | _ => .fail)
  (fun n k t vs => match vs with | [.int .i64 a, .str s] => .chk (i64B a) (.chk (!inD n a s.length) (.ret (.int .i64 260) (dk0 n k t))) | _ => .fail)
  (fun n k t rows m vs => match vs with | [.int .i64 a, .str s] => .chk (i64B a) (.chk (!inD n a s.length) (.ret (.int .i64 260) (dk1 n k t rows m))) | _ => .fail)
theorem eWriteE_ok : EntOK Try.prog 25 eWriteE := fun args pre => by
  refine of_run (eWrite_ok args pre) fun r hr => ?_
  unfold eWriteE onDisk at hr
  unfold eWrite onDisk
  split at hr
  · exact hr
  · obtain ⟨c1, hr⟩ := chk_run hr
    obtain ⟨c2, hr⟩ := chk_run hr
    simp only [Ans.run, Ans.chk] at hr ⊢
    rw [bcT c1, bcT c2]
    split at hr
    · obtain ⟨c3, hr⟩ := chk_run hr
      obtain ⟨c4, hr⟩ := chk_run hr
      unfold rW0
      simp only [Ans.run]
      rw [bcT c3, bcF ((Bool.not_eq_true' _).mp c4)]; exact hr
    · cases hr
  · obtain ⟨c1, hr⟩ := chk_run hr
    obtain ⟨c2, hr⟩ := chk_run hr
    obtain ⟨c5, hr⟩ := chk_run hr
    obtain ⟨c6, hr⟩ := chk_run hr
    simp only [Ans.run, Ans.chk] at hr ⊢
    rw [bcT c1, bcT c2, bcT c5, bcT c6]
    split at hr
    · obtain ⟨c3, hr⟩ := chk_run hr
      obtain ⟨c4, hr⟩ := chk_run hr
      unfold rW1
      simp only [Ans.run]
      rw [bcT c3, bcF ((Bool.not_eq_true' _).mp c4)]; exact hr
    · cases hr
  · cases hr
def tEr : Tab := [(25, eWriteE), (24, eSync), (13, eReadE), (23, ePick), (20, eFilled), (10, eTrue), (32, eAre)]
theorem tEr_ok : TabOK Try.prog tEr := .cons eWriteE_ok (.cons eSync_ok (.cons eReadE_ok (.cons ePick_ok (.cons eFilled_ok (.cons awake_ok (.cons eAre_ok .nil))))))
def rdX (d : DD) (a c : Int) : List Bool := d.chk ++ [i64B a, i64B c, !(decide (0 ≤ c) && inD 320 a c.toNat)]
def wrX (d : DD) (a : Int) (l : Nat) : List Bool := d.chk ++ [i64B a, !inD 320 a l]
def crX (d : DD) (x : Int) : List Bool := match d.p with
  | none => [bad1 0 x]
  | some (_, m) => [mkB m, bad1 m x]
/-- What is asked ahead of the pieces that are named twice. -/
def askE (d : DD) (m : Nat) (at_ n : Int) : List Bool :=
  d.chk ++ ([i64B at_] ++ (rdX d (IntKind.i64.wrap (321 + pkI at_ 1000)) 0 ++ ([i64B at_] ++ (rdX d (pkI at_ 321) 321 ++ ([i64B at_] ++ (rdX d (IntKind.i64.wrap (-1 - pkI at_ 1000)) 1 ++ (wrX d (IntKind.i64.wrap (321 + pkI at_ 1000)) 0 ++
    ([i64B n] ++ (wrX d (IntKind.i64.wrap (pkI n 320 + 1)) 320 ++ ([i64B n] ++ (crX d (IntKind.i64.wrap ((m : Int) + pkI n 1000)) ++ ([i64B n] ++ crX d (IntKind.i64.wrap (IntKind.i64.wrap (-1 - (m : Int)) - pkI n 1000))))))))))))))
def xE0 (r1 r2 : List (List CV)) (at_ n : Int) : Ans :=
  ansChks (ansChks (.br (((sT2 r1 r2).drop 0).take 320 == ((sT2 r1 r2).drop 0).take 320) (.ret (.bool true) [fr r1, fr r2]) (.ret (.bool false) [fr r1, fr r2])) (DD.chk ⟨sT1 r1, sT2 r1 r2, none⟩)) (askE ⟨sT1 r1, sT2 r1 r2, none⟩ 0 at_ n)
def endE (r1 r2 : List (List CV)) (rows : List (List CV)) (m : Nat) : Ans :=
  ansChks (.br (((sT2 r1 r2).drop 0).take 320 == ((sT2 r1 r2).drop 0).take 320) (.br ((m : Int) == (m : Int)) (.ret (.bool true) [fr r1, fr r2]) (.ret (.bool false) [fr r1, fr r2])) (.ret (.bool false) [fr r1, fr r2])) (DD.chk ⟨sT1 r1, sT2 r1 r2, some (rows, m)⟩)
def xE1 (r1 r2 : List (List CV)) (rows : List (List CV)) (m : Nat) (at_ n : Int) : Ans :=
  ansChks (.br (decide ((m : Int) > 0)) (ansChks (endE r1 r2 rows m) [i64B n, posB m, i64B n, posB m, mkB m, bad2 m (pkI n m) (IntKind.i64.wrap (-1 - pkI n m))]) (endE r1 r2 rows m)) (askE ⟨sT1 r1, sT2 r1 r2, some (rows, m)⟩ m at_ n)
def xErrors (l1 l2 : Nat) (r1 r2 : List (List CV)) (at_ n : Int) : Ans :=
  ansChks (.br (fillP (r2.take 8)).isEmpty (xE0 r1 r2 at_ n) (xE1 r1 r2 ((fillP (r2.take 8)).map rowOf) (fillP (r2.take 8)).length at_ n)) [okA l1 r1, okA l2 r2]
end Go.Proofs.Ytoekeplljjaehaa

/- Layer 26: what can't be done changes nothing: it is so. -/
set_option linter.unusedVariables false
set_option linter.unusedSimpArgs false
namespace Go.Proofs.Ytoekeplljjaehaa
open Go Sx
theorem out_ge {a : Int} {l : Nat} (h : 320 < a.toNat + l ∨ a < 0) : inD 320 a l = false := decide_eq_false (by omega)
theorem rdX_ok {d : DD} {a c : Int} (hd : d.ok) (ha : i64B a = true) (hc : i64B c = true) (h : inD 320 a c.toNat = false) : ∀ b ∈ rdX d a c, b = true := by
  intro b hb
  rcases List.mem_append.1 hb with hb | hb
  · exact DD.chk_ok hd b hb
  · simp only [List.mem_cons, List.not_mem_nil, or_false] at hb
    rcases hb with rfl | rfl | rfl
    · exact ha
    · exact hc
    · rw [h, Bool.and_false]; rfl
theorem wrX_ok {d : DD} {a : Int} {l : Nat} (hd : d.ok) (ha : i64B a = true) (h : inD 320 a l = false) : ∀ b ∈ wrX d a l, b = true := by
  intro b hb
  rcases List.mem_append.1 hb with hb | hb
  · exact DD.chk_ok hd b hb
  · simp only [List.mem_cons, List.not_mem_nil, or_false] at hb
    rcases hb with rfl | rfl
    · exact ha
    · rw [h]; rfl
theorem all_app {a b : List Bool} (ha : ∀ x ∈ a, x = true) (hb : ∀ x ∈ b, x = true) : ∀ x ∈ a ++ b, x = true := fun x hx => (List.mem_append.1 hx).elim (ha x) (hb x)
theorem all_one {a : Bool} (ha : a = true) : ∀ x ∈ [a], x = true := fun x hx => by rw [List.mem_singleton.1 hx]; exact ha
theorem mkB_ok {m : Nat} (h : m ≤ 1000000) : mkB m = true := decide_eq_true (by omega)
theorem nmI_pos {x : Int} (h : 0 ≤ x) : nmI x = x := by unfold nmI; rw [if_neg (by omega)]
theorem nmI_neg {x : Int} (h : x < 0) (h2 : -9223372036854775808 ≤ x) : nmI x = -1 - x := by unfold nmI; rw [if_pos h, i64_in (by omega) (by omega)]
theorem crX_ok {d : DD} {m : Nat} {x : Int} (hp : (d.p = none ∧ m = 0) ∨ ∃ rows, d.p = some (rows, m)) (hm : m ≤ 1000000) (hx : (m : Int) ≤ nmI x) : ∀ b ∈ crX d x, b = true := by
  unfold crX
  rcases hp with ⟨hp, rfl⟩ | ⟨rows, hp⟩
  · rw [hp]; exact all_one (decide_eq_true hx)
  · rw [hp]
    intro b hb
    simp only [List.mem_cons, List.not_mem_nil, or_false] at hb
    rcases hb with rfl | rfl
    · exact mkB_ok hm
    · exact decide_eq_true hx
theorem askE_ok {d : DD} {m : Nat} {at_ n : Int} (hd : d.ok) (ha : i64B at_ = true) (hn : i64B n = true) (hm : m ≤ 1000000) (hp : (d.p = none ∧ m = 0) ∨ ∃ rows, d.p = some (rows, m)) : ∀ b ∈ askE d m at_ n, b = true := by
  have a1 : pkI at_ 1000 = (pk at_ 1000 : Nat) := pkI_nat (n := 1000) ha
  have a2 : pkI at_ 321 = (pk at_ 321 : Nat) := pkI_nat (n := 321) ha
  have n1 : pkI n 320 = (pk n 320 : Nat) := pkI_nat (n := 320) hn
  have n2 : pkI n 1000 = (pk n 1000 : Nat) := pkI_nat (n := 1000) hn
  have b1 := pk_lt (c := at_) (n := 1000) (by omega)
  have b2 := pk_lt (c := at_) (n := 321) (by omega)
  have b3 := pk_lt (c := n) (n := 320) (by omega)
  have b4 := pk_lt (c := n) (n := 1000) (by omega)
  unfold askE
  rw [a1, a2, n1, n2, i64_in (n := 321 + (pk at_ 1000 : Nat)) (by omega) (by omega), i64_in (n := -1 - (pk at_ 1000 : Nat)) (by omega) (by omega), i64_in (n := (pk n 320 : Nat) + 1) (by omega) (by omega), i64_in (n := (m : Int) + (pk n 1000 : Nat)) (by omega) (by omega), i64_in (n := -1 - (m : Int)) (by omega) (by omega), i64_in (n := -1 - (m : Int) - (pk n 1000 : Nat)) (by omega) (by omega)]
  refine all_app (DD.chk_ok hd) (all_app (all_one ha) (all_app (rdX_ok hd (i64B_to (by omega)) rfl (out_ge (by omega))) (all_app (all_one ha) (all_app (rdX_ok hd (i64B_to (by omega)) rfl (out_ge ?_)) (all_app (all_one ha) (all_app (rdX_ok hd (i64B_to (by omega)) rfl (out_ge (by omega)))
    (all_app (wrX_ok hd (i64B_to (by omega)) (out_ge (by omega))) (all_app (all_one hn) (all_app (wrX_ok hd (i64B_to (by omega)) (out_ge (by omega))) (all_app (all_one hn) (all_app (crX_ok hp hm ?_) (all_app (all_one hn) (crX_ok hp hm ?_)))))))))))))
  · left; show 320 < _ + 321; omega
  · rw [nmI_pos (by omega)]; omega
  · rw [nmI_neg (by omega) (by omega)]; omega
theorem errors_true {l1 l2 : Nat} {r1 r2 : List (List CV)} {at_ n : Int} (h1 : okA l1 r1 = true) (h2 : okA l2 r2 = true) (ha : i64B at_ = true) (hn : i64B n = true) : (xErrors l1 l2 r1 r2 at_ n).run pure2 = some (.bool true, [fr r1, fr r2]) := by
  have e1 := sT1_len r1
  have e2 := sT2_len r1 r2
  have hP := fillP_len (r2.take 8)
  have hP2 : (fillP (r2.take 8)).length ≤ 2560 := by rw [List.length_take] at hP; omega
  unfold xErrors
  refine ansChks_run ?_ (by intro b hb; simp only [List.mem_cons, List.not_mem_nil, or_false] at hb; rcases hb with rfl | rfl; exact h1; exact h2)
  simp only [Ans.run]
  cases hP0 : (fillP (r2.take 8)).isEmpty with
  | true =>
    rw [bcT rfl]
    have hd : DD.ok ⟨sT1 r1, sT2 r1 r2, none⟩ := ⟨e1, e2, fun rows m h => by cases h⟩
    unfold xE0
    refine ansChks_run ?_ (askE_ok hd ha hn (by omega) (.inl ⟨rfl, rfl⟩))
    refine ansChks_run ?_ (DD.chk_ok hd)
    simp only [Ans.run]
    rw [bcT (by simp)]; rfl
  | false =>
    rw [bcF rfl]
    have hd : DD.ok ⟨sT1 r1, sT2 r1 r2, some ((fillP (r2.take 8)).map rowOf, (fillP (r2.take 8)).length)⟩ := ⟨e1, e2, fun rows m h => by cases h; exact ⟨by rw [List.length_map], by omega⟩⟩
    have hend : (endE r1 r2 ((fillP (r2.take 8)).map rowOf) (fillP (r2.take 8)).length).run pure2 = some (.bool true, [fr r1, fr r2]) := by
      unfold endE
      refine ansChks_run ?_ (DD.chk_ok hd)
      simp only [Ans.run]
      rw [bcT (by simp), bcT (by simp)]; rfl
    generalize hm : (fillP (r2.take 8)).length = m at hd hend hP2
    unfold xE1
    refine ansChks_run ?_ (askE_ok hd ha hn (by omega) (.inr ⟨_, rfl⟩))
    simp only [Ans.run]
    by_cases hm0 : 0 < m
    · rw [bcT (decide_eq_true (by omega))]
      refine ansChks_run hend ?_
      have b1 := pk_lt (c := n) (n := m) hm0
      have ep : pkI n (m : Int) = (pk n m : Nat) := pkI_nat (n := m) hn
      intro b hb
      simp only [List.mem_cons, List.not_mem_nil, or_false] at hb
      rcases hb with rfl | rfl | rfl | rfl | rfl | rfl
      · exact hn
      · exact posB_to (by omega)
      · exact hn
      · exact posB_to (by omega)
      · exact mkB_ok (by omega)
      · rw [ep, i64_in (by omega) (by omega)]
        unfold bad2
        rw [nmI_pos (x := ((pk n m : Nat) : Int)) (by omega), nmI_neg (by omega) (by omega)]
        exact decide_eq_true (by omega)
    · rw [bcF (decide_eq_false (by omega))]
      exact hend
end Go.Proofs.Ytoekeplljjaehaa

/- Layer 26: all pieces are kept, or none: it is so. -/
set_option linter.unusedVariables false
set_option linter.unusedSimpArgs false
namespace Go.Proofs.Ytoekeplljjaehaa
open Go Sx
/-- Pieces laid, one behind the other. -/
def layP : List (Nat × List UInt8) → List UInt8 → List UInt8
  | [], k => k
  | p :: ps, k => layP ps (splice p.1 p.2 k)
theorem layP_app : ∀ (a b : List (Nat × List UInt8)) (k : List UInt8), layP (a ++ b) k = layP b (layP a k)
  | [], b, k => rfl
  | p :: a, b, k => layP_app a b (splice p.1 p.2 k)
theorem layP_parts : ∀ (f a : Nat) (s k : List UInt8), s.length ≤ f → a + s.length ≤ k.length → layP (parts a s) k = splice a s k
  | _, a, [], k, _, h => by rw [parts_nil, splice_nil (by simpa using h)]; rfl
  | 0, a, c :: s, k, h, _ => by simp at h
  | f + 1, a, c :: s, k, h, h2 => by
    have h3 : 1 ≤ hd a (c :: s) := hd_pos (by simp)
    have h4 := hd_le a (c :: s)
    rw [parts_cons (by simp)]
    show layP (parts _ _) (splice a _ k) = _
    have hl : (splice a ((c :: s).take (hd a (c :: s))) k).length = k.length := splice_len (by rw [List.length_take]; omega)
    rw [layP_parts f _ _ _ (by rw [List.length_drop]; simp only [List.length_cons] at *; omega) (by rw [hl, List.length_drop]; omega)]
    exact splice_two h2 h4
theorem layP_fill : ∀ (rs : List (List CV)) (t : List UInt8), t.length = 320 → layP (fillP rs) t = fillT rs t
  | [], t, h => rfl
  | r :: rs, t, h => by
    have h1 := sN_le r
    rw [fillP, layP_app, layP_parts _ _ _ _ (Nat.le_refl _) (by omega), fillT]
    exact layP_fill rs _ (by rw [splice_len (by omega)]; exact h)
/-- Each piece lies within the disk. -/
theorem parts_in : ∀ (f a : Nat) (s : List UInt8), s.length ≤ f → ∀ p ∈ parts a s, a ≤ p.1 ∧ p.1 + p.2.length ≤ a + s.length
  | _, a, [], _, p, hp => by rw [parts_nil] at hp; cases hp
  | 0, a, c :: s, h, p, hp => by simp at h
  | f + 1, a, c :: s, h, p, hp => by
    have h3 : 1 ≤ hd a (c :: s) := hd_pos (by simp)
    have h4 := hd_le a (c :: s)
    rw [parts_cons (by simp)] at hp
    rcases List.mem_cons.1 hp with rfl | hp
    · simp only [List.length_take]; omega
    · have := parts_in f _ _ (by rw [List.length_drop]; simp only [List.length_cons] at *; omega) p hp
      rw [List.length_drop] at this
      omega
theorem fillP_in : ∀ (rs : List (List CV)), ∀ p ∈ fillP rs, p.1 + p.2.length ≤ 320
  | [], p, hp => by cases hp
  | r :: rs, p, hp => by
    rcases List.mem_append.1 hp with hp | hp
    · have := parts_in _ _ _ (Nat.le_refl _) p hp
      have := sN_le r
      omega
    · exact fillP_in rs p hp
theorem rows_fill (rs : List (List CV)) : rowsB 320 ((fillP rs).map rowOf) = true := by
  refine List.all_eq_true.2 fun r hr => ?_
  obtain ⟨p, hp, rfl⟩ := List.mem_map.1 hr
  have := fillP_in rs p hp
  show (decide (0 ≤ ((p.1 : Nat) : Int)) && decide (((p.1 : Nat) : Int).toNat + p.2.length ≤ 320)) = true
  rw [decide_eq_true (by omega), decide_eq_true (by simpa using this)]; rfl
theorem layX_at {P : List (Nat × List UInt8)} {j : Nat} (hj : j < P.length) (k : List UInt8) : layX (P.map rowOf) (j : Int) k = splice P[j].1 P[j].2 k := by
  have e : Sx.rowAt (P.map rowOf) j = rowOf P[j] := by unfold Sx.rowAt; rw [List.getD_eq_getElem?_getD, List.getElem?_map, List.getElem?_eq_getElem hj]; rfl
  unfold layX
  rw [nmI_pos (by omega), if_neg (by omega), Int.toNat_natCast, e]
  show splice (((P[j]).1 : Nat) : Int).toNat _ k = _
  rw [Int.toNat_natCast]; rfl
theorem layAll_app (rows : List (List CV)) : ∀ (a b : List Int) (k : List UInt8), layAll rows (a ++ b) k = layAll rows b (layAll rows a k)
  | [], b, k => rfl
  | x :: a, b, k => layAll_app rows a b (layX rows x k)
theorem layAll_upto (P : List (Nat × List UInt8)) (k : List UInt8) : ∀ j, j ≤ P.length → layAll (P.map rowOf) (upto j) k = layP (P.take j) k
  | 0, _ => by simp [upto, layAll, layP]
  | j + 1, h => by
    have hj : j < P.length := h
    rw [upto_succ, layAll_app, layAll_upto P k j (by omega), List.take_succ_eq_append_getElem hj, layP_app]
    show layX _ _ _ = _
    rw [layX_at hj]; rfl
theorem okK_upto {m : Nat} : ∀ (d j : Nat) (tk : List Bool), m - j = d → j ≤ m → tk.length = m → (∀ i, j ≤ i → tk.getD i false = false) → okK m tk ((upto m).drop j) = true
  | 0, j, tk, hd, hj, hl, ht => by rw [List.drop_of_length_le (by rw [upto_len]; omega)]; rfl
  | d + 1, j, tk, hd, hj, hl, ht => by
    have hj' : j < (upto m).length := by rw [upto_len]; omega
    rw [getD_drop hj']
    have e : (upto m).getD j 0 = (j : Int) := by unfold upto; rw [List.getD_eq_getElem?_getD, List.getElem?_map, List.getElem?_range (by omega)]; rfl
    rw [e]
    simp only [okK, Bool.and_eq_true]
    rw [nmI_pos (by omega)]
    refine ⟨decide_eq_true (by omega), ?_, ?_⟩
    · unfold gtB; simp only [Int.toNat_natCast]; rw [ht _ (by omega)]; rfl
    · refine okK_upto d (j + 1) _ (by omega) (by omega) (by rw [List.length_set]; exact hl) fun i hi => ?_
      simp only [Int.toNat_natCast]
      rw [List.getD_eq_getElem?_getD, List.getElem?_set_ne (by omega), ← List.getD_eq_getElem?_getD]
      exact ht i (by omega)
theorem endN_true {l1 : Nat} {r1 r2 : List (List CV)} {k t : List UInt8} (hl : okA l1 r1 = true) (hk : k.length = 320) (ht : t.length = 320) : (endN l1 r1 r2 k t t).run pure2 = some (.bool true, [fr r1, fr r2]) := by
  unfold endN
  simp only [Ans.run, Ans.chk]
  simp [bcond, pure2, smN_t ht ht, smN_t hk hk, hl]
theorem allNone_N {l1 l2 : Nat} {r1 r2 : List (List CV)} (h1 : okA l1 r1 = true) (h2 : okA l2 r2 = true) (h0 : (fillP (r2.take 8)).isEmpty = true) : (xN0 l1 l2 r1 r2).run pure2 = some (.bool true, [fr r1, fr r2]) := by
  have e1 := sT1_len r1
  have e2 := sT2_len r1 r2
  have e : sT2 r1 r2 = sT1 r1 := by
    have := layP_fill (r2.take 8) (sT1 r1) e1
    rw [List.isEmpty_iff.1 h0] at this
    exact this.symm
  unfold xN0
  have hs := smN_t e1 e2
  have hs2 := smN_t e2 e2
  refine ansChks_run ?_ (by
    intro b hb
    simp only [List.mem_cons, List.not_mem_nil, or_false] at hb
    rcases hb with rfl | rfl | rfl | rfl | rfl | rfl | rfl | rfl | rfl | rfl | rfl | rfl | rfl | rfl <;> assumption)
  rw [e]
  exact endN_true h1 e1 e1
theorem allNone_V {l1 l2 : Nat} {r1 r2 : List (List CV)} (h1 : okA l1 r1 = true) (h2 : okA l2 r2 = true) (h0 : (fillP (r2.take 8)).isEmpty = false) : (xNV l1 l2 r1 r2 ((fillP (r2.take 8)).map rowOf) (fillP (r2.take 8)).length).run pure2 = some (.bool true, [fr r1, fr r2]) := by
  have e1 := sT1_len r1
  have e2 := sT2_len r1 r2
  have hP := fillP_len (r2.take 8)
  have hP2 : (fillP (r2.take 8)).length ≤ 2560 := by rw [List.length_take] at hP; omega
  have hpos : 0 < (fillP (r2.take 8)).length := List.length_pos_iff.2 (fun e => by rw [e] at h0; cases h0)
  have hlay : layAll ((fillP (r2.take 8)).map rowOf) (upto (fillP (r2.take 8)).length) (sT1 r1) = sT2 r1 r2 := by
    rw [layAll_upto _ _ _ (Nat.le_refl _), List.take_length]
    exact layP_fill _ _ e1
  have hrows := rows_fill (r2.take 8)
  have hv : vB ((fillP (r2.take 8)).map rowOf) (fillP (r2.take 8)).length = true := decide_eq_true ⟨by rw [List.length_map], by omega⟩
  have hn : (!(fillP (r2.take 8)).isEmpty) = true := by rw [h0]; rfl
  unfold xNV
  rw [hlay]
  have hs := smN_t e1 e2
  have hs2 := smN_t e2 e2
  have hm : posM (fillP (r2.take 8)).length = true := decide_eq_true (by omega)
  have ha : askC (upto (fillP (r2.take 8)).length) (fillP (r2.take 8)).length 320 320 320 320 (fillP (r2.take 8)).length (sT1 r1) (sT2 r1 r2) ((fillP (r2.take 8)).map rowOf) = true := decide_eq_true ⟨upto_len _, by omega, rfl, rfl, rfl, by rw [List.length_map], by omega, e1, e2, by omega⟩
  have hk : okK (fillP (r2.take 8)).length (tk (fillP (r2.take 8)).length) (upto (fillP (r2.take 8)).length) = true := by
    refine okK_upto _ 0 _ rfl (Nat.zero_le _) (by unfold tk; simp) fun i _ => ?_
    unfold tk
    rw [List.getD_eq_getElem?_getD, List.getElem?_replicate]; split <;> rfl
  have hq := eqSt_refl (sN0 l1 r1 r2 (allS (sT2 r1 r2)) (sT1 r1) (sT2 r1 r2) ((fillP (r2.take 8)).map rowOf) (fillP (r2.take 8)).length)
  refine ansChks_run (endN_true h1 e1 e2) (by
    intro b hb
    simp only [List.mem_cons, List.not_mem_nil, or_false] at hb
    rcases hb with rfl | rfl | rfl | rfl | rfl | rfl | rfl | rfl | rfl | rfl | rfl | rfl | rfl | rfl | rfl | rfl | rfl | rfl | rfl | rfl | rfl <;> assumption)
end Go.Proofs.Ytoekeplljjaehaa

/- Layer 26: what was synced stays: it is so. -/
set_option linter.unusedVariables false
set_option linter.unusedSimpArgs false
namespace Go.Proofs.Ytoekeplljjaehaa
open Go Sx
theorem splice_get {a i : Nat} {s k : List UInt8} (h : a + s.length ≤ k.length) (hi : i < a ∨ a + s.length ≤ i) : (splice a s k)[i]? = k[i]? := by
  unfold splice
  have h1 : (k.take a).length = a := by rw [List.length_take]; omega
  have h2 : (k.take a ++ s).length = a + s.length := by rw [List.length_append, h1]
  rcases hi with hi | hi
  · rw [List.append_assoc, List.getElem?_append_left (by omega), List.getElem?_take_of_lt hi]
  · rw [List.getElem?_append_right (by omega), h2, List.getElem?_drop]
    congr 1; omega
theorem out_rows {i : Nat} : ∀ (rs : List (List CV)), rs.any (hit (i : Int)) = false → ∀ p ∈ fillP rs, i < p.1 ∨ p.1 + p.2.length ≤ i
  | [], _, p, hp => by cases hp
  | r :: rs, h, p, hp => by
    rw [List.any_cons, Bool.or_eq_false_iff] at h
    rcases List.mem_append.1 hp with hp | hp
    · have h1 := of_decide_eq_false h.1
      have h2 := parts_in _ _ _ (Nat.le_refl _) p hp
      have h3 : (sN r).length ≤ (sC r).length := by unfold sN; rw [List.length_take]; omega
      omega
    · exact out_rows rs h.2 p hp
theorem layX_get {P : List (Nat × List UInt8)} {i : Nat} {x : Int} {k : List UInt8} (hx : ixm (nmI x) P.length = true) (hk : k.length = 320) (hP : ∀ p ∈ P, p.1 + p.2.length ≤ 320) (ho : ∀ p ∈ P, i < p.1 ∨ p.1 + p.2.length ≤ i) : (layX (P.map rowOf) x k)[i]? = k[i]? := by
  have hx := of_decide_eq_true hx
  have hj : (nmI x).toNat < P.length := by omega
  have e : Sx.rowAt (P.map rowOf) (nmI x).toNat = rowOf P[(nmI x).toNat] := by unfold Sx.rowAt; rw [List.getD_eq_getElem?_getD, List.getElem?_map, List.getElem?_eq_getElem hj]; rfl
  have h1 := hP _ (List.getElem_mem hj)
  have h2 := ho _ (List.getElem_mem hj)
  generalize P[(nmI x).toNat] = q at e h1 h2
  unfold layX
  rw [e]
  show (splice ((q.1 : Nat) : Int).toNat (if x < 0 then q.2.take (q.2.length / 2) else q.2) k)[i]? = _
  rw [Int.toNat_natCast]
  split
  · exact splice_get (by rw [List.length_take]; omega) (by rw [List.length_take]; omega)
  · exact splice_get (by omega) h2
theorem layAll_get {P : List (Nat × List UInt8)} {i : Nat} (hP : ∀ p ∈ P, p.1 + p.2.length ≤ 320) (hR : rowsB 320 (P.map rowOf) = true) (ho : ∀ p ∈ P, i < p.1 ∨ p.1 + p.2.length ≤ i) : ∀ (l : List Int) (k : List UInt8), (∀ x ∈ l, ixm (nmI x) P.length = true) → k.length = 320 → (layAll (P.map rowOf) l k)[i]? = k[i]?
  | [], k, _, _ => rfl
  | x :: l, k, h, hk => by
    have hx := h x (List.mem_cons_self ..)
    show (layAll (P.map rowOf) l (layX (P.map rowOf) x k))[i]? = _
    rw [layAll_get hP hR ho l _ (fun y hy => h y (List.mem_cons_of_mem _ hy)) (layX_len hR (by rw [List.length_map]; exact hx) hk)]
    exact layX_get hx hk hP ho
theorem allS_eq {t : List UInt8} (h : t.length = 320) : allS t = t := by
  show (t.drop 0).take 320 = t
  rw [List.drop_zero, List.take_of_length_le (by omega)]
theorem noLoss_refl {r2 : List (List CV)} {t : List UInt8} (h : t.length = 320) : NoLoss r2 t t := ⟨h, h, fun _ _ _ => rfl⟩
theorem noLoss_lay {r2 : List (List CV)} {l : List Int} {k : List UInt8} (hk : k.length = 320) (hl : ∀ x ∈ l, ixm (nmI x) (fillP (r2.take 8)).length = true) : NoLoss r2 k (layAll ((fillP (r2.take 8)).map rowOf) l k) := by
  have hR := rows_fill (r2.take 8)
  refine ⟨layAll_len hR (by rw [List.length_map]; exact hl) hk, hk, fun i hi ha => ?_⟩
  have := layAll_get (i := i) (fillP_in (r2.take 8)) hR (out_rows _ ha) l k hl hk
  unfold byteAt
  simp only [List.getD_eq_getElem?_getD, this]
theorem endS_true {l2 : Nat} {r1 r2 : List (List CV)} {ks : List Int} {k' : List UInt8} (h2 : okA l2 r2 = true) (hk : k'.length = 320) (hn : NoLoss r2 (sT1 r1) k') : (endS l2 r1 r2 ks k').run pure2 = some (.bool true, pS r1 r2 ks) := by
  have e1 := sT1_len r1
  unfold endS
  rw [allS_eq e1, allS_eq hk]
  simp only [Ans.run, Ans.chk]
  rw [bcT (smN_t hk hk), bcF (by rw [hk]; rfl), bcF (by rw [e1]; rfl)]
  refine ansChks_run (r := some (.bool true, pS r1 r2 ks)) rfl ?_
  intro b hb
  simp only [List.mem_cons, List.not_mem_nil, or_false] at hb
  rcases hb with rfl | rfl | rfl
  · exact eqSt_refl _
  · exact h2
  · exact clB_to hn
theorem synced_0 {l1 l2 : Nat} {r1 r2 : List (List CV)} {ks : List Int} (h1 : okA l1 r1 = true) (h2 : okA l2 r2 = true) (h0 : (fillP (r2.take 8)).isEmpty = true) : (xS0 l1 l2 r1 r2 ks).run pure2 = some (.bool true, pS r1 r2 ks) := by
  have e1 := sT1_len r1
  have e2 := sT2_len r1 r2
  have hs := smN_t e1 e2
  have hs1 := smN_t e1 e1
  unfold xS0
  refine ansChks_run (endS_true h2 e1 (noLoss_refl e1)) ?_
  intro b hb
  simp only [List.mem_cons, List.not_mem_nil, or_false] at hb
  rcases hb with rfl | rfl | rfl | rfl | rfl | rfl <;> assumption
theorem askKp_to {l : List Int} {len m : Nat} (h1 : l.length = len) (h2 : 0 < m) (h3 : m ≤ 1099511627776) (h4 : l.all i64B = true) : askKp l len (m : Int) = true := by
  unfold askKp; rw [h4, Bool.and_true]; exact decide_eq_true (by omega)
theorem keepL_len (m : Nat) : ∀ (l : List Int) (tk : List Bool), (keepL m tk l).length ≤ l.length
  | [], _ => Nat.le_refl _
  | x :: xs, tk => by
    have h1 := keepL_len m xs tk
    have h2 := keepL_len m xs (tkS tk ((pk x (2 * m) / 2 : Nat) : Int))
    simp only [keepL]
    split <;> simp only [List.length_cons] <;> omega
theorem synced_V {l1 l2 lk : Nat} {r1 r2 : List (List CV)} {ks : List Int} (h1 : okA l1 r1 = true) (h2 : okA l2 r2 = true) (hk : ks.length = lk) (hi : ks.all i64B = true) (h0 : (fillP (r2.take 8)).isEmpty = false) :
    ((keepS (fillP (r2.take 8)).length ks).isEmpty = true → (xSE l1 l2 lk r1 r2 ks ((fillP (r2.take 8)).map rowOf) (fillP (r2.take 8)).length).run pure2 = some (.bool true, pS r1 r2 ks)) ∧
    ((keepS (fillP (r2.take 8)).length ks).isEmpty = false → (xSV l1 l2 lk r1 r2 ks ((fillP (r2.take 8)).map rowOf) (fillP (r2.take 8)).length).run pure2 = some (.bool true, pS r1 r2 ks)) := by
  have e1 := sT1_len r1
  have e2 := sT2_len r1 r2
  have hs := smN_t e1 e2
  have hs1 := smN_t e1 e1
  have hP := fillP_len (r2.take 8)
  have hP2 : (fillP (r2.take 8)).length ≤ 2560 := by rw [List.length_take] at hP; omega
  have hpos : 0 < (fillP (r2.take 8)).length := List.length_pos_iff.2 (fun e => by rw [e] at h0; cases h0)
  have hv : vB ((fillP (r2.take 8)).map rowOf) (fillP (r2.take 8)).length = true := decide_eq_true ⟨by rw [List.length_map], by omega⟩
  have hn : (!(fillP (r2.take 8)).isEmpty) = true := by rw [h0]; rfl
  have ha := askKp_to hk hpos (show (fillP (r2.take 8)).length ≤ 1099511627776 by omega) hi
  have hrows := rows_fill (r2.take 8)
  refine ⟨fun he => ?_, fun he => ?_⟩
  · unfold xSE
    refine ansChks_run (endS_true h2 e1 (noLoss_refl e1)) ?_
    intro b hb
    simp only [List.mem_cons, List.not_mem_nil, or_false] at hb
    rcases hb with rfl | rfl | rfl | rfl | rfl | rfl | rfl | rfl | rfl <;> assumption
  · have hok : okK (fillP (r2.take 8)).length (tk (fillP (r2.take 8)).length) (keepS (fillP (r2.take 8)).length ks) = true := keepL_ok hpos (by omega) _ _
    have hin := okK_in hok
    have hl := noLoss_lay (r2 := r2) (l := keepS (fillP (r2.take 8)).length ks) e1 hin
    have hkl : (keepS (fillP (r2.take 8)).length ks).length ≤ 20 := by
      unfold keepS
      have := keepL_len (fillP (r2.take 8)).length (ks.take 20) (tk (fillP (r2.take 8)).length)
      rw [List.length_take] at this; omega
    have hne : (!(keepS (fillP (r2.take 8)).length ks).isEmpty) = true := by rw [he]; rfl
    have hc : askC (keepS (fillP (r2.take 8)).length ks) (keepS (fillP (r2.take 8)).length ks).length 320 320 320 320 (fillP (r2.take 8)).length (sT1 r1) (sT2 r1 r2) ((fillP (r2.take 8)).map rowOf) = true := decide_eq_true ⟨rfl, by omega, rfl, rfl, rfl, by rw [List.length_map], by omega, e1, e2, by omega⟩
    unfold xSV
    refine ansChks_run (endS_true h2 hl.1 hl) ?_
    intro b hb
    simp only [List.mem_cons, List.not_mem_nil, or_false] at hb
    rcases hb with rfl | rfl | rfl | rfl | rfl | rfl | rfl | rfl | rfl | rfl <;> assumption
end Go.Proofs.Ytoekeplljjaehaa

/- Layer 26: pieces that are torn: it is so. -/
set_option linter.unusedVariables false
set_option linter.unusedSimpArgs false
namespace Go.Proofs.Ytoekeplljjaehaa
open Go Sx
def seg (a L : Nat) (u : List UInt8) : List UInt8 := (u.drop a).take L
theorem seg_self {a L : Nat} {S u : List UInt8} (h1 : S.length ≤ L) (h2 : a + L ≤ u.length) : seg a L (splice a S u) = S ++ (seg a L u).drop S.length := by
  unfold seg splice
  have h3 : (u.take a).length = a := by rw [List.length_take]; omega
  rw [List.append_assoc, List.drop_append, h3, Nat.sub_self, List.drop_zero, List.drop_of_length_le (by omega), List.nil_append, List.take_append, List.take_of_length_le h1, List.drop_take, List.drop_drop]
theorem seg_other {a L a' : Nat} {S u : List UInt8} (h : a' + S.length ≤ a ∨ a + L ≤ a') (h1 : a' + S.length ≤ u.length) : seg a L (splice a' S u) = seg a L u := by
  unfold seg
  refine List.ext_getElem? fun i => ?_
  rw [List.getElem?_take, List.getElem?_take]
  split
  · rw [List.getElem?_drop, List.getElem?_drop]
    exact splice_get h1 (by omega)
  · rfl
theorem parts_apart : ∀ (f a : Nat) (s : List UInt8), s.length ≤ f → (parts a s).Pairwise fun p q => p.1 + p.2.length ≤ q.1
  | _, a, [], _ => by rw [parts_nil]; exact .nil
  | 0, a, c :: s, h => by simp at h
  | f + 1, a, c :: s, h => by
    have h3 : 1 ≤ hd a (c :: s) := hd_pos (by simp)
    have h4 := hd_le a (c :: s)
    rw [parts_cons (by simp)]
    refine List.pairwise_cons.2 ⟨fun q hq => ?_, parts_apart f _ _ (by rw [List.length_drop]; simp only [List.length_cons] at *; omega)⟩
    have := parts_in _ _ _ (Nat.le_refl _) q hq
    simp only [List.length_take]; omega
theorem keepL_form {m : Nat} (h0 : 0 < m) : ∀ (l : List Int) (tk : List Bool), ∀ x ∈ keepL m tk l, ∃ h : Nat, h < m ∧ (x = -1 - (h : Int) ∨ x = (h : Int))
  | [], _, x, hx => by cases hx
  | y :: ys, tk, x, hx => by
    have hk := pk_lt (c := y) (n := 2 * m) (by omega)
    simp only [keepL] at hx
    split at hx
    · exact keepL_form h0 ys tk x hx
    · rcases List.mem_cons.1 hx with rfl | hx
      · refine ⟨pk y (2 * m) / 2, by omega, ?_⟩
        split
        · exact .inl rfl
        · exact .inr rfl
      · exact keepL_form h0 ys _ x hx
theorem gt_set {tk : List Bool} {h k : Nat} (hl : h < tk.length) : gtB (k : Int) (tk.set (0 + (h : Int).toNat * 1) true) = if k = h then true else gtB (k : Int) tk := by
  unfold gtB
  simp only [Int.toNat_natCast, Nat.zero_add, Nat.mul_one, List.getD_eq_getElem?_getD]
  by_cases e : k = h
  · subst e; rw [if_pos rfl, List.getElem?_set_self hl]; rfl
  · rw [if_neg e, List.getElem?_set_ne (fun e2 => e e2.symm)]
/-- What comes of one piece. -/
theorem lay_seg {P : List (Nat × List UInt8)} (hP : ∀ p ∈ P, p.1 + p.2.length ≤ 320) (hR : rowsB 320 (P.map rowOf) = true) (hA : P.Pairwise fun p q => p.1 + p.2.length ≤ q.1) (hm : P.length ≤ 1000000) {k : Nat} (hk : k < P.length) :
    ∀ (l : List Int) (tk : List Bool) (u : List UInt8), okK P.length tk l = true → tk.length = P.length → (∀ x ∈ l, ∃ h : Nat, h < P.length ∧ (x = -1 - (h : Int) ∨ x = (h : Int))) → u.length = 320 →
      (gtB (k : Int) tk = true → seg P[k].1 P[k].2.length (layAll (P.map rowOf) l u) = seg P[k].1 P[k].2.length u ∧ ∀ n, nT k P[k].2.length l n = n) ∧
      (gtB (k : Int) tk = false → seg P[k].1 P[k].2.length (layAll (P.map rowOf) l u) = P[k].2.take (nT k P[k].2.length l 0) ++ (seg P[k].1 P[k].2.length u).drop (nT k P[k].2.length l 0))
  | [], tk, u, _, _, _, _ => ⟨fun _ => ⟨rfl, fun _ => rfl⟩, fun _ => by simp [layAll, nT]⟩
  | x :: xs, tk, u, ho, ht, hf, hu => by
    obtain ⟨h, hh, hx⟩ := hf x (List.mem_cons_self ..)
    have hn : nmI x = (h : Int) := nm_kept (by omega) hx
    simp only [okK, Bool.and_eq_true, hn] at ho
    obtain ⟨o1, o2, o3⟩ := ho
    have o2 := (Bool.not_eq_true' _).mp o2
    have hix : ixm (nmI x) (P.map rowOf).length = true := by rw [hn, List.length_map]; exact o1
    have hu' := layX_len hR hix hu
    have ih := lay_seg hP hR hA hm hk xs (tk.set (0 + (h : Int).toNat * 1) true) (layX (P.map rowOf) x u) o3 (by rw [List.length_set]; exact ht) (fun y hy => hf y (List.mem_cons_of_mem _ hy)) hu'
    rw [gt_set (by omega)] at ih
    have e : Sx.rowAt (P.map rowOf) (nmI x).toNat = rowOf P[h] := by rw [hn, Int.toNat_natCast]; unfold Sx.rowAt; rw [List.getD_eq_getElem?_getD, List.getElem?_map, List.getElem?_eq_getElem hh]; rfl
    have hlx : layX (P.map rowOf) x u = splice P[h].1 (if x < 0 then P[h].2.take (P[h].2.length / 2) else P[h].2) u := by
      unfold layX; rw [e]
      show splice (((P[h]).1 : Nat) : Int).toNat _ u = _
      rw [Int.toNat_natCast]; rfl
    have hq := hP _ (List.getElem_mem hh)
    have hq2 := hP _ (List.getElem_mem hk)
    show (_ → seg _ _ (layAll (P.map rowOf) xs (layX (P.map rowOf) x u)) = _ ∧ _) ∧ (_ → seg _ _ (layAll (P.map rowOf) xs (layX (P.map rowOf) x u)) = _)
    by_cases c : k = h
    · subst c
      rw [if_pos rfl] at ih
      refine ⟨fun g => absurd (g.symm.trans o2) (by simp), fun _ => ?_⟩
      obtain ⟨i1, i2⟩ := ih.1 rfl
      have hN : nT k P[k].2.length (x :: xs) 0 = if x < 0 then P[k].2.length / 2 else P[k].2.length := by
        show nT k P[k].2.length xs _ = _
        rw [i2]
        rcases hx with rfl | rfl
        · rw [if_pos rfl, if_pos (by omega)]
        · rw [if_neg (by omega), if_pos rfl, if_neg (by omega)]
      rw [i1, hN, hlx]
      split
      · rw [seg_self (by rw [List.length_take]; omega) (by omega), List.length_take, Nat.min_eq_left (by omega)]
      · rw [seg_self (Nat.le_refl _) (by omega), List.take_length]
    · rw [if_neg c] at ih
      have hx1 : ¬ x = -1 - (k : Int) := fun e => by rcases hx with e2 | e2 <;> omega
      have hx2 : ¬ x = (k : Int) := fun e => by rcases hx with e2 | e2 <;> omega
      have hN : ∀ n, nT k P[k].2.length (x :: xs) n = nT k P[k].2.length xs n := fun n => by
        show nT k P[k].2.length xs _ = _
        rw [if_neg hx1, if_neg hx2]
      have hap : P[h].1 + P[h].2.length ≤ P[k].1 ∨ P[k].1 + P[k].2.length ≤ P[h].1 := by
        have := List.pairwise_iff_getElem.1 hA
        rcases Nat.lt_or_ge h k with c2 | c2
        · exact .inl (this h k hh hk c2)
        · exact .inr (this k h hk hh (by omega))
      have hseg : seg P[k].1 P[k].2.length (layX (P.map rowOf) x u) = seg P[k].1 P[k].2.length u := by
        rw [hlx]
        split
        · exact seg_other (by rw [List.length_take]; omega) (by rw [List.length_take]; omega)
        · exact seg_other hap (by omega)
      rw [hseg] at ih
      refine ⟨fun g => ⟨(ih.1 g).1, fun n => by rw [hN]; exact (ih.1 g).2 n⟩, fun g => ?_⟩
      rw [hN]; exact ih.2 g
theorem sP_at {P : List (Nat × List UInt8)} {k : Nat} (hk : k < P.length) : sP (P.map rowOf) (k : Int) = P[k].2 ∧ fP (P.map rowOf) (k : Int) = (P[k].1 : Int) := by
  have e : Sx.rowAt (P.map rowOf) k = rowOf P[k] := by unfold Sx.rowAt; rw [List.getD_eq_getElem?_getD, List.getElem?_map, List.getElem?_eq_getElem hk]; rfl
  unfold sP fP
  rw [Int.toNat_natCast, e]
  exact ⟨rfl, rfl⟩
theorem rowsB_of {P : List (Nat × List UInt8)} (hP : ∀ p ∈ P, p.1 + p.2.length ≤ 320) : rowsB 320 (P.map rowOf) = true := by
  refine List.all_eq_true.2 fun r hr => ?_
  obtain ⟨p, hp, rfl⟩ := List.mem_map.1 hr
  have := hP p hp
  show (decide (0 ≤ ((p.1 : Nat) : Int)) && decide (((p.1 : Nat) : Int).toNat + p.2.length ≤ 320)) = true
  rw [decide_eq_true (by omega), decide_eq_true (by simpa using this)]; rfl
theorem torn_0 {P : List (Nat × List UInt8)} (hP : ∀ p ∈ P, p.1 + p.2.length ≤ 320) (hm : P.length ≤ 1000) {w : List UInt8} (hw : w.length = 320) : Torn (P.map rowOf) (fun _ => 0) w w :=
  ⟨hw, hw, rowsB_of hP, by rw [List.length_map]; exact hm, fun k hk => ⟨Nat.zero_le _, by simp, rfl⟩⟩
theorem torn_V {P : List (Nat × List UInt8)} (hP : ∀ p ∈ P, p.1 + p.2.length ≤ 320) (hA : P.Pairwise fun p q => p.1 + p.2.length ≤ q.1) (hm : P.length ≤ 1000) {l : List Int} (h0 : 0 < P.length) {w : List UInt8} (hw : w.length = 320) :
    Torn (P.map rowOf) (fun k => nT k (sP (P.map rowOf) k).length (keepS P.length l) 0) w (layAll (P.map rowOf) (keepS P.length l) w) := by
  have hR := rowsB_of hP
  have hok : okK P.length (tk P.length) (keepS P.length l) = true := keepL_ok h0 (by omega) _ _
  refine ⟨layAll_len hR (by rw [List.length_map]; exact okK_in hok) hw, hw, hR, by rw [List.length_map]; exact hm, fun k hk => ?_⟩
  rw [List.length_map] at hk
  obtain ⟨s1, s2⟩ := sP_at hk
  simp only
  rw [s1, s2, Int.toNat_natCast]
  have htk : gtB (k : Int) (tk P.length) = false := by
    unfold gtB tk; simp only [Int.toNat_natCast]
    rw [List.getD_eq_getElem?_getD, List.getElem?_replicate]; split <;> rfl
  have hl := (lay_seg hP hR hA (by omega) hk (keepS P.length l) (tk P.length) w hok (by unfold tk; simp) (keepL_form h0 _ _) hw).2 htk
  have hn := nT_le (k := k) (L := P[k].2.length) (keepS P.length l) 0 (Nat.zero_le _)
  generalize nT k P[k].2.length (keepS P.length l) 0 = n at hl hn
  unfold seg at hl
  have hq := hP _ (List.getElem_mem hk)
  have hv := layAll_len hR (l := keepS P.length l) (k := w) (by rw [List.length_map]; exact okK_in hok) hw
  generalize layAll (P.map rowOf) (keepS P.length l) w = v at hl hv
  generalize P[k].1 = a at hl hq
  generalize P[k].2 = S at hl hn hq
  have hS : (S.take n).length = n := by rw [List.length_take]; omega
  refine ⟨hn, ?_, ?_⟩
  · have := congrArg (List.take n) hl
    rw [List.take_take, Nat.min_eq_left hn, List.take_left' hS] at this
    exact this
  · have := congrArg (List.drop n) hl
    rw [List.drop_left' hS, List.drop_take, List.drop_take, List.drop_drop, List.drop_drop] at this
    exact this
end Go.Proofs.Ytoekeplljjaehaa

/- Layer 26: pieces in any turn: laid in the one or the other. -/
set_option linter.unusedVariables false
set_option linter.unusedSimpArgs false
namespace Go.Proofs.Ytoekeplljjaehaa
open Go Sx
/-- Bytes laid in two places that lie apart: in either turn. -/
theorem splice_comm {a b : Nat} {s r u : List UInt8} (h : a + s.length ≤ b ∨ b + r.length ≤ a) (h1 : a + s.length ≤ u.length) (h2 : b + r.length ≤ u.length) : splice a s (splice b r u) = splice b r (splice a s u) := by
  have l1 : (splice b r u).length = u.length := splice_len h2
  have l2 : (splice a s u).length = u.length := splice_len h1
  refine List.ext_getElem? fun i => ?_
  by_cases ha : i < a ∨ a + s.length ≤ i
  · rw [splice_get (by omega) ha]
    by_cases hb : i < b ∨ b + r.length ≤ i
    · rw [splice_get h2 hb, splice_get (by omega) hb, splice_get h1 ha]
    · have e : ∀ v : List UInt8, v.length = u.length → (splice b r v)[i]? = r[i - b]? := fun v hv => by
        unfold splice
        have h3 : (v.take b).length = b := by rw [List.length_take]; omega
        rw [List.append_assoc, List.getElem?_append_right (by omega), h3, List.getElem?_append_left (by omega)]
      rw [e u rfl, e _ l2]
  · have hb : i < b ∨ b + r.length ≤ i := by omega
    have e : ∀ v : List UInt8, v.length = u.length → (splice a s v)[i]? = s[i - a]? := fun v hv => by
      unfold splice
      have h3 : (v.take a).length = a := by rw [List.length_take]; omega
      rw [List.append_assoc, List.getElem?_append_right (by omega), h3, List.getElem?_append_left (by omega)]
    rw [splice_get (by omega) hb, e u rfl, e _ l1]
theorem layX_comm {P : List (Nat × List UInt8)} (hP : ∀ p ∈ P, p.1 + p.2.length ≤ 320) (hA : P.Pairwise fun p q => p.1 + p.2.length ≤ q.1) {x y : Int} {u : List UInt8} (hx : ixm (nmI x) P.length = true) (hy : ixm (nmI y) P.length = true) (hne : nmI x ≠ nmI y) (hu : u.length = 320) :
    layX (P.map rowOf) x (layX (P.map rowOf) y u) = layX (P.map rowOf) y (layX (P.map rowOf) x u) := by
  have hx := of_decide_eq_true hx
  have hy := of_decide_eq_true hy
  have jx : (nmI x).toNat < P.length := by omega
  have jy : (nmI y).toNat < P.length := by omega
  have ex : Sx.rowAt (P.map rowOf) (nmI x).toNat = rowOf P[(nmI x).toNat] := by unfold Sx.rowAt; rw [List.getD_eq_getElem?_getD, List.getElem?_map, List.getElem?_eq_getElem jx]; rfl
  have ey : Sx.rowAt (P.map rowOf) (nmI y).toNat = rowOf P[(nmI y).toNat] := by unfold Sx.rowAt; rw [List.getD_eq_getElem?_getD, List.getElem?_map, List.getElem?_eq_getElem jy]; rfl
  have hq := hP _ (List.getElem_mem jx)
  have hr := hP _ (List.getElem_mem jy)
  have hap : P[(nmI x).toNat].1 + P[(nmI x).toNat].2.length ≤ P[(nmI y).toNat].1 ∨ P[(nmI y).toNat].1 + P[(nmI y).toNat].2.length ≤ P[(nmI x).toNat].1 := by
    have := List.pairwise_iff_getElem.1 hA
    rcases Nat.lt_or_ge (nmI x).toNat (nmI y).toNat with c | c
    · exact .inl (this _ _ jx jy c)
    · exact .inr (this _ _ jy jx (by omega))
  generalize P[(nmI x).toNat] = p at ex hq hap
  generalize P[(nmI y).toNat] = q at ey hr hap
  have lx : ∀ v : List UInt8, layX (P.map rowOf) x v = splice p.1 (if x < 0 then p.2.take (p.2.length / 2) else p.2) v := fun v => by
    unfold layX; rw [ex]
    show splice ((p.1 : Nat) : Int).toNat _ v = _
    rw [Int.toNat_natCast]; rfl
  have ly : ∀ v : List UInt8, layX (P.map rowOf) y v = splice q.1 (if y < 0 then q.2.take (q.2.length / 2) else q.2) v := fun v => by
    unfold layX; rw [ey]
    show splice ((q.1 : Nat) : Int).toNat _ v = _
    rw [Int.toNat_natCast]; rfl
  have sx : (if x < 0 then p.2.take (p.2.length / 2) else p.2).length ≤ p.2.length := by
    split
    · rw [List.length_take]; omega
    · exact Nat.le_refl _
  have sy : (if y < 0 then q.2.take (q.2.length / 2) else q.2).length ≤ q.2.length := by
    split
    · rw [List.length_take]; omega
    · exact Nat.le_refl _
  rw [lx, ly, ly, lx]
  exact splice_comm (by omega) (by omega) (by omega)
/-- No number's piece stands twice. -/
def Once (m : Nat) (l : List Int) : Prop := (∀ x ∈ l, ixm (nmI x) m = true) ∧ l.Pairwise fun x y => nmI x ≠ nmI y
theorem okK_once {m : Nat} : ∀ {tk : List Bool} {l : List Int}, tk.length = m → okK m tk l = true → Once m l ∧ ∀ x ∈ l, gtB (nmI x) tk = false
  | tk, [], ht, _ => ⟨⟨by simp, .nil⟩, by simp⟩
  | tk, x :: xs, ht, h => by
    simp only [okK, Bool.and_eq_true] at h
    obtain ⟨h1, h2, h3⟩ := h
    obtain ⟨⟨i1, i2⟩, i3⟩ := okK_once (by rw [List.length_set]; exact ht) h3
    have hx := of_decide_eq_true h1
    obtain ⟨p, hp⟩ := Int.eq_ofNat_of_zero_le hx.1
    have hg : ∀ y ∈ xs, nmI y ≠ nmI x ∧ gtB (nmI y) tk = false := fun y hy => by
      have hy1 := of_decide_eq_true (i1 y hy)
      obtain ⟨q, hq⟩ := Int.eq_ofNat_of_zero_le hy1.1
      have hg3 := i3 y hy
      have hpm : p < m := by omega
      rw [hp, hq, gt_set (by omega)] at hg3
      rw [hp, hq]
      split at hg3
      · cases hg3
      · rename_i e; exact ⟨by omega, hg3⟩
    refine ⟨⟨fun y hy => ?_, List.pairwise_cons.2 ⟨fun y hy e => (hg y hy).1 e.symm, i2⟩⟩, fun y hy => ?_⟩
    · rcases List.mem_cons.1 hy with rfl | hy
      · exact h1
      · exact i1 y hy
    · rcases List.mem_cons.1 hy with rfl | hy
      · exact (Bool.not_eq_true' _).mp h2
      · exact (hg y hy).2
theorem once_okK {m : Nat} : ∀ {tk : List Bool} {l : List Int}, tk.length = m → Once m l → (∀ x ∈ l, gtB (nmI x) tk = false) → okK m tk l = true
  | tk, [], _, _, _ => rfl
  | tk, x :: xs, ht, h, hg => by
    obtain ⟨h1, h2⟩ := h
    obtain ⟨h2, h3⟩ := List.pairwise_cons.1 h2
    have hx := of_decide_eq_true (h1 x (List.mem_cons_self ..))
    obtain ⟨p, hp⟩ := Int.eq_ofNat_of_zero_le hx.1
    simp only [okK, Bool.and_eq_true]
    refine ⟨h1 x (List.mem_cons_self ..), by rw [hg x (List.mem_cons_self ..)]; rfl, once_okK (by rw [List.length_set]; exact ht) ⟨fun y hy => h1 y (List.mem_cons_of_mem _ hy), h3⟩ fun y hy => ?_⟩
    have hy1 := of_decide_eq_true (h1 y (List.mem_cons_of_mem _ hy))
    obtain ⟨q, hq⟩ := Int.eq_ofNat_of_zero_le hy1.1
    have hne := h2 y hy
    have hgy := hg y (List.mem_cons_of_mem _ hy)
    have hpm : p < m := by omega
    rw [hp, hq] at hne
    rw [hq] at hgy
    rw [hp, hq, gt_set (by omega), if_neg (by omega)]
    exact hgy
theorem once_rev {m : Nat} {l : List Int} (h : Once m l) : Once m l.reverse := ⟨fun x hx => h.1 x (List.mem_reverse.1 hx), List.pairwise_reverse.2 (h.2.imp fun e => e.symm)⟩
theorem layAll_snoc {rows : List (List CV)} (l : List Int) (x : Int) (u : List UInt8) : layAll rows (l ++ [x]) u = layX rows x (layAll rows l u) := by rw [layAll_app]; rfl
theorem layAll_rev {P : List (Nat × List UInt8)} (hP : ∀ p ∈ P, p.1 + p.2.length ≤ 320) (hA : P.Pairwise fun p q => p.1 + p.2.length ≤ q.1) : ∀ (l : List Int) (u : List UInt8), Once P.length l → u.length = 320 → layAll (P.map rowOf) l.reverse u = layAll (P.map rowOf) l u
  | [], u, _, _ => rfl
  | x :: xs, u, h, hu => by
    obtain ⟨h1, h2⟩ := h
    obtain ⟨h2, h3⟩ := List.pairwise_cons.1 h2
    have hR := rowsB_of hP
    have hxs : Once P.length xs := ⟨fun y hy => h1 y (List.mem_cons_of_mem _ hy), h3⟩
    rw [List.reverse_cons, layAll_snoc, layAll_rev hP hA xs u hxs hu]
    show layX (P.map rowOf) x (layAll (P.map rowOf) xs u) = layAll (P.map rowOf) xs (layX (P.map rowOf) x u)
    have key : ∀ (ys : List Int) (v : List UInt8), (∀ y ∈ ys, ixm (nmI y) P.length = true ∧ nmI x ≠ nmI y) → v.length = 320 → layX (P.map rowOf) x (layAll (P.map rowOf) ys v) = layAll (P.map rowOf) ys (layX (P.map rowOf) x v) := by
      intro ys
      induction ys with
      | nil => intro v _ _; rfl
      | cons y ys ih =>
        intro v hy hv
        have hy0 := hy y (List.mem_cons_self ..)
        show layX _ x (layAll _ ys (layX _ y v)) = layAll _ ys (layX _ y (layX _ x v))
        rw [ih _ (fun z hz => hy z (List.mem_cons_of_mem _ hz)) (layX_len hR (by rw [List.length_map]; exact hy0.1) hv)]
        rw [layX_comm hP hA (h1 x (List.mem_cons_self ..)) hy0.1 hy0.2 hv]
    exact key xs u (fun y hy => ⟨h1 y (List.mem_cons_of_mem _ hy), h2 y hy⟩) hu
end Go.Proofs.Ytoekeplljjaehaa

/- Layer 26: pieces in any turn: writes of nothing, of some. -/
set_option linter.unusedVariables false
set_option linter.unusedSimpArgs false
namespace Go.Proofs.Ytoekeplljjaehaa
open Go Sx
def eWsN : Ent := onDisk (fun vs => .fail)
  (fun n k t vs => match vs with | [.int .i64 a, .str s] => .chk (i64B a) (.chk (inD n a s.length) (.chk s.isEmpty (.ret (.int .i64 0) (dk0 n k t)))) | _ => .fail)
  (fun n k t rows m vs => match vs with | [.int .i64 a, .str s] => .chk (i64B a) (.chk (inD n a s.length) (.chk s.isEmpty (.ret (.int .i64 0) (dk1 n k t rows m)))) | _ => .fail)
def eWsV : Ent := onDisk (fun vs => .fail)
  (fun n k t vs => match vs with | [.int .i64 a, .str s] => .chk (i64B a) (.chk (inD n a s.length) (.chk (!s.isEmpty) (.ret (.int .i64 0) (dk1 n k (splice a.toNat s t) ((parts a.toNat s).map rowOf) (parts a.toNat s).length)))) | _ => .fail)
  (fun n k t rows m vs => match vs with | [.int .i64 a, .str s] => .chk (i64B a) (.chk (inD n a s.length) (.chk (!s.isEmpty) (.ret (.int .i64 0) (dk2 n k (splice a.toNat s t) (rows ++ (parts a.toNat s).map rowOf) (m + (parts a.toNat s).length))))) | _ => .fail)
theorem eWsN_ok : EntOK Try.prog 25 eWsN := fun args pre => by
  refine of_run (eWriteI_ok args pre) fun r hr => ?_
  unfold eWsN onDisk at hr
  unfold eWriteI onDisk
  split at hr
  · cases hr
  · obtain ⟨c1, hr⟩ := chk_run hr
    obtain ⟨c2, hr⟩ := chk_run hr
    simp only [Ans.run, Ans.chk] at hr ⊢
    rw [bcT c1, bcT c2]
    split at hr
    · obtain ⟨c3, hr⟩ := chk_run hr
      obtain ⟨c4, hr⟩ := chk_run hr
      obtain ⟨c5, hr⟩ := chk_run hr
      simp only [Ans.run]
      rw [bcT c3, bcT c4, bcT c5]; exact hr
    · cases hr
  · obtain ⟨c1, hr⟩ := chk_run hr
    obtain ⟨c2, hr⟩ := chk_run hr
    obtain ⟨c6, hr⟩ := chk_run hr
    obtain ⟨c7, hr⟩ := chk_run hr
    simp only [Ans.run, Ans.chk] at hr ⊢
    rw [bcT c1, bcT c2, bcT c6, bcT c7]
    split at hr
    · obtain ⟨c3, hr⟩ := chk_run hr
      obtain ⟨c4, hr⟩ := chk_run hr
      obtain ⟨c5, hr⟩ := chk_run hr
      simp only [Ans.run]
      rw [bcT c3, bcT c4, bcT c5]; exact hr
    · cases hr
  · cases hr
theorem eWsV_ok : EntOK Try.prog 25 eWsV := fun args pre => by
  refine of_run (eWriteI_ok args pre) fun r hr => ?_
  unfold eWsV onDisk at hr
  unfold eWriteI onDisk
  split at hr
  · cases hr
  · obtain ⟨c1, hr⟩ := chk_run hr
    obtain ⟨c2, hr⟩ := chk_run hr
    simp only [Ans.run, Ans.chk] at hr ⊢
    rw [bcT c1, bcT c2]
    split at hr
    · obtain ⟨c3, hr⟩ := chk_run hr
      obtain ⟨c4, hr⟩ := chk_run hr
      obtain ⟨c5, hr⟩ := chk_run hr
      simp only [Ans.run]
      rw [bcT c3, bcT c4, bcF ((Bool.not_eq_true' _).mp c5)]; exact hr
    · cases hr
  · obtain ⟨c1, hr⟩ := chk_run hr
    obtain ⟨c2, hr⟩ := chk_run hr
    obtain ⟨c6, hr⟩ := chk_run hr
    obtain ⟨c7, hr⟩ := chk_run hr
    simp only [Ans.run, Ans.chk] at hr ⊢
    rw [bcT c1, bcT c2, bcT c6, bcT c7]
    split at hr
    · obtain ⟨c3, hr⟩ := chk_run hr
      obtain ⟨c4, hr⟩ := chk_run hr
      obtain ⟨c5, hr⟩ := chk_run hr
      simp only [Ans.run]
      rw [bcT c3, bcT c4, bcF ((Bool.not_eq_true' _).mp c5)]; exact hr
    · cases hr
  · cases hr
def tWs (e : Ent) : Tab := [(25, e)]
theorem tWs_ok {e : Ent} (h : EntOK Try.prog 25 e) : TabOK Try.prog (tWs e) := .cons h .nil
noncomputable abbrev loopE1 : Code := (loopBodies (bodyOf Try.f6)).headD .skip
noncomputable abbrev loopE2 : Code := ((loopBodies (bodyOf Try.f6)).drop 1).headD .skip
def bx (l : List (List UInt8)) : Option PObj := some (.raw (.cells [.str (l.getD 0 []), .str (l.getD 1 []), .str (l.getD 2 []), .str (l.getD 3 []), .str (l.getD 4 [])] 53))
def ce0 (x y : Nat) : Option PObj := some (.raw (.cells [.slice x 0 320 320, .slice y 0 320 320, .nilslice] dT))
def slE (lk : Nat) (i : Option AV) : List (Option AV) := none :: none :: some (.dsl 1 lk) :: none :: some (.ptr 2 0) :: none :: none :: some (.bool true) :: some (.ptr 3 0) :: some (.ptr 4 0) :: i :: List.replicate 78 none
def sEN (r1 : List (List CV)) (ks : List Int) (lk : Nat) (l : List (List UInt8)) (k t : List UInt8) (i : Int) : PState :=
  ⟨slE lk (some (.int .i64 i)), some (fr r1) :: some (.flatI false ks) :: bx l :: ce0 5 6 :: ce0 7 8 :: some (.arrB k 5) :: some (.arrB t 5) :: some (.arrB k 5) :: some (.arrB t 5) :: List.replicate 64 none⟩
def sEV (r1 : List (List CV)) (ks : List Int) (lk : Nat) (l : List (List UInt8)) (k t : List UInt8) (rows : List (List CV)) (m : Nat) (i : Int) : PState :=
  ⟨slE lk (some (.int .i64 i)), some (fr r1) :: some (.flatI false ks) :: bx l :: cel 5 6 7 320 m :: cel 8 9 10 320 m :: some (.arrB k 5) :: some (.arrB t 5) :: some (.vecR shP rows pT) :: some (.arrB k 5) :: some (.arrB t 5) :: some (.vecR shP rows pT) :: List.replicate 64 none⟩
end Go.Proofs.Ytoekeplljjaehaa

/- Layer 26: pieces in any turn: five writes. -/
set_option linter.unusedVariables false
set_option linter.unusedSimpArgs false
namespace Go.Proofs.Ytoekeplljjaehaa
open Go Sx
def m64 (s : List UInt8) : Int := if 64 < (s.length : Int) then 64 else (s.length : Int)
def u64 (s : List UInt8) : List UInt8 := loS (m64 s) s
def aE (i : Int) : Int := IntKind.i64.wrap (64 * i)
def cE (k t : List UInt8) (c : List Bool) (e : Bool) (i : Int) (s : List UInt8) : List Bool := [slB (m64 s) s] ++ ([smN 320 k t] ++ c ++ [inD 320 (aE i) (u64 s).length, e] ++ ([smN 320 k t] ++ c ++ [inD 320 (aE i) (u64 s).length, e]))
abbrev knE : Nat → Bool := fun n => hasN [2, 4, 7, 8, 9, 10] n
abbrev kxE : Nat → Bool := fun n => hasN [2, 7, 8, 9] n
theorem rNN (r1 : List (List CV)) (ks : List Int) (lk : Nat) (l : List (List UInt8)) (k t : List UInt8) (i : Nat) (hi : i < 5) : code (ent Try.prog (tWs eWsN) nolv 64 1 20) Try.prog {} 2 64 1 loopE1 (sEN r1 ks lk l k t i) (endK 2 64 knE kxE)
  = chks (some (.normal, sEN r1 ks lk l k t (iN i))) (cE k t [] (u64 (l.getD i [])).isEmpty i (l.getD i [])) := by
  match i, hi with
  | 0, _ => show _ = _; kernel_rfl
  | 1, _ => show _ = _; kernel_rfl
  | 2, _ => show _ = _; kernel_rfl
  | 3, _ => show _ = _; kernel_rfl
  | 4, _ => show _ = _; kernel_rfl
theorem rNV' (r1 : List (List CV)) (ks : List Int) (lk : Nat) (l : List (List UInt8)) (k t : List UInt8) (i : Nat) (hi : i < 5) : code (ent Try.prog (tWs eWsV) nolv 64 1 20) Try.prog {} 2 64 1 loopE1 (sEN r1 ks lk l k t i) (endK 2 64 knE kxE)
  = chks (some (.normal, sEV r1 ks lk l k (splice (aE i).toNat (u64 (l.getD i [])) t) ((parts (aE i).toNat (u64 (l.getD i []))).map rowOf) (parts (aE i).toNat (u64 (l.getD i []))).length (iN i))) (cE k t [] (!(u64 (l.getD i [])).isEmpty) i (l.getD i [])) := by
  match i, hi with
  | 0, _ => show _ = _; kernel_rfl
  | 1, _ => show _ = _; kernel_rfl
  | 2, _ => show _ = _; kernel_rfl
  | 3, _ => show _ = _; kernel_rfl
  | 4, _ => show _ = _; kernel_rfl
theorem rVN (r1 : List (List CV)) (ks : List Int) (lk : Nat) (l : List (List UInt8)) (k t : List UInt8) (rows : List (List CV)) (m : Nat) (i : Nat) (hi : i < 5) : code (ent Try.prog (tWs eWsN) nolv 64 1 20) Try.prog {} 2 64 1 loopE1 (sEV r1 ks lk l k t rows m i) (endK 2 64 knE kxE)
  = chks (some (.normal, sEV r1 ks lk l k t rows m (iN i))) (cE k t [decide (rows.length = m ∧ m ≤ 1099511627776)] (u64 (l.getD i [])).isEmpty i (l.getD i [])) := by
  match i, hi with
  | 0, _ => show _ = _; kernel_rfl
  | 1, _ => show _ = _; kernel_rfl
  | 2, _ => show _ = _; kernel_rfl
  | 3, _ => show _ = _; kernel_rfl
  | 4, _ => show _ = _; kernel_rfl
theorem rVV (r1 : List (List CV)) (ks : List Int) (lk : Nat) (l : List (List UInt8)) (k t : List UInt8) (rows : List (List CV)) (m : Nat) (i : Nat) (hi : i < 5) : code (ent Try.prog (tWs eWsV) nolv 64 1 20) Try.prog {} 2 64 1 loopE1 (sEV r1 ks lk l k t rows m i) (endK 2 64 knE kxE)
  = chks (some (.normal, sEV r1 ks lk l k (splice (aE i).toNat (u64 (l.getD i [])) t) (rows ++ (parts (aE i).toNat (u64 (l.getD i []))).map rowOf) (m + (parts (aE i).toNat (u64 (l.getD i []))).length) (iN i))) (cE k t [decide (rows.length = m ∧ m ≤ 1099511627776)] (!(u64 (l.getD i [])).isEmpty) i (l.getD i [])) := by
  match i, hi with
  | 0, _ => show _ = _; kernel_rfl
  | 1, _ => show _ = _; kernel_rfl
  | 2, _ => show _ = _; kernel_rfl
  | 3, _ => show _ = _; kernel_rfl
  | 4, _ => show _ = _; kernel_rfl
def slEx (lk : Nat) : List (Option AV) := none :: none :: some (.dsl 1 lk) :: none :: none :: none :: none :: some (.bool true) :: some (.ptr 2 0) :: some (.ptr 3 0) :: List.replicate 79 none
def sENx (r1 : List (List CV)) (ks : List Int) (lk : Nat) (k t : List UInt8) : PState := ⟨slEx lk, some (fr r1) :: some (.flatI false ks) :: ce0 4 5 :: ce0 6 7 :: some (.arrB k 5) :: some (.arrB t 5) :: some (.arrB k 5) :: some (.arrB t 5) :: List.replicate 64 none⟩
def sEVx (r1 : List (List CV)) (ks : List Int) (lk : Nat) (k t : List UInt8) (rows : List (List CV)) (m : Nat) : PState := ⟨slEx lk, some (fr r1) :: some (.flatI false ks) :: cel 4 5 6 320 m :: cel 7 8 9 320 m :: some (.arrB k 5) :: some (.arrB t 5) :: some (.vecR shP rows pT) :: some (.arrB k 5) :: some (.arrB t 5) :: some (.vecR shP rows pT) :: List.replicate 64 none⟩
theorem rN5 (r1 : List (List CV)) (ks : List Int) (lk : Nat) (l : List (List UInt8)) (k t : List UInt8) : code (ent Try.prog (tWs eWsN) nolv 64 1 20) Try.prog {} 2 64 1 loopE1 (sEN r1 ks lk l k t (5 : Nat)) (endK 2 64 knE kxE) = some (.exit 0, sENx r1 ks lk k t) := by kernel_rfl
theorem rV5 (r1 : List (List CV)) (ks : List Int) (lk : Nat) (l : List (List UInt8)) (k t : List UInt8) (rows : List (List CV)) (m : Nat) : code (ent Try.prog (tWs eWsN) nolv 64 1 20) Try.prog {} 2 64 1 loopE1 (sEV r1 ks lk l k t rows m (5 : Nat)) (endK 2 64 knE kxE) = some (.exit 0, sEVx r1 ks lk k t rows m) := by kernel_rfl
end Go.Proofs.Ytoekeplljjaehaa

/- Layer 26: pieces in any turn: five writes, all rounds. -/
set_option linter.unusedVariables false
set_option linter.unusedSimpArgs false
namespace Go.Proofs.Ytoekeplljjaehaa
open Go Sx
theorem m64_nat (s : List UInt8) : m64 s = (((s.take 64).length : Nat) : Int) := by
  unfold m64; rw [List.length_take]; split <;> omega
theorem u64_eq (s : List UInt8) : u64 s = s.take 64 := by unfold u64; rw [m64_nat, loS_nat, take_min]
theorem u64_le (s : List UInt8) : (u64 s).length ≤ 64 := by rw [u64_eq, List.length_take]; omega
theorem aE_nat {i : Nat} (h : i ≤ 5) : aE (i : Int) = ((64 * i : Nat) : Int) := by unfold aE; rw [i64_in (by omega) (by omega)]; omega
def tE (l : List (List UInt8)) : Nat → Nat → List UInt8 → List UInt8
  | 0, _, t => t
  | d + 1, j, t => tE l d (j + 1) (splice (64 * j) (u64 (l.getD j [])) t)
def pE (l : List (List UInt8)) : Nat → Nat → List (Nat × List UInt8)
  | 0, _ => []
  | d + 1, j => parts (64 * j) (u64 (l.getD j [])) ++ pE l d (j + 1)
def sEX (r1 : List (List CV)) (ks : List Int) (lk : Nat) (l : List (List UInt8)) (k t : List UInt8) (P : List (Nat × List UInt8)) (i : Nat) : PState := match P with
  | [] => sEN r1 ks lk l k t i
  | p :: ps => sEV r1 ks lk l k t ((p :: ps).map rowOf) (p :: ps).length i
def sEXx (r1 : List (List CV)) (ks : List Int) (lk : Nat) (k t : List UInt8) (P : List (Nat × List UInt8)) : PState := match P with
  | [] => sENx r1 ks lk k t
  | p :: ps => sEVx r1 ks lk k t ((p :: ps).map rowOf) (p :: ps).length
theorem sEX_ne {r1 : List (List CV)} {ks : List Int} {lk : Nat} {l : List (List UInt8)} {k t : List UInt8} {P : List (Nat × List UInt8)} {i : Nat} (h : P ≠ []) : sEX r1 ks lk l k t P i = sEV r1 ks lk l k t (P.map rowOf) P.length i := by
  cases P with
  | nil => exact absurd rfl h
  | cons p ps => rfl
theorem cE_ok {k t : List UInt8} {c : List Bool} {e : Bool} {i : Nat} {s : List UInt8} (hi : i < 5) (hk : k.length = 320) (ht : t.length = 320) (hc : ∀ b ∈ c, b = true) (he : e = true) : ∀ b ∈ cE k t c e i s, b = true := by
  have h1 : slB (m64 s) s = true := by rw [m64_nat]; exact decide_eq_true ⟨by omega, by simp only [Int.toNat_natCast, List.length_take]; omega⟩
  have h2 := u64_le s
  have h3 : inD 320 (aE i) (u64 s).length = true := by rw [aE_nat (by omega)]; exact decide_eq_true ⟨by omega, by simp only [Int.toNat_natCast]; omega⟩
  have h4 := smN_t hk ht
  have h5 : ∀ b ∈ [smN 320 k t] ++ c ++ [inD 320 (aE i) (u64 s).length, e], b = true := all_app (all_app (all_one h4) hc) (by
    intro b hb
    simp only [List.mem_cons, List.not_mem_nil, or_false] at hb
    rcases hb with rfl | rfl <;> assumption)
  exact all_app (all_one h1) (all_app h5 h5)
theorem loopE {r1 : List (List CV)} {ks : List Int} {lk : Nat} {l : List (List UInt8)} {k t : List UInt8} (hk : k.length = 320) (ht : t.length = 320) :
    Tri Try.prog (.loop loopE1) (sEN r1 ks lk l k t 0).toA (.exit 0) (sEXx r1 ks lk k (tE l 5 0 t) (pE l 5 0)).toA 2 := by
  have gN : ∀ {s : PState} {r : Ex × PState}, code (ent Try.prog (tWs eWsN) nolv 64 1 20) Try.prog {} 2 64 1 loopE1 s (endK 2 64 knE kxE) = some r → Tri Try.prog loopE1 s.toA r.1 r.2.toA 2 := fun h => round_sound (ent_sound (tWs_ok eWsN_ok) host nolv_ok (NF := 64) (m := 1) 20) loops_none h
  have gV : ∀ {s : PState} {r : Ex × PState}, code (ent Try.prog (tWs eWsV) nolv 64 1 20) Try.prog {} 2 64 1 loopE1 s (endK 2 64 knE kxE) = some r → Tri Try.prog loopE1 s.toA r.1 r.2.toA 2 := fun h => round_sound (ent_sound (tWs_ok eWsV_ok) host nolv_ok (NF := 64) (m := 1) 20) loops_none h
  refine tri_loop (ι := { w : Nat × List UInt8 × List (Nat × List UInt8) // w.1 ≤ 5 ∧ w.2.1.length = 320 ∧ w.2.2.length ≤ 320 * w.1 ∧ tE l (5 - w.1) w.1 w.2.1 = tE l 5 0 t ∧ w.2.2 ++ pE l (5 - w.1) w.1 = pE l 5 0 })
    (fun w => (sEX r1 ks lk l k w.1.2.1 w.1.2.2 w.1.1).toA) (fun w => 5 - w.1.1) (by simp) ?_ ⟨(0, t, []), by simp, ht, by simp, rfl, rfl⟩
  rintro ⟨⟨j, t, P⟩, h1, h2, h3, h4, h5⟩
  simp only at h1 h2 h3 h4 h5
  by_cases hj : j < 5
  · left
    have hd : 5 - j = (5 - (j + 1)) + 1 := by omega
    rw [hd] at h4 h5
    have hu := u64_le (l.getD j [])
    have hp := parts_len _ (64 * j) (u64 (l.getD j [])) (Nat.le_refl _)
    have ha : (aE (j : Int)).toNat = 64 * j := by rw [aE_nat (by omega), Int.toNat_natCast]
    have hi := iN_nat (j := j) (by omega)
    refine ⟨⟨(j + 1, splice (64 * j) (u64 (l.getD j [])) t, P ++ parts (64 * j) (u64 (l.getD j []))), by simp only; omega, by simp only; rw [splice_len (by omega)]; exact h2, by simp only [List.length_append]; omega, h4, by simp only; rw [List.append_assoc]; exact h5⟩, by simp only; omega, ?_⟩
    simp only
    cases he : (u64 (l.getD j [])).isEmpty with
    | true =>
      have e0 := List.isEmpty_iff.1 he
      rw [e0, splice_nil (by omega), parts_nil, List.append_nil]
      cases P with
      | nil =>
        refine gN (r := (.normal, sEN r1 ks lk l k t ((j + 1 : Nat) : Int))) ((rNN r1 ks lk l k t j hj).trans ?_)
        rw [chks_true (cE_ok hj hk h2 (by simp) he), hi]
      | cons p ps =>
        refine gN (r := (.normal, sEV r1 ks lk l k t ((p :: ps).map rowOf) (p :: ps).length ((j + 1 : Nat) : Int))) ((rVN r1 ks lk l k t _ _ j hj).trans ?_)
        rw [chks_true (cE_ok hj hk h2 (all_one (decide_eq_true ⟨by rw [List.length_map], by omega⟩)) he), hi]
    | false =>
      have e0 : u64 (l.getD j []) ≠ [] := fun e => by rw [e] at he; cases he
      have he' : (!(u64 (l.getD j [])).isEmpty) = true := by rw [he]; rfl
      cases P with
      | nil =>
        refine gV (r := (.normal, sEX r1 ks lk l k _ _ (j + 1))) ((rNV' r1 ks lk l k t j hj).trans ?_)
        rw [chks_true (cE_ok hj hk h2 (by simp) he'), hi, ha, List.nil_append, sEX_ne (parts_ne e0)]
      | cons p ps =>
        refine gV (r := (.normal, sEX r1 ks lk l k _ _ (j + 1))) ((rVV r1 ks lk l k t _ _ j hj).trans ?_)
        rw [chks_true (cE_ok hj hk h2 (all_one (decide_eq_true ⟨by rw [List.length_map], by omega⟩)) he'), hi, ha, sEX_ne (P := (p :: ps) ++ _) (by simp), List.map_append, List.length_append]
  · right
    have : j = 5 := by omega
    subst this
    have h4 : t = _ := h4
    have h5 : P = _ := (List.append_nil P).symm.trans h5
    show Tri Try.prog loopE1 (sEX r1 ks lk l k t P 5).toA (.exit 0) (sEXx r1 ks lk k (tE l 5 0 _) (pE l 5 0)).toA 2
    rw [← h4, ← h5]
    cases P with
    | nil => exact gN (rN5 r1 ks lk l k t)
    | cons p ps => exact gN (rV5 r1 ks lk l k t _ _)
end Go.Proofs.Ytoekeplljjaehaa
