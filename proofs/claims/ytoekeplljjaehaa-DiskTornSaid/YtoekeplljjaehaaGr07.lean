/- Layer 26: a crash, as an entry. -/
import Derived.Test.YtoekeplljjaehaaGr06
set_option linter.unusedVariables false
set_option linter.unusedSimpArgs false
namespace Go.Proofs.Ytoekeplljjaehaa
open Go Sx
theorem mkB_m {m : Nat} (h : m ≤ 1099511627776) : mkB m = true := decide_eq_true (by omega)
def litW (x y q x3 y3 x4 y4 v d c1 c2 c3 ty : Nat) (sh : List CK) : Bool := Nat.beq x 0 && (Nat.beq y 0 && (Nat.beq q 1 && litK x3 y3 x4 y4 v d c1 c2 c3 ty sh))
theorem litW_eq {x y q x3 y3 x4 y4 v d c1 c2 c3 ty : Nat} {sh : List CK} (h : litW x y q x3 y3 x4 y4 v d c1 c2 c3 ty sh = true) : x = 0 ∧ y = 0 ∧ q = 1 ∧ litK x3 y3 x4 y4 v d c1 c2 c3 ty sh = true := by
  unfold litW at h
  simpa only [Bool.and_eq_true, beqT] using h
/-- What a crash asks: the numbers, and the pieces. -/
def askC (l : List Int) (len n n1 n2 n3 m : Nat) (k t : List UInt8) (rows : List (List CV)) : Bool := decide (l.length = len ∧ len ≤ 1099511627776 ∧ n1 = n ∧ n2 = n ∧ n3 = n ∧ rows.length = m ∧ m ≤ 1099511627776 ∧ k.length = n ∧ t.length = n ∧ n ≤ 1099511627776)
def eCrashV : Ent := fun args pre => match args, pre with
  | [.nilptr, .nilslice], [] => .ret (.int .i64 1) []
  | [.ptr x y, .nilslice], [.raw (.cells [.slice x1' y1 n n1, .slice x2' y2 n2 n3, .nilslice] d), .arrB k d1, .arrB t d2] => .chk (litD x y x1' y1 x2' y2 d d1 d2 n n1 n2 n3) (.chk (smN n k t) (.ret (.int .i64 0) (dk0 n k k)))
  | [.ptr x y, .nilslice], [.raw (.cells [.slice x1' y1 n n1, .slice x2' y2 n2 n3, .vec v m] d), .arrB k d1, .arrB t d2, .vecR sh rows ty] => .chk (litD x y x1' y1 x2' y2 d d1 d2 n n1 n2 n3) (.chk (litV v ty sh) (.chk (smN n k t) (.chk (decide (rows.length = m ∧ m ≤ 1099511627776)) (.ret (.int .i64 0) (dkv n k k rows)))))
  | [.ptr x y, .vec q len], [.raw (.cells [.slice x3 y3 n n1, .slice x4 y4 n2 n3, .vec v m] d), .vecI .i64 l c1, .arrB k c2, .arrB t c3, .vecR sh rows ty] =>
    .chk (litW x y q x3 y3 x4 y4 v d c1 c2 c3 ty sh) (.chk (askC l len n n1 n2 n3 m k t rows) (.chk (okK m (tk m) l) (.chk (rowsB n rows) (.ret (.int .i64 0) (postK l (layAll rows l k) (layAll rows l k) n rows)))))
  | _, _ => .fail
theorem cCn : Comes [] nolv 21 [.nilptr, .nilslice] [] (.ret (.int .i64 1) []) := by unfold Comes; kernel_rfl
theorem eCrashV_ok : EntOK Try.prog 21 eCrashV := fun args pre => by
  unfold eCrashV
  split
  · exact ans_comes .nil cCn
  · refine ⟨fun g1 => ⟨fun g2 => ?_, fun _ => trivial⟩, fun _ => trivial⟩
    obtain ⟨rfl, rfl, rfl, rfl, rfl, rfl, rfl, rfl, rfl, rfl, rfl, rfl⟩ := litD_eq g1
    obtain ⟨h1, h2, h3⟩ := smN_of g2
    refine of_run (ans_comes tNu_ok (cC0 _ _ _)) fun r hr => ?_
    have hs : smN _ _ _ = true := decide_eq_true ⟨h2, h1, h3⟩
    rw [← hr]; unfold xC0; rw [cpB_eq hs]; simp only [Ans.run, Ans.chk]; rw [bcT (cpC_eq hs)]
  · refine ⟨fun g1 => ⟨fun g2 => ⟨fun g3 => ⟨fun g4 => ?_, fun _ => trivial⟩, fun _ => trivial⟩, fun _ => trivial⟩, fun _ => trivial⟩
    obtain ⟨rfl, rfl, rfl, rfl, rfl, rfl, rfl, rfl, rfl, rfl, rfl, rfl⟩ := litD_eq g1
    obtain ⟨rfl, rfl, rfl⟩ := litV_eq g2
    obtain ⟨h1, h2, h3⟩ := smN_of g3
    refine of_run (ans_comes tNu_ok (cC1 _ _ _ _ _)) fun r hr => ?_
    have hs : smN _ _ _ = true := decide_eq_true ⟨h2, h1, h3⟩
    have g4 := of_decide_eq_true g4
    rw [← hr]; unfold xC1; rw [cpB_eq hs]; simp only [Ans.run, Ans.chk]; rw [bcT (mkB_m g4.2), bcT (cpC_eq hs)]
  · refine ⟨fun g1 => ⟨fun g2 => ⟨fun g3 => ⟨fun g4 => ?_, fun _ => trivial⟩, fun _ => trivial⟩, fun _ => trivial⟩, fun _ => trivial⟩
    obtain ⟨rfl, rfl, rfl, g1⟩ := litW_eq g1
    obtain ⟨rfl, rfl, rfl, rfl, rfl, rfl, rfl, rfl, rfl, rfl, rfl⟩ := litK_eq g1
    obtain ⟨h1, h2, rfl, rfl, rfl, h3, h4, h5, h6, h7⟩ := of_decide_eq_true g2
    subst h1
    subst h3
    refine of_run (ans_comes tNu_ok (cCr _ _ _ _ _ _ _) lvC_ok) fun r hr => ?_
    have hin : inK _ _ = true := List.all_eq_true.2 fun x hx => okK_in g3 x hx
    have hlen := layAll_len (k := _) g4 (okK_in g3) h5
    have hs : smN _ _ _ = true := decide_eq_true ⟨h6, hlen, h7⟩
    rw [← hr]; unfold xCr; rw [cpB_eq hs]; simp only [Ans.run, Ans.chk]
    rw [bcT (mkB_m h4), bcT (b := c1K _ _ _ _ _ _ _ _ _ _ _ _) (decide_eq_true ⟨rfl, rfl, rfl, h2, rfl, rfl, rfl, rfl, rfl, by unfold tk; simp⟩), bcT g3, bcT (b := c2K _ _ _ _ _ _ _ _ _ _ _) (decide_eq_true ⟨rfl, rfl, rfl, h2, rfl, rfl, rfl, rfl, h5, h7⟩), bcT g4, bcT hin, bcT (cpC_eq hs)]
  · trivial
end Go.Proofs.Ytoekeplljjaehaa

/- Layer 26: which pieces are kept, out of raw numbers. -/
set_option linter.unusedVariables false
set_option linter.unusedSimpArgs false
namespace Go.Proofs.Ytoekeplljjaehaa
open Go Sx
def keepS (m : Nat) (l : List Int) : List Int := keepL m (tk m) (l.take 20)
def c3K (i mi : Int) (l : List Int) (len a b : Nat) (tk' : List Bool) : Bool := decide (i = 0 ∧ l.length = len ∧ mi = (a : Int) ∧ b = a ∧ tk' = tk a ∧ 0 < a ∧ a ≤ 1099511627776)
def eKL : Nat → PState → LAns := fun K st => match K, st with
  | 1, ⟨some (.dsl z len) :: some (.int .i64 mi) :: none :: none :: none :: some .nilslice :: some (.slice x y a b) :: some (.int .i64 i) :: rs, some (.flatI false l) :: some (.arrT tk' c) :: rm⟩ =>
    .chk (Nat.beq z 0 && (Nat.beq x 1 && (Nat.beq y 0 && (Nat.beq c 4 && (noV 48 rs && noB 64 rm))))) (.chk (c3K i mi l len a b tk') (.chk (l.all i64B) (.br (keepS a l).isEmpty (.out (.exit 0) (sKNx l)) (.out (.exit 0) (sKVx l (keepS a l) (keepS a l).length)))))
  | _, _ => .fail
theorem eKL_ok (K : Nat) (st : PState) : LAnsOK Try.prog loopK1 K st (eKL K st) := by
  unfold eKL
  split
  · rename_i z len mi x y a b i rs l tk' c rm
    refine ⟨fun g1 => ⟨fun g2 => ⟨fun g3 => ?_, fun _ => trivial⟩, fun _ => trivial⟩, fun _ => trivial⟩
    simp only [Bool.and_eq_true, beqT] at g1
    obtain ⟨rfl, rfl, rfl, rfl, q1, q2⟩ := g1
    rw [noV_eq _ _ q1, noB_eq _ _ q2]
    obtain ⟨rfl, h1, rfl, rfl, rfl, h2, h3⟩ := of_decide_eq_true g2
    have hl := loopK h1 h2 h3 (fun x hx => List.all_eq_true.1 g3 x hx) 0 (tk b) [] ⟨by simp, by unfold tk; simp, by simp⟩
    rw [List.drop_zero, List.nil_append] at hl
    refine ⟨fun e => ?_, fun e => ?_⟩
    · have e := List.isEmpty_iff.1 e
      unfold keepS at e
      rw [e] at hl; exact hl
    · have hne : keepL b (tk b) (l.take 20) ≠ [] := fun e2 => by unfold keepS at e; rw [e2] at e; cases e
      have hx : keepXx l (keepL b (tk b) (l.take 20)) = sKVx l (keepS b l) (keepS b l).length := by
        unfold keepS
        cases hk : keepL b (tk b) (l.take 20) with
        | nil => exact absurd hk hne
        | cons c out => rfl
      rw [hx] at hl; exact hl
  · trivial
def lvK : FuncId → Lv := fun f => match f with
  | 22 => { keep := fun _ => some [0, 1, 5, 6, 7], ent := fun i => match i with | 4 => some eKL | _ => none }
  | _ => {}
theorem lvK_ok : LvOK Try.prog lvK := by
  intro f fn body hf hb K x hx id e hid he t
  by_cases h : f = 22
  · subst h
    obtain rfl : fn = Try.f22 := (Option.some.inj (Try.func22.symm.trans hf)).symm
    have hbody : body = bodyOf Try.f22 := by unfold bodyOf; rw [hb]; rfl
    subst hbody
    have h1 : loopBodies (bodyOf Try.f22) = [loopK1] := by kernel_rfl
    rw [h1] at hx
    have hx' := List.mem_singleton.1 hx
    have h2 : id = 4 := by
      have h3 : headReg loopK1 = some 4 := by kernel_rfl
      rw [hx', h3] at hid; exact (Option.some.inj hid).symm
    subst h2
    have he' : eKL = e := Option.some.inj he
    subst he'
    rw [hx']
    exact eKL_ok K t
  · exfalso
    have : (lvK f).ent id = none := by
      unfold lvK
      split
      · exact absurd rfl h
      · rfl
    rw [this] at he; cases he
def xKp (b : Bool) (l : List Int) (len m : Nat) : Ans :=
  .chk (mkB m) (.chk (c3K 0 m l len m m (tk m)) (.chk (l.all i64B) (.br (keepS m l).isEmpty (.ret .nilslice [.flatI false l]) (.ret (.vec 1 (keepS m l).length) [.flatI false l, .vecI .i64 (keepS m l) 3]))))
theorem cKp (b : Bool) (l : List Int) (len m : Nat) : Comes tPk lvK 22 [.dsl 0 len, .int .i64 m] [.flatI b l] (xKp b l len m) := by unfold Comes; kernel_rfl
theorem cK0 (b : Bool) (l : List Int) (len : Nat) : Comes tPk nolv 22 [.dsl 0 len, .int .i64 0] [.flatI b l] (.br (decide ((0 : Int) < (len : Int))) (.ret .nilslice [.flatI false l]) (.ret .nilslice [.flatI false l])) := by unfold Comes; kernel_rfl
def askKp (l : List Int) (len : Nat) (mi : Int) : Bool := decide (l.length = len ∧ 0 < mi ∧ mi ≤ 1099511627776) && l.all i64B
/-- Of nothing; of some, where none is kept; where some are. -/
def eKp0 : Ent := fun args pre => match args, pre with
  | [.dsl a len, .int .i64 mi], [.flatI b l] => .chk (Nat.beq a 0) (.chk (decide (mi = 0)) (.ret .nilslice [.flatI false l]))
  | _, _ => .fail
def eKpE : Ent := fun args pre => match args, pre with
  | [.dsl a len, .int .i64 mi], [.flatI b l] => .chk (Nat.beq a 0) (.chk (askKp l len mi) (.chk (keepS mi.toNat l).isEmpty (.ret .nilslice [.flatI false l])))
  | _, _ => .fail
def eKpV : Ent := fun args pre => match args, pre with
  | [.dsl a len, .int .i64 mi], [.flatI b l] => .chk (Nat.beq a 0) (.chk (askKp l len mi) (.chk (!(keepS mi.toNat l).isEmpty) (.ret (.vec 1 (keepS mi.toNat l).length) [.flatI false l, .vecI .i64 (keepS mi.toNat l) 3])))
  | _, _ => .fail
theorem eKp0_ok : EntOK Try.prog 22 eKp0 := fun args pre => by
  unfold eKp0
  split
  · refine ⟨fun g1 => ⟨fun g2 => ?_, fun _ => trivial⟩, fun _ => trivial⟩
    obtain rfl := beqT.1 g1
    have g2 := of_decide_eq_true g2
    subst g2
    refine of_run (ans_comes tPk_ok (cK0 _ _ _)) fun r hr => ?_
    rw [← hr]
    simp only [Ans.run]
    cases decide ((0 : Int) < _) <;> rfl
  · trivial
theorem askKp_of {l : List Int} {len : Nat} {mi : Int} (h : askKp l len mi = true) : ∃ m : Nat, mi = (m : Int) ∧ l.length = len ∧ 0 < m ∧ m ≤ 1099511627776 ∧ l.all i64B = true := by
  unfold askKp at h
  simp only [Bool.and_eq_true] at h
  obtain ⟨h1, h2, h3⟩ := of_decide_eq_true h.1
  obtain ⟨m, rfl⟩ := Int.eq_ofNat_of_zero_le (show 0 ≤ mi by omega)
  exact ⟨m, rfl, h1, by omega, by omega, h.2⟩
theorem eKpE_ok : EntOK Try.prog 22 eKpE := fun args pre => by
  unfold eKpE
  split
  · refine ⟨fun g1 => ⟨fun g2 => ⟨fun g3 => ?_, fun _ => trivial⟩, fun _ => trivial⟩, fun _ => trivial⟩
    obtain rfl := beqT.1 g1
    obtain ⟨m, rfl, h1, h2, h3, h4⟩ := askKp_of g2
    rw [Int.toNat_natCast] at g3
    refine of_run (ans_comes tPk_ok (cKp _ _ _ _) lvK_ok) fun r hr => ?_
    rw [← hr]; unfold xKp; simp only [Ans.run, Ans.chk]
    rw [bcT (mkB_m h3), bcT (b := c3K _ _ _ _ _ _ _) (decide_eq_true ⟨rfl, h1, rfl, rfl, rfl, h2, h3⟩), bcT h4, bcT g3]
  · trivial
theorem eKpV_ok : EntOK Try.prog 22 eKpV := fun args pre => by
  unfold eKpV
  split
  · refine ⟨fun g1 => ⟨fun g2 => ⟨fun g3 => ?_, fun _ => trivial⟩, fun _ => trivial⟩, fun _ => trivial⟩
    obtain rfl := beqT.1 g1
    obtain ⟨m, rfl, h1, h2, h3, h4⟩ := askKp_of g2
    simp only [Int.toNat_natCast] at g3 ⊢
    refine of_run (ans_comes tPk_ok (cKp _ _ _ _) lvK_ok) fun r hr => ?_
    rw [← hr]; unfold xKp; simp only [Ans.run, Ans.chk]
    rw [bcT (mkB_m h3), bcT (b := c3K _ _ _ _ _ _ _) (decide_eq_true ⟨rfl, h1, rfl, rfl, rfl, h2, h3⟩), bcT h4, bcF ((Bool.not_eq_true' _).mp g3)]
  · trivial
end Go.Proofs.Ytoekeplljjaehaa

/- Layer 26: the document's own pieces. -/
set_option linter.unusedVariables false
set_option linter.unusedSimpArgs false
namespace Go.Proofs.Ytoekeplljjaehaa
open Go Sx
abbrev qT : Nat := 58
noncomputable abbrev loopP1 : Code := (loopBodies (bodyOf Try.f26)).headD .skip
def slP (p : AV) (a : Int) (s : List UInt8) : List (Option AV) := some (.int .i64 a) :: some (.str s) :: none :: none :: none :: some p :: List.replicate 25 none
def slPx (p : AV) : List (Option AV) := none :: none :: none :: none :: none :: some p :: List.replicate 25 none
def sPN (a : Int) (s : List UInt8) : PState := ⟨slP .nilslice a s, List.replicate 64 none⟩
def sPV (rows : List (List CV)) (m : Nat) (a : Int) (s : List UInt8) : PState := ⟨slP (.vec 0 m) a s, some (.vecR shP rows qT) :: List.replicate 64 none⟩
def sPNx : PState := ⟨slPx .nilslice, List.replicate 64 none⟩
def sPVx (rows : List (List CV)) (m : Nat) : PState := ⟨slPx (.vec 0 m), some (.vecR shP rows qT) :: List.replicate 64 none⟩
def slM (a : Int) (s : List UInt8) : Bool := decide (0 ≤ mI a s ∧ (mI a s).toNat ≤ s.length)
theorem rP0 (a : Int) (s : List UInt8) : code (ent Try.prog [] nolv 64 1 20) Try.prog {} 0 64 1 loopP1 (sPN a s) (endK 0 64 (fun n => hasN [0, 1, 5] n) (fun n => hasN [5] n))
  = bcond (decide ((s.length : Int) > 0)) (chks (some (.normal, sPV [rJ a s] 1 (aJ a s) (sJ a s))) [slM a s, slM a s]) (some (.exit 0, sPNx)) := by kernel_rfl
theorem rP1 (rows : List (List CV)) (m : Nat) (a : Int) (s : List UInt8) : code (ent Try.prog [] nolv 64 1 20) Try.prog {} 0 64 1 loopP1 (sPV rows m a s) (endK 0 64 (fun n => hasN [0, 1, 5] n) (fun n => hasN [5] n))
  = bcond (decide ((s.length : Int) > 0)) (chks (some (.normal, sPV (rows ++ [rJ a s]) (m + 1) (aJ a s) (sJ a s))) [slM a s, decide (rows.length * 2 = m * 2) && roomB (m + 1) 24, slM a s]) (some (.exit 0, sPVx rows m)) := by kernel_rfl
def sPX (P : List (Nat × List UInt8)) (a : Int) (s : List UInt8) : PState := match P with
  | [] => sPN a s
  | p :: ps => sPV ((p :: ps).map rowOf) (p :: ps).length a s
def sPXx (P : List (Nat × List UInt8)) : PState := match P with
  | [] => sPNx
  | p :: ps => sPVx ((p :: ps).map rowOf) (p :: ps).length
theorem loopP (a : Nat) (s : List UInt8) (P : List (Nat × List UInt8)) (h : a + s.length ≤ 320 ∧ P.length + s.length ≤ 1000) :
    Tri Try.prog (.loop loopP1) (sPX P a s).toA (.exit 0) (sPXx (P ++ parts a s)).toA 0 := by
  refine loop_rounds (ent_sound (T := []) .nil host nolv_ok (NF := 64) (m := 1) 20) (NF := 64) (m := 1) loops_none (fun n => hasN [0, 1, 5] n) (fun n => hasN [5] n) (ι := { w : Nat × List UInt8 × List (Nat × List UInt8) // w.1 + w.2.1.length ≤ 320 ∧ w.2.2.length + w.2.1.length ≤ 1000 })
    (fun w => sPX w.1.2.2 (w.1.1 : Int) w.1.2.1) (fun w => w.1.2.1.length) (fun w => (.exit 0, sPXx (w.1.2.2 ++ parts w.1.1 w.1.2.1))) ?_ (fun _ => by simp) ⟨(a, s, P), h⟩
  rintro ⟨⟨a, s, P⟩, h1, h2⟩
  simp only at h1 h2
  by_cases hs : 0 < s.length
  · left
    have h3 := hd_le a s
    have h4 := hd_pos (a := a) hs
    have hm := mI_nat (s := s) (show a < 4611686018427387904 by omega)
    have hp := pI_nat (s := s) (show a < 4611686018427387904 by omega)
    have q1 : aJ (a : Int) s = ((a + hd a s : Nat) : Int) := by unfold aJ; rw [hm, i64_in (by omega) (by omega)]; omega
    have q2 : sJ (a : Int) s = s.drop (hd a s) := by
      unfold sJ; rw [hm, List.take_of_length_le]
      · rfl
      · rw [List.length_drop]; show s.length - hd a s ≤ _; exact Nat.le_refl _
    have q4 : rJ (a : Int) s = rowOf (a, s.take (hd a s)) := by unfold rJ rowOf; rw [hp]
    have q5 : slM (a : Int) s = true := decide_eq_true (by rw [hm]; exact ⟨by omega, h3⟩)
    refine ⟨⟨(a + hd a s, s.drop (hd a s), P ++ [(a, s.take (hd a s))]), by simp only [List.length_drop]; omega, by simp only [List.length_append, List.length_singleton, List.length_drop]; omega⟩, by simp only [List.length_drop]; omega, ?_, ?_⟩
    · simp only; rw [parts_cons hs, List.append_assoc]; rfl
    · cases P with
      | nil =>
        refine (rP0 a s).trans ?_
        rw [bcT (b := decide _) (decide_eq_true (by omega)), chks_true (bs := [_, _]) (by intro b hb; simp only [List.mem_cons, List.not_mem_nil, or_false, or_self] at hb; rw [hb]; exact q5), q1, q2, q4]; rfl
      | cons p ps =>
        refine (rP1 ((p :: ps).map rowOf) (p :: ps).length a s).trans ?_
        rw [bcT (b := decide _) (decide_eq_true (by omega)), chks_true (bs := [_, _, _]) (by
          intro b hb
          simp only [List.mem_cons, List.not_mem_nil, or_false] at hb
          rcases hb with rfl | rfl | rfl
          · exact q5
          · rw [decide_eq_true (by rw [List.length_map]), Bool.true_and]; exact decide_eq_true (by omega)
          · exact q5), q1, q2, q4]
        simp only [sPX, List.cons_append, List.map_cons, List.map_append, List.length_cons, List.length_append]; rfl
  · right
    have : s = [] := List.eq_nil_of_length_eq_zero (by omega)
    subst this
    simp only [parts_nil, List.append_nil]
    cases P with
    | nil => refine (rP0 a []).trans ?_; rw [bcF (b := decide _) (decide_eq_false (by simp))]; rfl
    | cons p ps => refine (rP1 ((p :: ps).map rowOf) (p :: ps).length a []).trans ?_; rw [bcF (b := decide _) (decide_eq_false (by simp))]; rfl
def eP1 : Nat → PState → LAns := fun K st => match K, st with
  | 0, ⟨some (.int .i64 a) :: some (.str s) :: none :: none :: none :: some .nilslice :: rs, rm⟩ =>
    .chk (noV 25 rs && noB 64 rm) (.chk (inD 320 a s.length) (.br (parts a.toNat s).isEmpty (.out (.exit 0) sPNx) (.out (.exit 0) (sPVx ((parts a.toNat s).map rowOf) (parts a.toNat s).length))))
  | _, _ => .fail
theorem eP1_ok (K : Nat) (st : PState) : LAnsOK Try.prog loopP1 K st (eP1 K st) := by
  unfold eP1
  split
  · rename_i a s rs rm
    refine ⟨fun g1 => ⟨fun g2 => ?_, fun _ => trivial⟩, fun _ => trivial⟩
    rw [Bool.and_eq_true] at g1
    rw [noV_eq _ _ g1.1, noB_eq _ _ g1.2]
    obtain ⟨h1, h2⟩ := of_decide_eq_true g2
    obtain ⟨a, rfl⟩ := Int.eq_ofNat_of_zero_le h1
    simp only [Int.ofNat_eq_natCast, Int.toNat_natCast] at h2 ⊢
    have hl := loopP a s [] ⟨h2, by simp; omega⟩
    rw [List.nil_append] at hl
    refine ⟨fun e => ?_, fun e => ?_⟩
    · rw [List.isEmpty_iff.1 e] at hl; exact hl
    · have hx : sPXx (parts a s) = sPVx ((parts a s).map rowOf) (parts a s).length := by
        cases hk : parts a s with
        | nil => rw [hk] at e; cases e
        | cons c out => rfl
      rw [hx] at hl; exact hl
  · trivial
def lvP : FuncId → Lv := fun f => match f with
  | 26 => { keep := fun _ => some [0, 1, 5], ent := fun i => match i with | 2 => some eP1 | _ => none }
  | _ => {}
theorem lvP_ok : LvOK Try.prog lvP := by
  intro f fn body hf hb K x hx id e hid he t
  by_cases h : f = 26
  · subst h
    obtain rfl : fn = Try.f26 := (Option.some.inj (Try.func26.symm.trans hf)).symm
    have hbody : body = bodyOf Try.f26 := by unfold bodyOf; rw [hb]; rfl
    subst hbody
    have h1 : loopBodies (bodyOf Try.f26) = [loopP1] := by kernel_rfl
    rw [h1] at hx
    have hx' := List.mem_singleton.1 hx
    have h2 : id = 2 := by
      have h3 : headReg loopP1 = some 2 := by kernel_rfl
      rw [hx', h3] at hid; exact (Option.some.inj hid).symm
    subst h2
    have he' : eP1 = e := Option.some.inj he
    subst he'
    rw [hx']
    exact eP1_ok K t
  · exfalso
    have : (lvP f).ent id = none := by
      unfold lvP
      split
      · exact absurd rfl h
      · rfl
    rw [this] at he; cases he
theorem cPa (a : Int) (s : List UInt8) : Comes [] lvP 26 [.int .i64 a, .str s] [] (.chk (inD 320 a s.length) (.br (parts a.toNat s).isEmpty (.ret .nilslice []) (.ret (.vec 0 (parts a.toNat s).length) [.vecR shP ((parts a.toNat s).map rowOf) qT]))) := by unfold Comes; kernel_rfl
/-- Of nothing; of some bytes. -/
def ePa0 : Ent := fun args pre => match args, pre with
  | [.int .i64 a, .str s], [] => .chk (inD 320 a s.length) (.chk (parts a.toNat s).isEmpty (.ret .nilslice []))
  | _, _ => .fail
def ePaV : Ent := fun args pre => match args, pre with
  | [.int .i64 a, .str s], [] => .chk (inD 320 a s.length) (.chk (!(parts a.toNat s).isEmpty) (.ret (.vec 0 (parts a.toNat s).length) [.vecR shP ((parts a.toNat s).map rowOf) qT]))
  | _, _ => .fail
theorem ePa0_ok : EntOK Try.prog 26 ePa0 := fun args pre => by
  unfold ePa0
  split
  · refine of_run (ans_comes .nil (cPa _ _) lvP_ok) fun r hr => ?_
    obtain ⟨c1, hr⟩ := chk_run hr
    obtain ⟨c2, hr⟩ := chk_run hr
    rw [← hr]; simp only [Ans.run, Ans.chk]; rw [bcT c1, bcT c2]
  · trivial
theorem ePaV_ok : EntOK Try.prog 26 ePaV := fun args pre => by
  unfold ePaV
  split
  · refine of_run (ans_comes .nil (cPa _ _) lvP_ok) fun r hr => ?_
    obtain ⟨c1, hr⟩ := chk_run hr
    obtain ⟨c2, hr⟩ := chk_run hr
    rw [← hr]; simp only [Ans.run, Ans.chk]; rw [bcT c1, bcF ((Bool.not_eq_true' _).mp c2)]
  · trivial
end Go.Proofs.Ytoekeplljjaehaa

/- Layer 26: what was synced stays: the inner loop. -/
set_option linter.unusedVariables false
set_option linter.unusedSimpArgs false
namespace Go.Proofs.Ytoekeplljjaehaa
open Go Sx
noncomputable abbrev loopS1 : Code := (loopBodies (bodyOf Try.f4)).headD .skip
noncomputable abbrev loopS2 : Code := ((loopBodies (bodyOf Try.f4)).drop 1).headD .skip
def meS (r1 r2 : List (List CV)) (ks : List Int) (k t : List UInt8) : List (Option PObj) := some (fr r1) :: some (fr r2) :: some (.flatI false ks) :: some (.raw (.cells [.slice 4 0 320 320, .slice 5 0 320 320, .nilslice] dT)) :: some (.arrB k 5) :: some (.arrB t 5) :: List.replicate 64 none
def sIn (l2 : Nat) (r1 r2 : List (List CV)) (ks : List Int) (w v k t : List UInt8) (i : Int) (b : Bool) (j : Int) : PState :=
  ⟨none :: some (.dsl 1 l2) :: none :: none :: none :: none :: none :: some (.bool true) :: some (.ptr 3 0) :: some (.str w) :: none :: some (.str v) :: some (.int .i64 i) :: some (.bool b) :: some (.int .i64 j) :: List.replicate 83 none, meS r1 r2 ks k t⟩
def sInX (l2 : Nat) (r1 r2 : List (List CV)) (ks : List Int) (w v k t : List UInt8) (i : Int) (b : Bool) : PState :=
  ⟨none :: some (.dsl 1 l2) :: none :: none :: none :: none :: none :: some (.bool true) :: some (.ptr 3 0) :: some (.str w) :: none :: some (.str v) :: some (.int .i64 i) :: some (.bool b) :: List.replicate 84 none, meS r1 r2 ks k t⟩
def sOut (l2 : Nat) (r1 r2 : List (List CV)) (ks : List Int) (w v k t : List UInt8) (i : Int) : PState :=
  ⟨none :: some (.dsl 1 l2) :: none :: none :: none :: none :: none :: some (.bool true) :: some (.ptr 3 0) :: some (.str w) :: none :: some (.str v) :: some (.int .i64 i) :: List.replicate 85 none, meS r1 r2 ks k t⟩
def roundI {α : Type} (l2 : Nat) (r2 : List (List CV)) (i j : Int) (b : Bool) (z : Bool → Option α) (x : Option α) : Option α :=
  bcond (decide (j < (l2 : Int))) (bcond (decide (j < 8)) (chks (bcond b (z true) (bcond (decide (i ≥ aF (Sx.rowAt r2 j.toNat))) (chks (z (decide (IntKind.i64.wrap (i - aF (Sx.rowAt r2 j.toNat)) < ((sC (Sx.rowAt r2 j.toNat)).length : Int)))) [bF j l2, rF j r2]) (z false)))
    [bF j l2, rF j r2, i64B (atC (Sx.rowAt r2 j.toNat))]) x) x
theorem rIn (l2 : Nat) (r1 r2 : List (List CV)) (ks : List Int) (w v k t : List UInt8) (i : Int) (b : Bool) (j : Int) : code (ent Try.prog tPk nolv 64 1 20) Try.prog {} 3 64 1 loopS2 (sIn l2 r1 r2 ks w v k t i b j) (endK 3 64 (fun n => hasN [1, 7, 8, 9, 11, 12, 13, 14] n) (fun n => hasN [1, 7, 8, 9, 11, 12, 13] n))
  = roundI l2 r2 i j b (fun c => some (.normal, sIn l2 r1 r2 ks w v k t i c (iN j))) (some (.exit 2, sInX l2 r1 r2 ks w v k t i b)) := by kernel_rfl
/-- Does a row write there? -/
def hit (i : Int) (r : List CV) : Bool := decide ((aN r : Int) ≤ i ∧ i - (aN r : Int) < ((sC r).length : Int))
theorem loopIn {l2 : Nat} {r1 r2 : List (List CV)} {ks : List Int} {w v k t : List UInt8} {i : Int} (hi : 0 ≤ i ∧ i ≤ 320) (hl : r2.length = l2) (hr : ∀ r ∈ r2, i64B (atC r) = true) (b : Bool) (j : Nat) (hj : j ≤ min l2 8) :
    Tri Try.prog (.loop loopS2) (sIn l2 r1 r2 ks w v k t i b j).toA (.exit 2) (sInX l2 r1 r2 ks w v k t i (b || ((r2.take 8).drop j).any (hit i))).toA 3 := by
  refine loop_rounds (ent_sound (T := tPk) tPk_ok host nolv_ok (NF := 64) (m := 1) 20) (NF := 64) (m := 1) loops_none (fun n => hasN [1, 7, 8, 9, 11, 12, 13, 14] n) (fun n => hasN [1, 7, 8, 9, 11, 12, 13] n) (ι := { w : Nat × Bool // w.1 ≤ min l2 8 })
    (fun x => sIn l2 r1 r2 ks w v k t i x.1.2 (x.1.1 : Int)) (fun x => 8 - x.1.1) (fun x => (.exit 2, sInX l2 r1 r2 ks w v k t i (x.1.2 || ((r2.take 8).drop x.1.1).any (hit i)))) ?_ (fun _ => by simp) ⟨(j, b), hj⟩
  rintro ⟨⟨j, b⟩, hj⟩
  simp only at hj
  by_cases h : j < min l2 8
  · left
    have hj1 : j < r2.length := by omega
    have hrow : Sx.rowAt r2 j = r2[j] := by unfold Sx.rowAt; rw [List.getD_eq_getElem?_getD, List.getElem?_eq_getElem hj1]; rfl
    have hat := hr r2[j] (List.getElem_mem hj1)
    have hlt := aN_lt r2[j]
    have hdrop : (r2.take 8).drop j = r2[j] :: (r2.take 8).drop (j + 1) := by
      rw [List.drop_eq_getElem_cons (by rw [List.length_take]; omega)]; congr 1; rw [List.getElem_take]
    refine ⟨⟨(j + 1, b || hit i r2[j]), by simp only; omega⟩, by simp only; omega, ?_, ?_⟩
    · simp only; rw [hdrop, List.any_cons, Bool.or_assoc]
    · refine (rIn l2 r1 r2 ks w v k t i b j).trans ?_
      have e1 : bF (j : Int) l2 = true := decide_eq_true (by omega)
      have e2 : rF (j : Int) r2 = true := by unfold rF; rw [Bool.and_true]; exact decide_eq_true hj1
      unfold roundI
      simp only [Int.toNat_natCast, hrow]
      rw [bcT (b := decide ((j : Int) < _)) (decide_eq_true (by omega)), bcT (b := decide ((j : Int) < _)) (decide_eq_true (by omega)), chks_true (bs := [_, _, _]) (by
        intro c hc
        simp only [List.mem_cons, List.not_mem_nil, or_false] at hc
        rcases hc with rfl | rfl | rfl
        · exact e1
        · exact e2
        · exact hat), chks_true (bs := [_, _]) (by
        intro c hc
        simp only [List.mem_cons, List.not_mem_nil, or_false] at hc
        rcases hc with rfl | rfl
        · exact e1
        · exact e2), iN_nat (by omega), aF_nat hat, i64_in (by omega) (by omega)]
      cases b with
      | true => rfl
      | false =>
        rw [bcF rfl, Bool.false_or]
        unfold hit
        by_cases c1 : (aN r2[j] : Int) ≤ i
        · rw [bcT (b := decide _) (decide_eq_true c1)]
          congr 3
          simp [c1]
        · rw [bcF (b := decide _) (decide_eq_false c1), decide_eq_false (fun e => c1 e.1)]
  · right
    have hd : (r2.take 8).drop j = [] := List.drop_of_length_le (by rw [List.length_take]; omega)
    simp only [hd, List.any_nil, Bool.or_false]
    refine (rIn l2 r1 r2 ks w v k t i b j).trans ?_
    unfold roundI
    by_cases h4 : j < l2
    · rw [bcT (b := decide _) (decide_eq_true (by omega)), bcF (b := decide _) (decide_eq_false (by omega))]
    · rw [bcF (b := decide _) (decide_eq_false (by omega))]
end Go.Proofs.Ytoekeplljjaehaa

/- Layer 26: all pieces are kept, or none: disks that are filled with some pending, or none; the law's loop. -/
set_option linter.unusedVariables false
set_option linter.unusedSimpArgs false
namespace Go.Proofs.Ytoekeplljjaehaa
open Go Sx
/-- Disks with nothing pending; with something. -/
def eFilN : Ent := fun args pre => match args, pre with
  | [.dsl a l1, .dsl b l2], [.raw (.flatR m1 sh1 r1), .raw (.flatR m2 sh2 r2)] => .chk (Nat.beq a 0 && (Nat.beq b 1 && (eqA sh1 && eqA sh2))) (.chk (okA l1 r1) (.chk (okA l2 r2) (.chk (fillP (r2.take 8)).isEmpty (.ret (.ptr 2 0) (fr r1 :: fr r2 :: dkA0 2 320 (sT1 r1) (sT2 r1 r2))))))
  | [.dsl a l1, .nilslice], [.raw (.flatR m1 sh1 r1)] => .chk (Nat.beq a 0 && eqA sh1) (rFill1 l1 r1)
  | _, _ => .fail
def eFilV : Ent := fun args pre => match args, pre with
  | [.dsl a l1, .dsl b l2], [.raw (.flatR m1 sh1 r1), .raw (.flatR m2 sh2 r2)] => .chk (Nat.beq a 0 && (Nat.beq b 1 && (eqA sh1 && eqA sh2))) (.chk (okA l1 r1) (.chk (okA l2 r2) (.chk (!(fillP (r2.take 8)).isEmpty) (.ret (.ptr 2 0) (fr r1 :: fr r2 :: dkA1 2 320 (sT1 r1) (sT2 r1 r2) ((fillP (r2.take 8)).map rowOf) (fillP (r2.take 8)).length)))))
  | [.dsl a l1, .nilslice], [.raw (.flatR m1 sh1 r1)] => .chk (Nat.beq a 0 && eqA sh1) (rFill1 l1 r1)
  | _, _ => .fail
theorem eFilN_ok : EntOK Try.prog 20 eFilN := fun args pre => by
  refine of_run (eFilled_ok args pre) fun r hr => ?_
  unfold eFilN at hr
  unfold eFilled
  split at hr
  · obtain ⟨c1, hr⟩ := chk_run hr
    obtain ⟨c2, hr⟩ := chk_run hr
    obtain ⟨c3, hr⟩ := chk_run hr
    obtain ⟨c4, hr⟩ := chk_run hr
    unfold rFill
    simp only [Ans.run, Ans.chk] at hr ⊢
    rw [bcT c1, bcT c2, bcT c3, bcT c4]; exact hr
  · exact hr
  · cases hr
theorem eFilV_ok : EntOK Try.prog 20 eFilV := fun args pre => by
  refine of_run (eFilled_ok args pre) fun r hr => ?_
  unfold eFilV at hr
  unfold eFilled
  split at hr
  · obtain ⟨c1, hr⟩ := chk_run hr
    obtain ⟨c2, hr⟩ := chk_run hr
    obtain ⟨c3, hr⟩ := chk_run hr
    obtain ⟨c4, hr⟩ := chk_run hr
    unfold rFill
    simp only [Ans.run, Ans.chk] at hr ⊢
    rw [bcT c1, bcT c2, bcT c3, bcF ((Bool.not_eq_true' _).mp c4)]; exact hr
  · exact hr
  · cases hr
def tAn (e : Ent) : Tab := [(21, eCrashV), (24, eSync), (13, eReadI), (20, e), (10, eTrue)]
theorem tAn_ok {e : Ent} (h : EntOK Try.prog 20 e) : TabOK Try.prog (tAn e) := .cons eCrashV_ok (.cons eSync_ok (.cons eReadI_ok (.cons h (.cons awake_ok .nil))))
end Go.Proofs.Ytoekeplljjaehaa

/- Layer 26: all pieces are kept: the law's loop. -/
set_option linter.unusedVariables false
set_option linter.unusedSimpArgs false
namespace Go.Proofs.Ytoekeplljjaehaa
open Go Sx
def cel (x y z n m : Nat) : Option PObj := some (.raw (.cells [.slice x 0 n n, .slice y 0 n n, .vec z m] dT))
def three (k t : List UInt8) (rows : List (List CV)) : List (Option PObj) := [some (.arrB k 5), some (.arrB t 5), some (.vecR shP rows pT), some (.arrB k 5), some (.arrB t 5), some (.vecR shP rows pT), some (.arrB k 5), some (.arrB t 5), some (.vecR shP rows pT)]
def slN (l1 : Nat) (w : List UInt8) (p : AV) (i : Option AV) : List (Option AV) := some (.dsl 0 l1) :: none :: none :: none :: none :: some (.bool true) :: some (.ptr 2 0) :: some (.ptr 3 0) :: some (.ptr 4 0) :: some (.str w) :: some p :: i :: List.replicate 72 none
def sN0 (l1 : Nat) (r1 r2 : List (List CV)) (w k t : List UInt8) (rows : List (List CV)) (m : Nat) : PState :=
  ⟨slN l1 w .nilslice (some (.int .i64 0)), some (fr r1) :: some (fr r2) :: cel 5 6 7 320 m :: cel 8 9 10 320 m :: cel 11 12 13 320 m :: three k t rows ++ List.replicate 64 none⟩
def memV (r1 r2 : List (List CV)) (k t : List UInt8) (rows : List (List CV)) (m : Nat) (l : List Int) : List (Option PObj) := some (fr r1) :: some (fr r2) :: cel 6 7 8 320 m :: cel 9 10 11 320 m :: cel 12 13 14 320 m :: some (.vecI .i64 l 3) :: three k t rows ++ List.replicate 64 none
def sNV (l1 : Nat) (r1 r2 : List (List CV)) (w k t : List UInt8) (rows : List (List CV)) (m : Nat) (i : Int) (len : Nat) (l : List Int) : PState := ⟨slN l1 w (.vec 5 len) (some (.int .i64 i)), memV r1 r2 k t rows m l⟩
def sNX (l1 : Nat) (r1 r2 : List (List CV)) (w k t : List UInt8) (rows : List (List CV)) (m : Nat) (len : Nat) (l : List Int) : PState := ⟨slN l1 w (.vec 5 len) none, memV r1 r2 k t rows m l⟩
noncomputable abbrev loopN1 : Code := (loopBodies (bodyOf Try.f5)).headD .skip
set_option maxRecDepth 100000
theorem rN0 (l1 : Nat) (r1 r2 : List (List CV)) (w k t : List UInt8) (rows : List (List CV)) (m : Nat) : code (ent Try.prog (tAn eFilV) nolv 64 1 20) Try.prog {} 2 64 1 loopN1 (sN0 l1 r1 r2 w k t rows m) (endK 2 64 (fun n => hasN [0, 5, 6, 7, 8, 9, 10, 11] n) (fun n => hasN [0, 5, 6, 7, 8, 9, 10] n))
  = bcond (decide ((0 : Int) < (m : Int))) (some (.normal, sNV l1 r1 r2 w k t rows m (iN 0) 1 [0])) (some (.exit 0, ⟨slN l1 w .nilslice none, (sN0 l1 r1 r2 w k t rows m).mem⟩)) := by kernel_rfl
theorem rNV (l1 : Nat) (r1 r2 : List (List CV)) (w k t : List UInt8) (rows : List (List CV)) (m : Nat) (i : Int) (len : Nat) (l : List Int) : code (ent Try.prog (tAn eFilV) nolv 64 1 20) Try.prog {} 2 64 1 loopN1 (sNV l1 r1 r2 w k t rows m i len l) (endK 2 64 (fun n => hasN [0, 5, 6, 7, 8, 9, 10, 11] n) (fun n => hasN [0, 5, 6, 7, 8, 9, 10] n))
  = bcond (decide (i < (m : Int))) (chks (some (.normal, sNV l1 r1 r2 w k t rows m (iN i) (len + 1) (l ++ [i]))) [decide (l.length = len * 1) && roomB (len + 1) 8]) (some (.exit 0, sNX l1 r1 r2 w k t rows m len l)) := by kernel_rfl
end Go.Proofs.Ytoekeplljjaehaa

/- Layer 26: all pieces are kept: the law's loop, all rounds; the law, evaluated. -/
set_option linter.unusedVariables false
set_option linter.unusedSimpArgs false
namespace Go.Proofs.Ytoekeplljjaehaa
open Go Sx
/-- The numbers below one. -/
def upto (m : Nat) : List Int := (List.range m).map fun j => ((j : Nat) : Int)
theorem upto_len (m : Nat) : (upto m).length = m := by unfold upto; simp
theorem upto_succ (m : Nat) : upto (m + 1) = upto m ++ [(m : Int)] := by unfold upto; rw [List.range_succ, List.map_append]; rfl
theorem loopN {l1 : Nat} {r1 r2 : List (List CV)} {w k t : List UInt8} {rows : List (List CV)} {m : Nat} (h0 : 0 < m) (hm : m ≤ 1099511627776) :
    Tri Try.prog (.loop loopN1) (sN0 l1 r1 r2 w k t rows m).toA (.exit 0) (sNX l1 r1 r2 w k t rows m m (upto m)).toA 2 := by
  refine loop_rounds (ent_sound (T := tAn eFilV) (tAn_ok eFilV_ok) host nolv_ok (NF := 64) (m := 1) 20) (NF := 64) (m := 1) loops_none (fun n => hasN [0, 5, 6, 7, 8, 9, 10, 11] n) (fun n => hasN [0, 5, 6, 7, 8, 9, 10] n) (ι := { j : Nat // j ≤ m })
    (fun j => match j.1 with | 0 => sN0 l1 r1 r2 w k t rows m | j + 1 => sNV l1 r1 r2 w k t rows m ((j + 1 : Nat) : Int) (j + 1) (upto (j + 1))) (fun j => m - j.1) (fun _ => (.exit 0, sNX l1 r1 r2 w k t rows m m (upto m))) ?_ (fun _ => by simp) ⟨0, Nat.zero_le _⟩
  rintro ⟨j, hj⟩
  cases j with
  | zero =>
    refine .inl ⟨⟨1, h0⟩, by simp only; omega, rfl, ?_⟩
    refine (rN0 l1 r1 r2 w k t rows m).trans ?_
    rw [bcT (b := decide _) (decide_eq_true (by omega))]
    have e : iN 0 = ((0 + 1 : Nat) : Int) := iN_nat (j := 0) (by omega)
    rw [e]; rfl
  | succ j =>
    by_cases h : j + 1 < m
    · refine .inl ⟨⟨j + 2, h⟩, by simp only; omega, rfl, ?_⟩
      refine (rNV l1 r1 r2 w k t rows m ((j + 1 : Nat) : Int) (j + 1) (upto (j + 1))).trans ?_
      rw [bcT (b := decide _) (decide_eq_true (by omega)), chks_true (by
        intro b hb
        rw [List.mem_singleton.1 hb, upto_len, decide_eq_true (by omega), Bool.true_and]
        exact decide_eq_true (by omega)), iN_nat (j := j + 1) (by omega), ← upto_succ]
    · refine .inr ?_
      have : m = j + 1 := by omega
      subst this
      refine (rNV l1 r1 r2 w k t rows (j + 1) ((j + 1 : Nat) : Int) (j + 1) (upto (j + 1))).trans ?_
      rw [bcF (b := decide _) (decide_eq_false (by omega))]
noncomputable def eqSt (a b : PState) : Bool := @decide (a = b) (Classical.propDecidable _)
theorem eqSt_of {a b : PState} (h : eqSt a b = true) : a = b := by unfold eqSt at h; exact @of_decide_eq_true _ (Classical.propDecidable _) h
theorem eqSt_refl (a : PState) : eqSt a a = true := by unfold eqSt; exact @decide_eq_true _ (Classical.propDecidable _) rfl
def posM (m : Nat) : Bool := decide (0 < m ∧ m ≤ 1099511627776)
noncomputable def eNL (l1 : Nat) (r1 r2 : List (List CV)) (w k t : List UInt8) (rows : List (List CV)) (m : Nat) : Nat → PState → LAns := fun K st =>
  .chk (Nat.beq K 2) (.chk (eqSt st (sN0 l1 r1 r2 w k t rows m)) (.chk (posM m) (.out (.exit 0) (sNX l1 r1 r2 w k t rows m m (upto m)))))
theorem eNL_ok (l1 : Nat) (r1 r2 : List (List CV)) (w k t : List UInt8) (rows : List (List CV)) (m : Nat) (K : Nat) (st : PState) : LAnsOK Try.prog loopN1 K st (eNL l1 r1 r2 w k t rows m K st) := by
  unfold eNL
  refine ⟨fun g1 => ⟨fun g2 => ⟨fun g3 => ?_, fun _ => trivial⟩, fun _ => trivial⟩, fun _ => trivial⟩
  obtain rfl := beqT.1 g1
  obtain rfl := eqSt_of g2
  obtain ⟨h1, h2⟩ := of_decide_eq_true g3
  exact loopN h1 h2
noncomputable def lvN (l1 : Nat) (r1 r2 : List (List CV)) (w k t : List UInt8) (rows : List (List CV)) (m : Nat) : FuncId → Lv := fun f => match f with
  | 5 => { keep := fun _ => some [0, 5, 6, 7, 8, 9, 10, 11], ent := fun i => match i with | 8 => some (eNL l1 r1 r2 w k t rows m) | _ => none }
  | _ => {}
theorem lvN_ok (l1 : Nat) (r1 r2 : List (List CV)) (w k t : List UInt8) (rows : List (List CV)) (m : Nat) : LvOK Try.prog (lvN l1 r1 r2 w k t rows m) := by
  intro f fn body hf hb K x hx id e hid he st
  by_cases h : f = 5
  · subst h
    obtain rfl : fn = Try.f5 := (Option.some.inj (Try.func5.symm.trans hf)).symm
    have hbody : body = bodyOf Try.f5 := by unfold bodyOf; rw [hb]; rfl
    subst hbody
    have h1 : loopBodies (bodyOf Try.f5) = [loopN1] := by kernel_rfl
    rw [h1] at hx
    have hx' := List.mem_singleton.1 hx
    have h2 : id = 8 := by
      have h3 : headReg loopN1 = some 8 := by kernel_rfl
      rw [hx', h3] at hid; exact (Option.some.inj hid).symm
    subst h2
    have he' : eNL l1 r1 r2 w k t rows m = e := Option.some.inj he
    subst he'
    rw [hx']
    exact eNL_ok l1 r1 r2 w k t rows m K st
  · exfalso
    have : (lvN l1 r1 r2 w k t rows m f).ent id = none := by
      unfold lvN
      split
      · exact absurd rfl h
      · rfl
    rw [this] at he; cases he
def allS (t : List UInt8) : List UInt8 := (t.drop (Int.toNat 0)).take (Int.toNat 320)
def vB (rows : List (List CV)) (m : Nat) : Bool := decide (rows.length = m ∧ m ≤ 1099511627776)
def endN (l1 : Nat) (r1 r2 : List (List CV)) (k t a : List UInt8) : Ans :=
  .chk (smN 320 a a) (.br (allS a == allS t) (.chk (smN 320 k k) (.chk (okA l1 r1) (.chk (smN 320 k k) (.br (allS k == allS k) (.chk (smN 320 t t) (.ret (.bool (allS t == allS t)) [fr r1, fr r2])) (.ret (.bool false) [fr r1, fr r2]))))) (.ret (.bool false) [fr r1, fr r2]))
def xN0 (l1 l2 : Nat) (r1 r2 : List (List CV)) : Ans :=
  ansChks (endN l1 r1 r2 (sT1 r1) (sT2 r1 r2) (sT1 r1)) [okA l1 r1, okA l2 r2, (fillP (r2.take 8)).isEmpty, okA l1 r1, okA l2 r2, (fillP (r2.take 8)).isEmpty, okA l1 r1, okA l2 r2, (fillP (r2.take 8)).isEmpty,
    smN 320 (sT1 r1) (sT2 r1 r2), smN 320 (sT1 r1) (sT2 r1 r2), smN 320 (sT1 r1) (sT2 r1 r2), smN 320 (sT1 r1) (sT2 r1 r2), smN 320 (sT2 r1 r2) (sT2 r1 r2)]
noncomputable def xNV (l1 l2 : Nat) (r1 r2 : List (List CV)) (rows : List (List CV)) (m : Nat) : Ans :=
  ansChks (endN l1 r1 r2 (sT1 r1) (sT2 r1 r2) (layAll rows (upto m) (sT1 r1))) [okA l1 r1, okA l2 r2, !(fillP (r2.take 8)).isEmpty, okA l1 r1, okA l2 r2, !(fillP (r2.take 8)).isEmpty, okA l1 r1, okA l2 r2, !(fillP (r2.take 8)).isEmpty,
    smN 320 (sT1 r1) (sT2 r1 r2), vB rows m, eqSt (sN0 l1 r1 r2 (allS (sT2 r1 r2)) (sT1 r1) (sT2 r1 r2) rows m) (sN0 l1 r1 r2 (allS (sT2 r1 r2)) (sT1 r1) (sT2 r1 r2) rows m), posM m,
    askC (upto m) m 320 320 320 320 m (sT1 r1) (sT2 r1 r2) rows, okK m (tk m) (upto m), rowsB 320 rows, smN 320 (sT1 r1) (sT2 r1 r2), vB rows m, smN 320 (sT1 r1) (sT2 r1 r2), vB rows m, smN 320 (sT2 r1 r2) (sT2 r1 r2)]
end Go.Proofs.Ytoekeplljjaehaa

/- Layer 26: what was synced stays: the inner loop, told. -/
set_option linter.unusedVariables false
set_option linter.unusedSimpArgs false
namespace Go.Proofs.Ytoekeplljjaehaa
open Go Sx
noncomputable def clB (p : Prop) : Bool := @decide p (Classical.propDecidable p)
theorem clB_of {p : Prop} (h : clB p = true) : p := by unfold clB at h; exact @of_decide_eq_true _ (Classical.propDecidable p) h
theorem clB_to {p : Prop} (h : p) : clB p = true := by unfold clB; exact @decide_eq_true _ (Classical.propDecidable p) h
def rng (i : Int) : Bool := decide (0 ≤ i ∧ i ≤ 320)
def anyB (r2 : List (List CV)) (i : Int) : Bool := (r2.take 8).any (hit i)
noncomputable def eInL (l2 : Nat) (r1 r2 : List (List CV)) (ks : List Int) (w v k t : List UInt8) : Nat → PState → LAns := fun K st =>
  match (st.slots[12]?).join with
  | some (AV.int IntKind.i64 i) => .chk (Nat.beq K 3) (.chk (eqSt st (sIn l2 r1 r2 ks w v k t i false 0)) (.chk (rng i) (.chk (okA l2 r2) (.out (.exit 2) (sInX l2 r1 r2 ks w v k t i (anyB r2 i))))))
  | _ => .fail
theorem eInL_ok (l2 : Nat) (r1 r2 : List (List CV)) (ks : List Int) (w v k t : List UInt8) (K : Nat) (st : PState) : LAnsOK Try.prog loopS2 K st (eInL l2 r1 r2 ks w v k t K st) := by
  unfold eInL
  split
  · refine ⟨fun g1 => ⟨fun g2 => ⟨fun g3 => ⟨fun g4 => ?_, fun _ => trivial⟩, fun _ => trivial⟩, fun _ => trivial⟩, fun _ => trivial⟩
    obtain rfl := beqT.1 g1
    obtain rfl := eqSt_of g2
    obtain ⟨h1, h2⟩ := okA_of g4
    have := loopIn (r1 := r1) (ks := ks) (w := w) (v := v) (k := k) (t := t) (of_decide_eq_true g3) h1 h2 false 0 (Nat.zero_le _)
    rw [List.drop_zero, Bool.false_or] at this
    exact this
  · trivial
end Go.Proofs.Ytoekeplljjaehaa

/- Layer 26: pieces that are torn: the inner loop. -/
set_option linter.unusedVariables false
set_option linter.unusedSimpArgs false
namespace Go.Proofs.Ytoekeplljjaehaa
open Go Sx
noncomputable abbrev loopT1 : Code := (loopBodies (bodyOf Try.f7)).headD .skip
noncomputable abbrev loopT2 : Code := ((loopBodies (bodyOf Try.f7)).drop 1).headD .skip
def slT (w v : List UInt8) (m : Nat) (p : AV) (k : Int) (rest : List (Option AV)) : List (Option AV) :=
  none :: none :: none :: none :: none :: none :: none :: none :: none :: some (.bool true) :: none :: some (.str w) :: none :: none :: none :: some (.vec 2 m) :: some p :: none :: some (.str v) :: some (.int .i64 k) :: rest
def meT (r1 : List (List CV)) (ks : List Int) (rows : List (List CV)) (kept : List Int) : List (Option PObj) := some (fr r1) :: some (.flatI false ks) :: some (.vecR shP rows qT) :: some (.vecI .i64 kept 3) :: List.replicate 64 none
def meT0 (r1 : List (List CV)) (ks : List Int) (rows : List (List CV)) : List (Option PObj) := some (fr r1) :: some (.flatI false ks) :: some (.vecR shP rows qT) :: List.replicate 64 none
def sTn (r1 : List (List CV)) (ks : List Int) (w v : List UInt8) (rows : List (List CV)) (m : Nat) (kept : List Int) (kl : Nat) (k n i : Int) : PState := ⟨slT w v m (.vec 3 kl) k (some (.int .i64 n) :: some (.int .i64 i) :: List.replicate 129 none), meT r1 ks rows kept⟩
def sTnX (r1 : List (List CV)) (ks : List Int) (w v : List UInt8) (rows : List (List CV)) (m : Nat) (kept : List Int) (kl : Nat) (k n : Int) : PState := ⟨slT w v m (.vec 3 kl) k (some (.int .i64 n) :: List.replicate 130 none), meT r1 ks rows kept⟩
def sTo (r1 : List (List CV)) (ks : List Int) (w v : List UInt8) (rows : List (List CV)) (m : Nat) (kept : List Int) (kl : Nat) (k : Int) : PState := ⟨slT w v m (.vec 3 kl) k (List.replicate 131 none), meT r1 ks rows kept⟩
def sT0 (r1 : List (List CV)) (ks : List Int) (w v : List UInt8) (rows : List (List CV)) (m : Nat) (k : Int) : PState := ⟨slT w v m .nilslice k (List.replicate 131 none), meT0 r1 ks rows⟩
/-- How much of a piece is kept, behind one number. -/
def nOne (k : Int) (L x n : Int) : Int := if x == IntKind.i64.wrap (-1 - k) then IntKind.i64.wrap (L.tdiv 2) else if x == k then L else n
end Go.Proofs.Ytoekeplljjaehaa

/- Layer 26: pieces that are torn: the inner loop, all rounds; a round of the outer one. -/
set_option linter.unusedVariables false
set_option linter.unusedSimpArgs false
namespace Go.Proofs.Ytoekeplljjaehaa
open Go Sx
def pkC (rows : List (List CV)) (k : Int) : Bool := decide (k.toNat < rows.length) && true && true
def sP (rows : List (List CV)) (k : Int) : List UInt8 := (rowCV (Sx.rowAt rows k.toNat) 1).s
def fP (rows : List (List CV)) (k : Int) : Int := (rowCV (Sx.rowAt rows k.toNat) 0).n
theorem rTn (r1 : List (List CV)) (ks : List Int) (w v : List UInt8) (rows : List (List CV)) (m : Nat) (kept : List Int) (kl : Nat) (k n i : Int) : code (ent Try.prog [] nolv 64 1 20) Try.prog {} 2 64 1 loopT2 (sTn r1 ks w v rows m kept kl k n i) (endK 2 64 (fun n => hasN [9, 11, 15, 16, 18, 19, 20, 21] n) (fun n => hasN [9, 11, 15, 16, 18, 19, 20] n))
  = bcond (decide (i < (kl : Int))) (chks (bcond (xK kept i == k)
      (chks (bcond (xK kept i == IntKind.i64.wrap (-1 - k)) (chks (some (.normal, sTn r1 ks w v rows m kept kl k (hfI (sP rows k)) (iN i))) [bF k m, pkC rows k]) (some (.normal, sTn r1 ks w v rows m kept kl k ((sP rows k).length : Int) (iN i)))) [bF k m, pkC rows k, bF i kl, lnL i kept])
      (chks (bcond (xK kept i == IntKind.i64.wrap (-1 - k)) (chks (some (.normal, sTn r1 ks w v rows m kept kl k (hfI (sP rows k)) (iN i))) [bF k m, pkC rows k]) (some (.normal, sTn r1 ks w v rows m kept kl k n (iN i)))) [bF i kl, lnL i kept]))
      [bF i kl, lnL i kept]) (some (.exit 2, sTnX r1 ks w v rows m kept kl k n)) := by kernel_rfl
/-- How much of a piece is kept, behind some numbers. -/
def nT (k L : Nat) : List Int → Nat → Nat
  | [], n => n
  | x :: xs, n => nT k L xs (if x = -1 - (k : Int) then L / 2 else if x = (k : Int) then L else n)
theorem loopTn {r1 : List (List CV)} {ks : List Int} {w v : List UInt8} {rows : List (List CV)} {m : Nat} {kept : List Int} {k : Nat} (hm : rows.length = m) (hm2 : m ≤ 1099511627776) (hk : k < m) (hkl : kept.length ≤ 1099511627776) (hS : (sP rows k).length ≤ 1099511627776) (n j : Nat) (hj : j ≤ kept.length) :
    Tri Try.prog (.loop loopT2) (sTn r1 ks w v rows m kept kept.length k n j).toA (.exit 2) (sTnX r1 ks w v rows m kept kept.length k (nT k (sP rows k).length (kept.drop j) n : Nat)).toA 2 := by
  refine loop_rounds (ent_sound (T := []) .nil host nolv_ok (NF := 64) (m := 1) 20) (NF := 64) (m := 1) loops_none (fun n => hasN [9, 11, 15, 16, 18, 19, 20, 21] n) (fun n => hasN [9, 11, 15, 16, 18, 19, 20] n) (ι := { x : Nat × Nat // x.1 ≤ kept.length })
    (fun x => sTn r1 ks w v rows m kept kept.length k (x.1.2 : Int) (x.1.1 : Int)) (fun x => kept.length - x.1.1) (fun x => (.exit 2, sTnX r1 ks w v rows m kept kept.length k (nT k (sP rows k).length (kept.drop x.1.1) x.1.2 : Nat))) ?_ (fun _ => by simp) ⟨(j, n), hj⟩
  rintro ⟨⟨j, n⟩, hj⟩
  simp only at hj
  by_cases h : j < kept.length
  · left
    have e1 : bF (j : Int) kept.length = true := decide_eq_true (by omega)
    have e2 : lnL (j : Int) kept = true := decide_eq_true (by simp only [Int.toNat_natCast]; omega)
    have e3 : bF (k : Int) m = true := decide_eq_true (by omega)
    have e4 : pkC rows (k : Int) = true := by unfold pkC; rw [decide_eq_true (by simp only [Int.toNat_natCast]; omega)]; rfl
    have hw : IntKind.i64.wrap (-1 - (k : Int)) = -1 - (k : Int) := i64_in (by omega) (by omega)
    refine ⟨⟨(j + 1, if kept.getD j 0 = -1 - (k : Int) then (sP rows k).length / 2 else if kept.getD j 0 = (k : Int) then (sP rows k).length else n), h⟩, by simp only; omega, ?_, ?_⟩
    · simp only; rw [getD_drop h]; rfl
    · refine (rTn r1 ks w v rows m kept kept.length k n j).trans ?_
      have a2 : ∀ b ∈ [bF (j : Int) kept.length, lnL (j : Int) kept], b = true := by
        intro b hb
        simp only [List.mem_cons, List.not_mem_nil, or_false] at hb
        rcases hb with rfl | rfl <;> assumption
      have a3 : ∀ b ∈ [bF (k : Int) m, pkC rows (k : Int)], b = true := by
        intro b hb
        simp only [List.mem_cons, List.not_mem_nil, or_false] at hb
        rcases hb with rfl | rfl <;> assumption
      have a4 : ∀ b ∈ [bF (k : Int) m, pkC rows (k : Int), bF (j : Int) kept.length, lnL (j : Int) kept], b = true := by
        intro b hb
        simp only [List.mem_cons, List.not_mem_nil, or_false] at hb
        rcases hb with rfl | rfl | rfl | rfl <;> assumption
      rw [bcT (b := decide _) (decide_eq_true (by omega)), chks_true a2, chks_true a4, chks_true a2, chks_true a3, xK_nat, iN_nat (by omega), hw, hfI_nat hS]
      by_cases c1 : kept.getD j 0 = -1 - (k : Int)
      · rw [if_pos c1, c1, beq_self_eq_true]
        cases hq : (-1 - (k : Int) == (k : Int)) <;> rfl
      · rw [if_neg c1]
        have c1' : (kept.getD j 0 == -1 - (k : Int)) = false := by rw [beq_eq_false_iff_ne]; exact c1
        rw [c1']
        by_cases c2 : kept.getD j 0 = (k : Int)
        · rw [if_pos c2, c2, beq_self_eq_true]; rfl
        · have c2' : (kept.getD j 0 == (k : Int)) = false := by rw [beq_eq_false_iff_ne]; exact c2
          rw [if_neg c2, c2']; rfl
  · right
    have hd : kept.drop j = [] := List.drop_of_length_le (by omega)
    simp only [hd, nT]
    refine (rTn r1 ks w v rows m kept kept.length k n j).trans ?_
    rw [bcF (b := decide _) (decide_eq_false (by omega))]
def okT (rows : List (List CV)) (m kl : Nat) (kept : List Int) (k : Int) : Bool := decide (0 ≤ k ∧ k < (m : Int) ∧ rows.length = m ∧ m ≤ 1099511627776 ∧ kept.length = kl ∧ kl ≤ 1099511627776 ∧ (sP rows k).length ≤ 1099511627776)
noncomputable def eTnL (r1 : List (List CV)) (ks : List Int) (w v : List UInt8) (rows : List (List CV)) (m : Nat) (kept : List Int) (kl : Nat) : Nat → PState → LAns := fun K st =>
  match (st.slots[19]?).join with
  | some (AV.int IntKind.i64 k) => .chk (Nat.beq K 2) (.chk (eqSt st (sTn r1 ks w v rows m kept kl k 0 0)) (.chk (okT rows m kl kept k) (.out (.exit 2) (sTnX r1 ks w v rows m kept kl k (nT k.toNat (sP rows k).length kept 0 : Nat)))))
  | _ => .fail
theorem eTnL_ok (r1 : List (List CV)) (ks : List Int) (w v : List UInt8) (rows : List (List CV)) (m : Nat) (kept : List Int) (kl : Nat) (K : Nat) (st : PState) : LAnsOK Try.prog loopT2 K st (eTnL r1 ks w v rows m kept kl K st) := by
  unfold eTnL
  split
  · rename_i k hst
    refine ⟨fun g1 => ⟨fun g2 => ⟨fun g3 => ?_, fun _ => trivial⟩, fun _ => trivial⟩, fun _ => trivial⟩
    obtain rfl := beqT.1 g1
    obtain rfl := eqSt_of g2
    obtain ⟨h1, h2, h3, h4, rfl, h6, h7⟩ := of_decide_eq_true g3
    obtain ⟨k, rfl⟩ := Int.eq_ofNat_of_zero_le h1
    simp only [Int.ofNat_eq_natCast, Int.toNat_natCast] at *
    have := loopTn (r1 := r1) (ks := ks) (w := w) (v := v) h3 h4 (by omega) h6 h7 0 0 (Nat.zero_le _)
    rw [List.drop_zero] at this
    exact this
  · trivial
end Go.Proofs.Ytoekeplljjaehaa

/- Layer 26: pieces that are torn: the outer loop. -/
set_option linter.unusedVariables false
set_option linter.unusedSimpArgs false
namespace Go.Proofs.Ytoekeplljjaehaa
open Go Sx
noncomputable def lvT (r1 : List (List CV)) (ks : List Int) (w v : List UInt8) (rows : List (List CV)) (m : Nat) (kept : List Int) (kl : Nat) : Lv := { keep := fun i => match i with | 18 => some [9, 11, 15, 16, 18, 19, 20, 21] | _ => none, ent := fun i => match i with | 18 => some (eTnL r1 ks w v rows m kept kl) | _ => none }
def slTx (b : Option AV) : List (Option AV) := none :: none :: none :: none :: none :: none :: none :: none :: b :: some (.bool true) :: List.replicate 141 none
def sTx (r1 : List (List CV)) (ks : List Int) (b : Option AV) : PState := ⟨slTx b, some (fr r1) :: some (.flatI false ks) :: List.replicate 64 none⟩
def sbB (lo hi : Int) (s : List UInt8) : Bool := decide (0 ≤ lo ∧ 0 ≤ hi ∧ lo.toNat ≤ hi.toNat ∧ hi.toNat ≤ s.length)
def sbS (lo hi : Int) (s : List UInt8) : List UInt8 := List.take (hi.toNat - lo.toNat) (List.drop lo.toNat s)
def eI (rows : List (List CV)) (k nI : Int) : Int := IntKind.i64.wrap (fP rows k + nI)
def toI (rows : List (List CV)) (k : Int) : Int := IntKind.i64.wrap (fP rows k + ((sP rows k).length : Int))
def roundT {α : Type} (rows : List (List CV)) (m : Nat) (k nI : Int) (c : List Bool) (w v : List UInt8) (f n x : Option α) : Option α :=
  bcond (decide (k < (m : Int))) (chks (bcond (!(sbS (fP rows k) (eI rows k nI) v == loS nI (sP rows k))) f (chks (bcond (!(sbS (eI rows k nI) (toI rows k) v == sbS (eI rows k nI) (toI rows k) w)) f n) [sbB (eI rows k nI) (toI rows k) v, sbB (eI rows k nI) (toI rows k) w]))
    (c ++ [bF k m, pkC rows k, bF k m, pkC rows k, sbB (fP rows k) (eI rows k nI) v, bF k m, pkC rows k, slB nI (sP rows k)])) x
theorem rT0 (r1 : List (List CV)) (ks : List Int) (w v : List UInt8) (rows : List (List CV)) (m : Nat) (k : Int) : code (ent Try.prog [] nolv 64 1 20) Try.prog {} 2 64 1 loopT1 (sT0 r1 ks w v rows m k) (endK 2 64 (fun n => hasN [9, 11, 15, 16, 18, 19] n) (fun n => hasN [8, 9] n))
  = roundT rows m k 0 [] w v (some (.ret, sTx r1 ks (some (.bool false)))) (some (.normal, sT0 r1 ks w v rows m (iN k))) (some (.exit 0, sTx r1 ks none)) := by kernel_rfl
theorem rTo (r1 : List (List CV)) (ks : List Int) (w v : List UInt8) (rows : List (List CV)) (m : Nat) (kept : List Int) (kl : Nat) (k : Int) : code (ent Try.prog [] nolv 64 1 20) Try.prog (lvT r1 ks w v rows m kept kl) 2 64 1 loopT1 (sTo r1 ks w v rows m kept kl k) (endK 2 64 (fun n => hasN [9, 11, 15, 16, 18, 19] n) (fun n => hasN [8, 9] n))
  = roundT rows m k (nT k.toNat (sP rows k).length kept 0 : Nat) [eqSt (sTn r1 ks w v rows m kept kl k 0 0) (sTn r1 ks w v rows m kept kl k 0 0), okT rows m kl kept k] w v (some (.ret, sTx r1 ks (some (.bool false)))) (some (.normal, sTo r1 ks w v rows m kept kl (iN k))) (some (.exit 0, sTx r1 ks none)) := by kernel_rfl
theorem loopT1_in : loopBodies loopT1 = [loopT2] := by kernel_rfl
theorem lvT_ok (r1 : List (List CV)) (ks : List Int) (w v : List UInt8) (rows : List (List CV)) (m : Nat) (kept : List Int) (kl : Nat) (K : Nat) : LoopsOK Try.prog (lvT r1 ks w v rows m kept kl) K loopT1 := by
  intro x hx id e hid he st
  rw [loopT1_in] at hx
  have hx' := List.mem_singleton.1 hx
  have h2 : id = 18 := by
    have h3 : headReg loopT2 = some 18 := by kernel_rfl
    rw [hx', h3] at hid; exact (Option.some.inj hid).symm
  subst h2
  have he' : eTnL r1 ks w v rows m kept kl = e := Option.some.inj he
  subst he'
  rw [hx']
  exact eTnL_ok r1 ks w v rows m kept kl K st
theorem nT_le {k L : Nat} : ∀ (l : List Int) (n : Nat), n ≤ L → nT k L l n ≤ L
  | [], n, h => h
  | x :: xs, n, h => nT_le (k := k) (L := L) xs _ (by split; omega; split <;> omega)
/-- Of each piece there is what was kept of it, and behind that what stood there. -/
def Torn (rows : List (List CV)) (N : Nat → Nat) (w v : List UInt8) : Prop := v.length = 320 ∧ w.length = 320 ∧ rowsB 320 rows = true ∧ rows.length ≤ 1000 ∧
  ∀ k : Nat, k < rows.length → N k ≤ (sP rows k).length ∧ (v.drop (fP rows k).toNat).take (N k) = (sP rows k).take (N k) ∧ (v.drop ((fP rows k).toNat + N k)).take ((sP rows k).length - N k) = (w.drop ((fP rows k).toNat + N k)).take ((sP rows k).length - N k)
theorem roundT_ok {α : Type} {rows : List (List CV)} {N : Nat → Nat} {w v : List UInt8} (h : Torn rows N w v) {m : Nat} (hm : rows.length = m) {k : Nat} (hk : k < m) {c : List Bool} (hc : ∀ b ∈ c, b = true) (f n x : Option α) : roundT rows m (k : Int) (N k : Nat) c w v f n x = n := by
  obtain ⟨h1, h2, h3, h4, h5⟩ := h
  obtain ⟨g1, g2, g3⟩ := h5 k (by omega)
  obtain ⟨p1, p2⟩ := rowsB_at h3 (j := k) (by omega)
  have p1 : 0 ≤ fP rows k := p1
  have p2 : (fP rows k).toNat + (sP rows k).length ≤ 320 := p2
  obtain ⟨a, ha⟩ := Int.eq_ofNat_of_zero_le p1
  have pa : a + (sP rows k).length ≤ 320 := by rw [ha] at p2; simpa using p2
  have he : eI rows (k : Int) (N k : Nat) = ((a + N k : Nat) : Int) := by unfold eI; rw [ha, i64_in (by omega) (by omega)]; simp
  have ht : toI rows (k : Int) = ((a + (sP rows k).length : Nat) : Int) := by unfold toI; rw [ha, i64_in (by omega) (by omega)]; simp
  unfold roundT
  rw [he, ht, ha]
  rw [ha] at g2 g3 p2
  simp only [Int.ofNat_eq_natCast, Int.toNat_natCast] at g2 g3 p2 ⊢
  have e3 : bF (k : Int) m = true := decide_eq_true (by omega)
  have e4 : pkC rows (k : Int) = true := by unfold pkC; rw [decide_eq_true (by simp only [Int.toNat_natCast]; omega)]; rfl
  have s1 : sbB (a : Int) ((a + N k : Nat) : Int) v = true := decide_eq_true (by simp only [Int.toNat_natCast]; omega)
  have s2 : sbB ((a + N k : Nat) : Int) ((a + (sP rows k).length : Nat) : Int) v = true := decide_eq_true (by simp only [Int.toNat_natCast]; omega)
  have s3 : sbB ((a + N k : Nat) : Int) ((a + (sP rows k).length : Nat) : Int) w = true := decide_eq_true (by simp only [Int.toNat_natCast]; omega)
  have s4 : slB ((N k : Nat) : Int) (sP rows k) = true := decide_eq_true ⟨by omega, by simp only [Int.toNat_natCast]; exact g1⟩
  have t1 : sbS (a : Int) ((a + N k : Nat) : Int) v = loS ((N k : Nat) : Int) (sP rows k) := by
    unfold sbS; simp only [Int.toNat_natCast]; rw [Nat.add_sub_cancel_left, g2]; rfl
  have t2 : sbS ((a + N k : Nat) : Int) ((a + (sP rows k).length : Nat) : Int) v = sbS ((a + N k : Nat) : Int) ((a + (sP rows k).length : Nat) : Int) w := by
    unfold sbS; simp only [Int.toNat_natCast]; rw [show a + (sP rows k).length - (a + N k) = (sP rows k).length - N k by omega, g3]
  rw [bcT (b := decide _) (decide_eq_true (by omega)), chks_true (by
    intro b hb
    rcases List.mem_append.1 hb with hb | hb
    · exact hc b hb
    · simp only [List.mem_cons, List.not_mem_nil, or_false] at hb
      rcases hb with rfl | rfl | rfl | rfl | rfl | rfl | rfl | rfl <;> assumption), t1, bcF (by simp), chks_true (by
    intro b hb
    simp only [List.mem_cons, List.not_mem_nil, or_false] at hb
    rcases hb with rfl | rfl <;> assumption), t2, bcF (by simp)]
theorem loopT0 {r1 : List (List CV)} {ks : List Int} {w v : List UInt8} {rows : List (List CV)} {m : Nat} (hm : rows.length = m) (h : Torn rows (fun _ => 0) w v) :
    Tri Try.prog (.loop loopT1) (sT0 r1 ks w v rows m 0).toA (.exit 0) (sTx r1 ks none).toA 2 := by
  refine loop_rounds (ent_sound (T := []) .nil host nolv_ok (NF := 64) (m := 1) 20) (NF := 64) (m := 1) loops_none (fun n => hasN [9, 11, 15, 16, 18, 19] n) (fun n => hasN [8, 9] n) (ι := { j : Nat // j ≤ m })
    (fun j => sT0 r1 ks w v rows m (j.1 : Int)) (fun j => m - j.1) (fun _ => (.exit 0, sTx r1 ks none)) ?_ (fun _ => by simp) ⟨0, Nat.zero_le _⟩
  rintro ⟨j, hj⟩
  by_cases hk : j < m
  · refine .inl ⟨⟨j + 1, hk⟩, by simp only; omega, rfl, ?_⟩
    refine (rT0 r1 ks w v rows m j).trans ?_
    have hr := roundT_ok (α := Ex × PState) h hm hk (c := []) (by simp) (some (.ret, sTx r1 ks (some (.bool false)))) (some (.normal, sT0 r1 ks w v rows m (iN j))) (some (.exit 0, sTx r1 ks none))
    refine hr.trans ?_
    rw [iN_nat (by have := h.2.2.2.1; omega)]
  · refine .inr ((rT0 r1 ks w v rows m j).trans ?_)
    unfold roundT
    rw [bcF (b := decide _) (decide_eq_false (by omega))]
theorem loopTo {r1 : List (List CV)} {ks : List Int} {w v : List UInt8} {rows : List (List CV)} {m : Nat} {kept : List Int} (hm : rows.length = m) (hkl : kept.length ≤ 1000) (h : Torn rows (fun k => nT k (sP rows k).length kept 0) w v) :
    Tri Try.prog (.loop loopT1) (sTo r1 ks w v rows m kept kept.length 0).toA (.exit 0) (sTx r1 ks none).toA 2 := by
  refine loop_rounds (ent_sound (T := []) .nil host nolv_ok (NF := 64) (m := 1) 20) (NF := 64) (m := 1) (lvT_ok r1 ks w v rows m kept kept.length 2) (fun n => hasN [9, 11, 15, 16, 18, 19] n) (fun n => hasN [8, 9] n) (ι := { j : Nat // j ≤ m })
    (fun j => sTo r1 ks w v rows m kept kept.length (j.1 : Int)) (fun j => m - j.1) (fun _ => (.exit 0, sTx r1 ks none)) ?_ (fun _ => by simp) ⟨0, Nat.zero_le _⟩
  rintro ⟨j, hj⟩
  by_cases hk : j < m
  · refine .inl ⟨⟨j + 1, hk⟩, by simp only; omega, rfl, ?_⟩
    refine (rTo r1 ks w v rows m kept kept.length j).trans ?_
    obtain ⟨p1, p2⟩ := rowsB_at h.2.2.1 (j := j) (by omega)
    have p2 : (fP rows j).toNat + (sP rows j).length ≤ 320 := p2
    have hr := roundT_ok (α := Ex × PState) h hm hk (c := [eqSt (sTn r1 ks w v rows m kept kept.length j 0 0) (sTn r1 ks w v rows m kept kept.length j 0 0), okT rows m kept.length kept j]) (by
      intro b hb
      simp only [List.mem_cons, List.not_mem_nil, or_false] at hb
      rcases hb with rfl | rfl
      · exact eqSt_refl _
      · have := h.2.2.2.1
        exact decide_eq_true (by omega)) (some (.ret, sTx r1 ks (some (.bool false)))) (some (.normal, sTo r1 ks w v rows m kept kept.length (iN j))) (some (.exit 0, sTx r1 ks none))
    refine hr.trans ?_
    rw [iN_nat (by have := h.2.2.2.1; omega)]
  · refine .inr ((rTo r1 ks w v rows m kept kept.length j).trans ?_)
    unfold roundT
    rw [bcF (b := decide _) (decide_eq_false (by omega))]
end Go.Proofs.Ytoekeplljjaehaa

/- Layer 26: pieces that are torn: the law, evaluated. -/
set_option linter.unusedVariables false
set_option linter.unusedSimpArgs false
namespace Go.Proofs.Ytoekeplljjaehaa
open Go Sx
/-- Writes of nothing; of some bytes; within the disk. -/
def eWrN : Ent := onDisk (fun vs => .fail)
  (fun n k t vs => match vs with | [.int .i64 a, .str s] => .chk (i64B a) (.chk (inD n a s.length) (.chk s.isEmpty (.ret (.int .i64 0) (dk0 n k t)))) | _ => .fail)
  (fun n k t rows m vs => .fail)
def eWrV : Ent := onDisk (fun vs => .fail)
  (fun n k t vs => match vs with | [.int .i64 a, .str s] => .chk (i64B a) (.chk (inD n a s.length) (.chk (!s.isEmpty) (.ret (.int .i64 0) (dk1 n k (splice a.toNat s t) ((parts a.toNat s).map rowOf) (parts a.toNat s).length)))) | _ => .fail)
  (fun n k t rows m vs => .fail)
theorem eWrN_ok : EntOK Try.prog 25 eWrN := fun args pre => by
  refine of_run (eWrite_ok args pre) fun r hr => ?_
  unfold eWrN onDisk at hr
  unfold eWrite onDisk
  split at hr
  · cases hr
  · obtain ⟨c1, hr⟩ := chk_run hr
    obtain ⟨c2, hr⟩ := chk_run hr
    simp only [Ans.run, Ans.chk] at hr ⊢
    rw [bcT c1, bcT c2]
    split at hr
    · obtain ⟨c3, hr⟩ := chk_run hr
      obtain ⟨c4, hr⟩ := chk_run hr
      obtain ⟨c5, hr⟩ := chk_run hr
      unfold rW0
      simp only [Ans.run]
      rw [bcT c3, bcT c4, bcT c5]; exact hr
    · cases hr
  · obtain ⟨_, hr⟩ := chk_run hr
    obtain ⟨_, hr⟩ := chk_run hr
    obtain ⟨_, hr⟩ := chk_run hr
    obtain ⟨_, hr⟩ := chk_run hr
    cases hr
  · cases hr
theorem eWrV_ok : EntOK Try.prog 25 eWrV := fun args pre => by
  refine of_run (eWrite_ok args pre) fun r hr => ?_
  unfold eWrV onDisk at hr
  unfold eWrite onDisk
  split at hr
  · cases hr
  · obtain ⟨c1, hr⟩ := chk_run hr
    obtain ⟨c2, hr⟩ := chk_run hr
    simp only [Ans.run, Ans.chk] at hr ⊢
    rw [bcT c1, bcT c2]
    split at hr
    · obtain ⟨c3, hr⟩ := chk_run hr
      obtain ⟨c4, hr⟩ := chk_run hr
      obtain ⟨c5, hr⟩ := chk_run hr
      unfold rW0
      simp only [Ans.run]
      rw [bcT c3, bcT c4, bcF ((Bool.not_eq_true' _).mp c5)]; exact hr
    · cases hr
  · obtain ⟨_, hr⟩ := chk_run hr
    obtain ⟨_, hr⟩ := chk_run hr
    obtain ⟨_, hr⟩ := chk_run hr
    obtain ⟨_, hr⟩ := chk_run hr
    cases hr
  · cases hr
def tTo (ew ep ek : Ent) : Tab := [(21, eCrashV), (13, eReadI), (20, eFilled), (22, ek), (26, ep), (25, ew), (23, ePick), (10, eTrue)]
theorem tTo_ok {ew ep ek : Ent} (h1 : EntOK Try.prog 25 ew) (h2 : EntOK Try.prog 26 ep) (h3 : EntOK Try.prog 22 ek) : TabOK Try.prog (tTo ew ep ek) := .cons eCrashV_ok (.cons eReadI_ok (.cons eFilled_ok (.cons h3 (.cons h2 (.cons h1 (.cons ePick_ok (.cons awake_ok .nil)))))))
noncomputable def eT0L (r1 : List (List CV)) (ks : List Int) (w v : List UInt8) (rows : List (List CV)) (m : Nat) : Nat → PState → LAns := fun K st =>
  .chk (Nat.beq K 2) (.chk (eqSt st (sT0 r1 ks w v rows m 0)) (.chk (clB (rows.length = m ∧ Torn rows (fun _ => 0) w v)) (.out (.exit 0) (sTx r1 ks none))))
noncomputable def eToL (r1 : List (List CV)) (ks : List Int) (w v : List UInt8) (rows : List (List CV)) (m : Nat) (kept : List Int) (kl : Nat) : Nat → PState → LAns := fun K st =>
  .chk (Nat.beq K 2) (.chk (eqSt st (sTo r1 ks w v rows m kept kl 0)) (.chk (clB (rows.length = m ∧ kept.length = kl ∧ kept.length ≤ 1000 ∧ Torn rows (fun k => nT k (sP rows k).length kept 0) w v)) (.out (.exit 0) (sTx r1 ks none))))
theorem eT0L_ok (r1 : List (List CV)) (ks : List Int) (w v : List UInt8) (rows : List (List CV)) (m : Nat) (K : Nat) (st : PState) : LAnsOK Try.prog loopT1 K st (eT0L r1 ks w v rows m K st) := by
  unfold eT0L
  refine ⟨fun g1 => ⟨fun g2 => ⟨fun g3 => ?_, fun _ => trivial⟩, fun _ => trivial⟩, fun _ => trivial⟩
  obtain rfl := beqT.1 g1
  obtain rfl := eqSt_of g2
  obtain ⟨h1, h2⟩ := clB_of g3
  exact loopT0 h1 h2
theorem eToL_ok (r1 : List (List CV)) (ks : List Int) (w v : List UInt8) (rows : List (List CV)) (m : Nat) (kept : List Int) (kl : Nat) (K : Nat) (st : PState) : LAnsOK Try.prog loopT1 K st (eToL r1 ks w v rows m kept kl K st) := by
  unfold eToL
  refine ⟨fun g1 => ⟨fun g2 => ⟨fun g3 => ?_, fun _ => trivial⟩, fun _ => trivial⟩, fun _ => trivial⟩
  obtain rfl := beqT.1 g1
  obtain rfl := eqSt_of g2
  obtain ⟨h1, rfl, h3, h2⟩ := clB_of g3
  exact loopTo h1 h3 h2
noncomputable def lvTE (r1 : List (List CV)) (ks : List Int) (w v : List UInt8) (rows : List (List CV)) (m : Nat) : FuncId → Lv := fun f => match f with
  | 7 => { keep := fun i => match i with | 14 => some [9, 11, 15, 16, 18, 19] | _ => none, ent := fun i => match i with | 14 => some (eT0L r1 ks w v rows m) | _ => none }
  | _ => {}
noncomputable def lvTV (r1 : List (List CV)) (ks : List Int) (w v : List UInt8) (rows : List (List CV)) (m : Nat) (kept : List Int) (kl : Nat) : FuncId → Lv := fun f => match f with
  | 7 => { keep := fun i => match i with | 14 => some [9, 11, 15, 16, 18, 19] | 18 => some [9, 11, 15, 16, 18, 19, 20, 21] | _ => none, ent := fun i => match i with | 14 => some (eToL r1 ks w v rows m kept kl) | 18 => some (eTnL r1 ks w v rows m kept kl) | _ => none }
  | _ => {}
theorem loopsT : loopBodies (bodyOf Try.f7) = [loopT1, loopT2] := by kernel_rfl
theorem headT1 : headReg loopT1 = some 14 := by kernel_rfl
theorem headT2 : headReg loopT2 = some 18 := by kernel_rfl
theorem lvTE_ok (r1 : List (List CV)) (ks : List Int) (w v : List UInt8) (rows : List (List CV)) (m : Nat) : LvOK Try.prog (lvTE r1 ks w v rows m) := by
  intro f fn body hf hb K x hx id e hid he st
  by_cases h : f = 7
  · subst h
    obtain rfl : fn = Try.f7 := (Option.some.inj (Try.func7.symm.trans hf)).symm
    have hbody : body = bodyOf Try.f7 := by unfold bodyOf; rw [hb]; rfl
    subst hbody
    rw [loopsT] at hx
    rcases List.mem_cons.1 hx with hx' | hx'
    · rw [hx', headT1] at hid
      obtain rfl := (Option.some.inj hid).symm
      have he' : eT0L r1 ks w v rows m = e := Option.some.inj he
      subst he'
      rw [hx']
      exact eT0L_ok r1 ks w v rows m K st
    · have hx' := List.mem_singleton.1 hx'
      rw [hx', headT2] at hid
      obtain rfl := (Option.some.inj hid).symm
      cases he
  · exfalso
    have : (lvTE r1 ks w v rows m f).ent id = none := by
      unfold lvTE
      split
      · exact absurd rfl h
      · rfl
    rw [this] at he; cases he
theorem lvTV_ok (r1 : List (List CV)) (ks : List Int) (w v : List UInt8) (rows : List (List CV)) (m : Nat) (kept : List Int) (kl : Nat) : LvOK Try.prog (lvTV r1 ks w v rows m kept kl) := by
  intro f fn body hf hb K x hx id e hid he st
  by_cases h : f = 7
  · subst h
    obtain rfl : fn = Try.f7 := (Option.some.inj (Try.func7.symm.trans hf)).symm
    have hbody : body = bodyOf Try.f7 := by unfold bodyOf; rw [hb]; rfl
    subst hbody
    rw [loopsT] at hx
    rcases List.mem_cons.1 hx with hx' | hx'
    · rw [hx', headT1] at hid
      obtain rfl := (Option.some.inj hid).symm
      have he' : eToL r1 ks w v rows m kept kl = e := Option.some.inj he
      subst he'
      rw [hx']
      exact eToL_ok r1 ks w v rows m kept kl K st
    · have hx' := List.mem_singleton.1 hx'
      rw [hx', headT2] at hid
      obtain rfl := (Option.some.inj hid).symm
      have he' : eTnL r1 ks w v rows m kept kl = e := Option.some.inj he
      subst he'
      rw [hx']
      exact eTnL_ok r1 ks w v rows m kept kl K st
  · exfalso
    have : (lvTV r1 ks w v rows m kept kl f).ent id = none := by
      unfold lvTV
      split
      · exact absurd rfl h
      · rfl
    rw [this] at he; cases he
def pT2 (r1 : List (List CV)) (ks : List Int) : List PObj := [fr r1, .flatI false ks]
def endT (r1 : List (List CV)) (ks : List Int) (k' : List UInt8) (c : List Bool) : Ans :=
  .chk (smN 320 k' k') (.br (((allS k').length : Int) != 320) (.ret (.bool false) (pT2 r1 ks)) (.br (((allS (sT1 r1)).length : Int) != 320) (.ret (.bool false) (pT2 r1 ks)) (ansChks (.ret (.bool true) (pT2 r1 ks)) c)))
def askT (l1 : Nat) (r1 : List (List CV)) (at_ : Int) (s : List UInt8) (e1 e2 : Bool) : List Bool :=
  [okA l1 r1, smN 320 (sT1 r1) (sT1 r1), i64B at_, slB (minL (pkI at_ 320) s) s, smN 320 (sT1 r1) (sT1 r1), i64B (pkI at_ 320), inD 320 (pkI at_ 320) (tS at_ s).length, e1, inD 320 (pkI at_ 320) (tS at_ s).length, e2]
def pTs (at_ : Int) (s : List UInt8) : List (Nat × List UInt8) := parts (pkI at_ 320).toNat (tS at_ s)
def xT0 (l1 : Nat) (r1 : List (List CV)) (ks : List Int) (at_ : Int) (s : List UInt8) : Ans :=
  ansChks (endT r1 ks (sT1 r1) []) (askT l1 r1 at_ s (tS at_ s).isEmpty (pTs at_ s).isEmpty ++ [smN 320 (sT1 r1) (sT1 r1)])
noncomputable def xTE (l1 lk : Nat) (r1 : List (List CV)) (ks : List Int) (at_ : Int) (s : List UInt8) : Ans :=
  ansChks (endT r1 ks (sT1 r1) [eqSt (sT0 r1 ks (allS (sT1 r1)) (allS (sT1 r1)) ((pTs at_ s).map rowOf) (pTs at_ s).length 0) (sT0 r1 ks (allS (sT1 r1)) (allS (sT1 r1)) ((pTs at_ s).map rowOf) (pTs at_ s).length 0), clB (((pTs at_ s).map rowOf).length = (pTs at_ s).length ∧ Torn ((pTs at_ s).map rowOf) (fun _ => 0) (allS (sT1 r1)) (allS (sT1 r1)))])
    (askT l1 r1 at_ s (!(tS at_ s).isEmpty) (!(pTs at_ s).isEmpty) ++ [askKp ks lk (pTs at_ s).length, (keepS (pTs at_ s).length ks).isEmpty, smN 320 (sT1 r1) (splice (pkI at_ 320).toNat (tS at_ s) (sT1 r1)), vB ((pTs at_ s).map rowOf) (pTs at_ s).length])
def kT (r1 : List (List CV)) (ks : List Int) (at_ : Int) (s : List UInt8) : List UInt8 := layAll ((pTs at_ s).map rowOf) (keepS (pTs at_ s).length ks) (sT1 r1)
noncomputable def xTV (l1 lk : Nat) (r1 : List (List CV)) (ks : List Int) (at_ : Int) (s : List UInt8) : Ans :=
  ansChks (endT r1 ks (kT r1 ks at_ s) [eqSt (sTo r1 ks (allS (sT1 r1)) (allS (kT r1 ks at_ s)) ((pTs at_ s).map rowOf) (pTs at_ s).length (keepS (pTs at_ s).length ks) (keepS (pTs at_ s).length ks).length 0) (sTo r1 ks (allS (sT1 r1)) (allS (kT r1 ks at_ s)) ((pTs at_ s).map rowOf) (pTs at_ s).length (keepS (pTs at_ s).length ks) (keepS (pTs at_ s).length ks).length 0),
      clB (((pTs at_ s).map rowOf).length = (pTs at_ s).length ∧ (keepS (pTs at_ s).length ks).length = (keepS (pTs at_ s).length ks).length ∧ (keepS (pTs at_ s).length ks).length ≤ 1000 ∧ Torn ((pTs at_ s).map rowOf) (fun k => nT k (sP ((pTs at_ s).map rowOf) k).length (keepS (pTs at_ s).length ks) 0) (allS (sT1 r1)) (allS (kT r1 ks at_ s)))])
    (askT l1 r1 at_ s (!(tS at_ s).isEmpty) (!(pTs at_ s).isEmpty) ++ [askKp ks lk (pTs at_ s).length, !(keepS (pTs at_ s).length ks).isEmpty, askC (keepS (pTs at_ s).length ks) (keepS (pTs at_ s).length ks).length 320 320 320 320 (pTs at_ s).length (sT1 r1) (splice (pkI at_ 320).toNat (tS at_ s) (sT1 r1)) ((pTs at_ s).map rowOf), okK (pTs at_ s).length (tk (pTs at_ s).length) (keepS (pTs at_ s).length ks), rowsB 320 ((pTs at_ s).map rowOf)])
end Go.Proofs.Ytoekeplljjaehaa
