import Derived.Test.YtphhepnldndbhaaGreatDoorGr03
set_option linter.unusedVariables false
set_option linter.unusedSimpArgs false
namespace Go.Proofs.YtphhepnldndbhaaGreatDoor.Sx
open Go
variable {P : Program}
def AltOK (P : Program) (o : Op) (vals : List AV) (mem : List (Option PObj)) : Alt → Prop
  | .ok chk h upd new => chk = true → h.call = none ∧ ∀ F cs r, foot h o vals = some F → objs (memA mem) F.rd = some cs → act P h o vals cs = some r → AllP r.obl ∧ (F.ws ≠ [] → r.upd = upd.map PObj.toA) ∧ r.new = new.map PObj.toA
  | .br b x y => (b = true → AltOK P o vals mem x) ∧ (b = false → AltOK P o vals mem y)
theorem memA_get (m : List (Option PObj)) (n : Nat) : (memA m)[n]? = (m[n]?).map (Option.map PObj.toA) := by simp [memA]
theorem qxv {m : List (Option PObj)} {n : Nat} {cs : List AObj} {p : PObj} (h : objs (memA m) [n] = some cs) (hp : lookP m n = some p) : cs = [p.toA] := by
  simp only [objs] at h
  simp only [lookP, Option.join_eq_some_iff] at hp
  rw [memA_get, hp] at h
  simpa using h.symm
theorem beqT {a b : Nat} : Nat.beq a b = true ↔ a = b := ⟨Nat.eq_of_beq_eq_true, fun e => by rw [e]; exact Nat.beq_refl b⟩
theorem bleT {a b : Nat} : Nat.ble a b = true ↔ a ≤ b := by rw [Nat.ble_eq]
theorem bltT {a b : Nat} : Nat.blt a b = true ↔ a < b := by rw [Nat.blt_eq]
theorem okP_eq {c : Bool} {a : Alt} (h : okP c = some a) : a = .ok c {} [] [] := by simpa [okP] using h.symm
theorem rowA_length (sh : List CK) (r : List CV) : (rowA sh r).length = sh.length := by simp [rowA]
theorem rowsA_length (sh : List CK) : ∀ rows : List (List CV), (rowsA sh rows).length = rows.length * sh.length
  | [] => by simp [rowsA]
  | r :: rows => by
    have := rowsA_length sh rows
    simp only [rowsA] at this ⊢
    rw [List.flatMap_cons, List.length_append, this, rowA_length, List.length_cons, Nat.add_mul]; omega
theorem rowsA_drop (sh : List CK) : ∀ (rows : List (List CV)) (i : Nat), (rowsA sh rows).drop (i * sh.length) = rowsA sh (rows.drop i)
  | rows, 0 => by simp
  | [], i + 1 => by simp [rowsA]
  | r :: rows, i + 1 => by
    have := rowsA_drop sh rows i
    simp only [rowsA] at this ⊢
    rw [List.flatMap_cons, Nat.add_mul, Nat.one_mul, Nat.add_comm, ← List.drop_drop, List.drop_append_of_le_length (by rw [rowA_length]; omega)]
    rw [show List.drop sh.length (rowA sh r) = [] by simp [rowA_length], List.nil_append, this]; rfl
theorem rowsA_take (sh : List CK) : ∀ (rows : List (List CV)) (i : Nat), (rowsA sh rows).take (i * sh.length) = rowsA sh (rows.take i)
  | rows, 0 => by simp [rowsA]
  | [], i + 1 => by simp [rowsA]
  | r :: rows, i + 1 => by
    have := rowsA_take sh rows i
    simp only [rowsA] at this ⊢
    rw [List.flatMap_cons, List.take_succ_cons, List.flatMap_cons, ← this, Nat.add_mul, Nat.one_mul, Nat.add_comm, List.take_append]
    rw [rowA_length, Nat.add_sub_cancel_left, List.take_of_length_le (by rw [rowA_length]; omega)]
theorem rowsA_append (sh : List CK) (a b : List (List CV)) : rowsA sh (a ++ b) = rowsA sh a ++ rowsA sh b := by simp [rowsA]
theorem rowsA_part {sh : List CK} {rows : List (List CV)} {i j n : Nat} (hi : i < rows.length) (hj : j + n ≤ sh.length) : ((rowsA sh rows).drop (i * sh.length + j)).take n = ((rowA sh (rowAt rows i)).drop j).take n := by
  rw [← List.drop_drop, rowsA_drop, List.drop_eq_getElem_cons hi]
  have e : rowAt rows i = rows[i] := by simp [rowAt, hi]
  rw [e]
  simp only [rowsA, List.flatMap_cons]
  rw [List.drop_append_of_le_length (by rw [rowA_length]; omega), List.take_append_of_le_length (by simp [rowA_length]; omega)]
theorem rowA_get {sh : List CK} {r : List CV} {j : Nat} (hj : j < sh.length) : (rowA sh r)[j]? = some (cellA (sh.getD j .any) (rowCV r j)) := by
  simp [rowA, hj]
theorem rowsA_get {sh : List CK} {rows : List (List CV)} {i j : Nat} (hi : i < rows.length) (hj : j < sh.length) : (rowsA sh rows)[i * sh.length + j]? = some (cellA (sh.getD j .any) (rowCV (rowAt rows i) j)) := by
  have := rowsA_part (n := 1) hi (show j + 1 ≤ sh.length by omega)
  rw [← rowA_get hj]
  have h1 := congrArg (·[0]?) this
  simpa using h1
theorem cvOf_sound {k : CK} {a : AV} {c : CV} (h : cvOf k a = some c) : cellA k c = a := by
  unfold cvOf at h
  split at h
  · split at h
    · rename_i hk; have := eq_of_beq hk; subst this; cases h; rfl
    · cases h
  · cases h; rfl
  · cases h; rfl
  · cases h; rfl
  · cases h
theorem rowA_cons (k : CK) (sh : List CK) (c : CV) (r : List CV) : rowA (k :: sh) (c :: r) = cellA k c :: rowA sh r := by
  simp [rowA, List.range_succ_eq_map, List.map_map, Function.comp_def, rowCV]
theorem rowOf_sound : ∀ (sh : List CK) (cs : List AV) (r : List CV), rowOf sh cs = some r → rowA sh r = cs
  | [], [], r, h => by simp [rowOf] at h; subst h; rfl
  | [], _ :: _, r, h => by simp [rowOf] at h
  | _ :: _, [], r, h => by simp [rowOf] at h
  | k :: sh, a :: cs, r, h => by
    simp only [rowOf] at h
    split at h
    · rename_i c r' h1 h2
      cases h
      rw [rowA_cons, cvOf_sound h1, rowOf_sound sh cs r' h2]
    · cases h
theorem rowsOf_sound {sh : List CK} : ∀ (n : Nat) (cs : List AV) (rows : List (List CV)), rowsOf sh n cs = some rows → rowsA sh rows = cs ∧ rows.length = n
  | 0, [], rows, h => by simp [rowsOf] at h; subst h; exact ⟨rfl, rfl⟩
  | 0, _ :: _, rows, h => by simp [rowsOf] at h
  | n + 1, cs, rows, h => by
    simp only [rowsOf] at h
    split at h
    · rename_i r rs h1 h2
      cases h
      obtain ⟨g1, g2⟩ := rowsOf_sound n _ rs h2
      have g3 := rowOf_sound _ _ _ h1
      refine ⟨?_, by simp [g2]⟩
      simp only [rowsA, List.flatMap_cons] at g1 ⊢
      rw [g1, g3, List.take_append_drop]
    · cases h
theorem bools_get {l : List Bool} {i : Nat} (h : i < l.length) : (l.map AV.bool)[i]? = some (.bool (l.getD i false)) := by
  simp [List.getElem?_eq_getElem h]
theorem fillB_sound {place : Nat → Option (Nat × Nat)} : ∀ (ps : List (Nat × AV)) (cs : List AV) (ob : List Prop) (c : List AV), fillA place cs ps = some (ob, c) → fillB place cs.length ps = true → AllP ob ∧ c.length = cs.length
  | [], cs, ob, c, h, _ => by simp [fillA] at h; obtain ⟨rfl, rfl⟩ := h; exact ⟨trivial, rfl⟩
  | (i, v) :: ps, cs, ob, c, h, hb => by
    simp only [fillA] at h
    split at h
    · cases h
    · rename_i off size hp
      split at h
      · rename_i o c' hf
        cases h
        simp only [fillB, hp, Bool.and_eq_true, beqT, bleT] at hb
        obtain ⟨⟨h1, h2⟩, h3⟩ := hb
        have hl : (cs.take off ++ v.cells ++ cs.drop (off + size)).length = cs.length := by simp; omega
        rw [← hl] at h3
        obtain ⟨k1, k2⟩ := fillB_sound ps _ _ _ hf h3
        exact ⟨⟨h1, h2, k1⟩, k2.trans hl⟩
      · cases h
theorem build_sound {t : TypeId} {parts : List (Nat × AV)} {ob : List Prop} {c : List AV} (h : buildA P t parts = some (ob, c)) (hb : buildB P t parts = true) : AllP ob := by
  unfold buildA at h
  unfold buildB at hb
  split at h
  · rename_i fs z hu hz
    split at h
    · rw [hu, hz] at hb; exact (fillB_sound _ _ _ _ h hb).1
    · cases h
  · rename_i n e z hu hz
    split at h
    · rw [hu, hz] at hb; exact (fillB_sound _ _ _ _ h hb).1
    · cases h
  · cases h
theorem binP_sound {op : BinOp} {t : TypeId} {x y : AV} {ob : List Prop} {v : AV} (h : binA P op t x y = some (ob, v)) (hb : binP op x y = true) : AllP ob := by
  unfold binA at h
  split at h
  · cases h; simp [binP] at hb; exact ⟨hb, trivial⟩
  · cases h; simp [binP] at hb; exact ⟨hb, trivial⟩
  · split at h
    · cases op <;> simp [intBin] at h <;> obtain ⟨rfl, _⟩ := h <;> first | trivial | (simp [binP] at hb; exact ⟨hb, trivial⟩)
    · cases h
  · cases op <;> simp [strBin] at h <;> obtain ⟨rfl, _⟩ := h <;> first | trivial | (simp [binP] at hb; exact ⟨hb, trivial⟩)
  · split at h
    · cases h; trivial
    · cases h
  · split at h
    · cases h; trivial
    · cases h
  · split at h
    · cases h
    · simp only [Option.map_eq_some_iff, Prod.mk.injEq] at h; obtain ⟨r, _, rfl, _⟩ := h; trivial
  · split at h
    · cases h
    · simp only [Option.map_eq_some_iff, Prod.mk.injEq] at h; obtain ⟨r, _, rfl, _⟩ := h; trivial
  · split at h
    · split at h
      · simp only [Option.map_eq_some_iff, Prod.mk.injEq] at h; obtain ⟨r, _, rfl, _⟩ := h; trivial
      · cases h
    · cases h
  · split at h
    · split at h
      · simp only [Option.map_eq_some_iff, Prod.mk.injEq] at h; obtain ⟨r, _, rfl, _⟩ := h; trivial
      · cases h
    · cases h
  · cases h
theorem unA_obl {op : UnOp} {x : AV} {ob : List Prop} {v : AV} (h : unA op x = some (ob, v)) : ob = [] := by
  unfold unA at h
  split at h <;> first | (cases h; rfl) | cases h
theorem convA_obl {src dst : TypeId} {x : AV} {ob : List Prop} {v : AV} (h : convA P src dst x = some (ob, v)) : ob = [] := by
  unfold convA at h
  split at h <;> first | (cases h; rfl) | cases h
theorem ok1_spec {h : Hint} {q : Option (List Prop × AV)} {r : Res} (e : ok1 h q = some r) : ∃ ob v, q = some (ob, v) ∧ r = fin h ob v := by
  simp only [ok1, Option.map_eq_some_iff] at e; obtain ⟨⟨ob, v⟩, h1, h2⟩ := e; exact ⟨ob, v, h1, h2.symm⟩
theorem bnd_sound {d n : Nat} {lo : Option Operand} {vs rest : List AV} {ob : List Prop} (h : boundA d lo vs = some (ob, n, rest)) (hb : bndB lo vs = true) : AllP ob := by
  unfold boundA at h
  split at h
  · cases h; trivial
  · cases h; simp [bndB] at hb; exact ⟨hb, trivial⟩
  · cases h
theorem bounds_sound {len cap : Nat} {lo hi mx : Option Operand} {vs : List AV} {ob : List Prop} {l u m : Nat} (h : boundsA len cap lo hi mx vs = some (ob, l, u, m)) (hb : boundsB len cap lo hi mx vs = true) : AllP ob := by
  unfold boundsA at h
  unfold boundsB at hb
  split at h
  · rename_i o1 l1 vs1 h1
    rw [h1] at hb
    simp only at hb
    split at h
    · rename_i o2 u1 vs2 h2
      rw [h2] at hb
      simp only at hb
      split at h
      · rename_i o3 m1 h3
        rw [h3] at hb
        simp only [Bool.and_eq_true, decide_eq_true_eq] at hb
        obtain ⟨⟨⟨b1, b2⟩, b3⟩, b4, b5, b6⟩ := hb
        cases h
        exact qzu.2 ⟨qzu.2 ⟨qzu.2 ⟨bnd_sound h1 b1, bnd_sound h2 b2⟩, bnd_sound h3 b3⟩, b4, b5, b6, trivial⟩
      · cases h
    · cases h
  · cases h
theorem strSlice_sound {n : Nat} {lo hi : Option Operand} {vs : List AV} {ob : List Prop} {l u m : Nat} (h : boundsA n n lo hi none vs = some (ob, l, u, m)) (hb : strSliceB n lo hi vs = true) : AllP ob := by
  refine bounds_sound h ?_
  unfold strSliceB at hb
  split at hb
  · simp [boundsB, boundA, bndB]
  · simp at hb; simp [boundsB, boundA, bndB]; omega
  · simp at hb; simp [boundsB, boundA, bndB]; omega
  · simp at hb; simp [boundsB, boundA, bndB]; omega
  · cases hb
theorem sliceP_sound {t : TypeId} {x0 : Operand} {lo hi mx : Option Operand} {x : AV} {vs : List AV} {mem : List (Option PObj)} {a : Alt} (h : sliceP P t lo hi mx x vs mem = some a) : AltOK P (.slice t x0 lo hi mx) (x :: vs) mem a := by
  unfold sliceP at h
  split at h
  · rename_i s hu
    split at h
    · rename_i hm
      have hm : mx = none := by simpa using hm
      subst hm
      rw [okP_eq h]
      intro hc
      refine ⟨rfl, fun F cs r hf hcs hr => ?_⟩
      simp only [act] at hr
      split at hr
      · cases hr
      · cases cs with
        | cons c cs => simp [sliceA, hu] at hr
        | nil =>
          simp only [sliceA, hu] at hr
          split at hr
          · rename_i ob l u m hb
            cases hr
            exact ⟨by simp only [fin]; exact strSlice_sound hb hc, fun _ => rfl, rfl⟩
          · cases hr
    · cases h
  · rename_i n e nm off hu
    rw [okP_eq h]
    intro hc
    refine ⟨rfl, fun F cs r hf hcs hr => ?_⟩
    simp only [act] at hr
    split at hr
    · cases hr
    · cases cs with
      | cons c cs => simp [sliceA, hu] at hr
      | nil =>
        simp only [sliceA, hu] at hr
        split at hr
        · cases hr
        · split at hr
          · rename_i ob l u m hb
            cases hr
            exact ⟨by simp only [fin]; exact bounds_sound hb hc, fun _ => rfl, rfl⟩
          · cases hr
  · rename_i e nm off len cap hu
    rw [okP_eq h]
    intro hc
    refine ⟨rfl, fun F cs r hf hcs hr => ?_⟩
    simp only [act] at hr
    split at hr
    · cases hr
    · cases cs with
      | cons c cs => simp [sliceA, hu] at hr
      | nil =>
        simp only [sliceA, hu] at hr
        split at hr
        · cases hr
        · split at hr
          · rename_i ob l u m hb
            cases hr
            exact ⟨by simp only [fin]; exact bounds_sound hb hc, fun _ => rfl, rfl⟩
          · cases hr
  · rename_i e hu
    rw [okP_eq h]
    intro hc
    refine ⟨rfl, fun F cs r hf hcs hr => ?_⟩
    simp only [act] at hr
    split at hr
    · cases hr
    · cases cs with
      | cons c cs => simp [sliceA, hu] at hr
      | nil =>
        simp only [sliceA, hu] at hr
        split at hr
        · cases hr
        · split at hr
          · rename_i ob l u m hb
            cases hr
            exact ⟨by simp only [fin]; exact bounds_sound hb hc, fun _ => rfl, rfl⟩
          · cases hr
  · rename_i e nm len hu
    split at h
    · split at h
      · rename_i ob u rest hbd
        rw [okP_eq h]
        intro hc
        refine ⟨rfl, fun F cs r hf hcs hr => ?_⟩
        simp only [Bool.and_eq_true, decide_eq_true_eq] at hc
        simp only [foot, Option.some.injEq] at hf; subst hf
        simp only [Foot.no, objs, Option.some.injEq] at hcs; subst hcs
        simp only [act] at hr
        split at hr
        · cases hr
        · simp only [sliceA, hu] at hr
          split at hr
          · cases hr
          · simp only [hbd] at hr
            split at hr
            · rename_i hx
              cases hx
              cases hr
              exact ⟨by simp only [fin]; exact qzu.2 ⟨bnd_sound hbd hc.1, hc.2, trivial⟩, fun _ => rfl, rfl⟩
            · cases hr
      · cases h
    · rename_i p0
      split at h
      · rename_i ob l vs1 hb1
        split at h
        · rename_i ob2 u hb2
          rw [okP_eq h]
          intro hc
          refine ⟨rfl, fun F cs r hf hcs hr => ?_⟩
          simp only [foot, Option.some.injEq] at hf; subst hf
          simp only [Foot.no, objs, Option.some.injEq] at hcs; subst hcs
          simp only [Bool.and_eq_true, decide_eq_true_eq] at hc
          obtain ⟨c1, c2, c3, c4⟩ := hc
          simp only [act] at hr
          split at hr
          · cases hr
          · simp only [sliceA, hu] at hr
            split at hr
            · cases hr
            · simp only [hb1, hb2, Option.some.injEq] at hr
              cases hr
              exact ⟨by simp only [fin]; exact qzu.2 ⟨bnd_sound hb1 c1, qzu.2 ⟨bnd_sound hb2 c2, c3, c4, trivial⟩⟩, fun _ => rfl, rfl⟩
        · cases h
      · cases h
  · rename_i e nm len hu
    split at h
    rotate_left
    · rename_i p0
      split at h
      · rename_i o ob l vs1 hl hb1
        split at h
        · rename_i ob2 u hb2
          cases h
          intro hc
          refine ⟨rfl, fun F cs r hf hcs hr => ?_⟩
          simp only [foot, Option.some.injEq] at hf; subst hf
          have := qxv hcs hl
          subst this
          simp only [Bool.and_eq_true, decide_eq_true_eq] at hc
          obtain ⟨c1, c2, c3, c4⟩ := hc
          simp only [act] at hr
          split at hr
          · cases hr
          · simp only [sliceA, hu] at hr
            split at hr
            · cases hr
            · simp only [hb1, hb2, Option.some.injEq] at hr
              cases hr
              exact ⟨qzu.2 ⟨bnd_sound hb1 c1, qzu.2 ⟨bnd_sound hb2 c2, c3, c4, trivial⟩⟩, fun _ => rfl, rfl⟩
        · cases h
      · cases h
    split at h
    · rename_i o ob u rest hl hbd
      split at h
      · rename_i hsz
        have hsz := beqT.1 hsz
        cases h
        intro hc
        refine ⟨rfl, fun F cs r hf hcs hr => ?_⟩
        simp only [foot, Option.some.injEq] at hf; subst hf
        have := qxv hcs hl
        subst this
        simp only [Bool.and_eq_true, decide_eq_true_eq] at hc
        obtain ⟨c1, c2, c3⟩ := hc
        simp only [act] at hr
        split at hr
        · cases hr
        · generalize ho : o.toA = oa at hr
          have hlen : ∀ c t sz, oa = .vec c t sz → o.lenP = c.length ∧ o.sizeP = sz := fun c t sz e => by
            rw [e] at ho
            cases o <;> simp [PObj.toA] at ho
            · subst ho; exact ⟨rfl, rfl⟩
            · obtain ⟨rfl, _, rfl⟩ := ho; exact ⟨by simp [PObj.lenP, ints_length], rfl⟩
            · obtain ⟨rfl, _, rfl⟩ := ho; exact ⟨by simp [PObj.lenP, u8s_length], rfl⟩
            · obtain ⟨rfl, _, rfl⟩ := ho; exact ⟨by simp [PObj.lenP, rowsA_length], rfl⟩
          simp only [sliceA, hu] at hr
          split at hr
          · cases hr
          · split at hr
            · rename_i c t sz
              obtain ⟨l1, l2⟩ := hlen _ _ _ rfl
              split at hr
              · cases hr
              · simp only [hbd] at hr
                split at hr
                · rename_i ob' u' hx
                  cases hx
                  cases hr
                  exact ⟨qzu.2 ⟨bnd_sound hbd c1, c2, by rw [← l1]; exact c3, trivial⟩, fun _ => by simp [ho], rfl⟩
                · cases hr
            · have hh : ∀ {p : Operand}, (none : Option Operand) = some p → False := fun e => by cases e
              exact (hh (by assumption)).elim
            · cases hr
      · cases h
    · cases h
  · cases h
theorem u8s_getB {l : List UInt8} {i : Nat} (h : i < l.length) : (u8s l)[i]? = some (AV.int .u8 (byteAt l i)) := u8s_get h
theorem strsOfA_get : ∀ {cs : List AV} {l : List (List UInt8)} {i : Nat}, strsOfA cs = some l → i < l.length → cs[i]? = some (.str (l.getD i []))
  | [], l, i, h, hi => by cases h; simp at hi
  | .str s :: cs, l, i, h, hi => by
    simp only [strsOfA, Option.map_eq_some_iff] at h
    obtain ⟨l', h1, rfl⟩ := h
    cases i with
    | zero => rfl
    | succ i => simpa using strsOfA_get h1 (by simpa using hi)
theorem manyStr_get {cs : List AV} {l : List (List UInt8)} {i : Nat} (h : manyStr cs = some l) (hi : i < l.length) : cs[i]? = some (.str (l.getD i [])) := by
  unfold manyStr at h
  split at h
  · exact strsOfA_get h hi
  · cases h
theorem intsOfA_get : ∀ {cs : List AV} {l : List Int} {i : Nat}, intsOfA .i64 cs = some l → i < l.length → cs[i]? = some (.int .i64 (l.getD i 0))
  | [], l, i, h, hi => by cases h; simp at hi
  | .int k n :: cs, l, i, h, hi => by
    simp only [intsOfA] at h
    split at h
    · rename_i hk
      simp only [Option.map_eq_some_iff] at h
      obtain ⟨l', h1, rfl⟩ := h
      obtain rfl := eq_of_beq hk
      cases i with
      | zero => rfl
      | succ i => simpa using intsOfA_get h1 (by simpa using hi)
    · cases h
theorem manyInt_get {cs : List AV} {l : List Int} {i : Nat} (h : manyInt cs = some l) (hi : i < l.length) : cs[i]? = some (.int .i64 (l.getD i 0)) := by
  unfold manyInt at h
  split at h
  · exact intsOfA_get h hi
  · cases h
theorem loadP_sound {t : TypeId} {x0 : Operand} {nm off : Nat} {mem : List (Option PObj)} {a : Alt} (h : loadP P t nm off mem = some a) : AltOK P (.load t x0) [.ptr nm off] mem a := by
  unfold loadP at h
  have key : ∀ (F : Foot) (hh : Hint), foot hh (.load t x0) [.ptr nm off] = some F → F = ⟨[nm], [], []⟩ := fun F hh hf => by simpa [foot] using hf.symm
  split at h
  · rename_i d o hu hl
    split at h
    · rename_i o0 cs0 hk
      split at h
      · rename_i l hm hd
        cases h
        intro hc
        refine ⟨rfl, fun F cs r hf hcs hr => ?_⟩
        obtain rfl := key F _ hf
        have hcs' := qxv hcs hl
        subst hcs'
        simp only [act, PObj.toA, loadA, hk, hu, hd] at hr
        simp only [Bool.and_eq_true, bleT, decide_eq_true_eq] at hc
        cases hr
        exact ⟨⟨hc.1, manyStr_get hm hc.2, trivial⟩, fun e => rfl, rfl⟩
      · split at h
        · rename_i l hm hd
          cases h
          intro hc
          refine ⟨rfl, fun F cs r hf hcs hr => ?_⟩
          obtain rfl := key F _ hf
          have hcs' := qxv hcs hl
          subst hcs'
          simp only [act, PObj.toA, loadA, hk, hu, hd] at hr
          simp only [Bool.and_eq_true, bleT, decide_eq_true_eq] at hc
          cases hr
          exact ⟨⟨hc.1, manyInt_get hm hc.2, trivial⟩, fun e => rfl, rfl⟩
        · cases h
          intro hc
          refine ⟨rfl, fun F cs r hf hcs hr => ?_⟩
          obtain rfl := key F _ hf
          have hcs' := qxv hcs hl
          subst hcs'
          simp only [act, PObj.toA, loadA, hk, hu] at hr
          simp only [Bool.and_eq_true, bleT] at hc
          split at hr
          · rename_i hd
            cases hr
            simp only [hd, if_true, bleT] at hc
            exact ⟨⟨hc.1, hc.2, trivial⟩, fun e => rfl, rfl⟩
          · split at hr
            · cases hr
              exact ⟨⟨hc.1, trivial⟩, fun e => rfl, rfl⟩
            · cases hr
    · cases h
  all_goals first
    | (cases h; done)
    | (rename_i d k l e hu hl
       split at h
       · cases h
       · rename_i hd
         cases h
         intro hc
         refine ⟨rfl, fun F cs r hf hcs hr => ?_⟩
         obtain rfl := key F _ hf
         have hcs' := qxv hcs hl
         subst hcs'
         simp only [act, PObj.toA, loadA, AObj.known, hu, hd] at hr
         cases hr
         exact ⟨⟨Nat.zero_le _, ints_get (by simpa using hc), trivial⟩, fun e => rfl, rfl⟩)
    | (rename_i d l e hu hl
       split at h
       · cases h
       · rename_i hd
         cases h
         intro hc
         refine ⟨rfl, fun F cs r hf hcs hr => ?_⟩
         obtain rfl := key F _ hf
         have hcs' := qxv hcs hl
         subst hcs'
         simp only [act, PObj.toA, loadA, AObj.known, hu, hd] at hr
         cases hr
         exact ⟨⟨Nat.zero_le _, u8s_getB (by simpa using hc), trivial⟩, fun e => rfl, rfl⟩)
    | (rename_i d l e hu hl
       split at h
       · cases h
       · rename_i hd
         cases h
         intro hc
         refine ⟨rfl, fun F cs r hf hcs hr => ?_⟩
         obtain rfl := key F _ hf
         have hcs' := qxv hcs hl
         subst hcs'
         simp only [act, PObj.toA, loadA, AObj.known, hu, hd] at hr
         cases hr
         exact ⟨⟨Nat.zero_le _, bools_get (by simpa using hc), trivial⟩, fun e => rfl, rfl⟩)
theorem loadRP_sound {t : TypeId} {x0 : Operand} {nm w i j : Nat} {mem : List (Option PObj)} {a : Alt} (h : loadRP P t w i j nm mem = some a) : AltOK P (.load t x0) [.rptr nm w i j] mem a := by
  have key : ∀ (F : Foot) (hh : Hint), hh.view = 0 → foot hh (.load t x0) [.rptr nm w i j] = some F → F = ⟨[nm], [], []⟩ := fun F hh h0 hf => by simpa [foot, h0] using hf.symm
  unfold loadRP at h
  split at h
  · rename_i sh rows d hu hl
    split at h
    · rename_i q hq
      cases h
      intro hc
      refine ⟨rfl, fun F cs r hf hcs hr => ?_⟩
      have hF : F = ⟨[nm], [], [frn mem]⟩ := by simpa [foot] using hf.symm
      subst hF
      have hcs' := qxv hcs hl
      subst hcs'
      simp only [Bool.and_eq_true, decide_eq_true_eq, beqT] at hc
      simp only [act, PObj.toA, loadN, hu, hq, if_true] at hr
      split at hr
      · cases hr; exact ⟨⟨hc.1.1, hc.1.2, hc.2, trivial⟩, fun e => absurd rfl e, rfl⟩
      · cases hr
    · cases h
  · rename_i d m sh rows hu hl
    split at h
    · rename_i hd
      cases h
      intro hc
      refine ⟨rfl, fun F cs r hf hcs hr => ?_⟩
      obtain rfl := key F _ rfl hf
      have hcs' := qxv hcs hl
      subst hcs'
      simp only [Bool.and_eq_true, decide_eq_true_eq, beqT, bleT] at hc
      simp only [act, PObj.toA, loadR, aggT, hu, hd, show ((0 : Nat) = 6) = False from by simp, if_false, if_true] at hr
      split at hr
      · cases hr; exact ⟨⟨hc.1.1, hc.1.2, hc.2, trivial⟩, fun e => absurd rfl e, rfl⟩
      · cases hr
    · rename_i hd
      cases h
      intro hc
      refine ⟨rfl, fun F cs r hf hcs hr => ?_⟩
      obtain rfl := key F _ rfl hf
      have hcs' := qxv hcs hl
      subst hcs'
      simp only [Bool.and_eq_true, decide_eq_true_eq, beqT] at hc
      simp only [act, PObj.toA, loadR, aggT, hu, hd, Bool.false_eq_true, show ((0 : Nat) = 6) = False from by simp, if_false] at hr
      split at hr
      · split at hr
        · split at hr
          · cases hr
          · cases hr; exact ⟨⟨hc.1, hc.2, trivial⟩, fun e => absurd rfl e, rfl⟩
        · cases hr
      · cases hr
  · rename_i d sh rows e hu hl
    split at h
    · rename_i hd
      cases h
      intro hc
      refine ⟨rfl, fun F cs r hf hcs hr => ?_⟩
      obtain rfl := key F _ rfl hf
      have hcs' := qxv hcs hl
      subst hcs'
      simp only [Bool.and_eq_true, decide_eq_true_eq, beqT, bleT] at hc
      obtain ⟨⟨c1, rfl⟩, c3⟩ := hc
      simp only [act, PObj.toA, loadA, AObj.known, hu, hd, if_true, show ((0 : Nat) = 6) = False from by simp, if_false] at hr
      cases hr
      refine ⟨⟨Nat.zero_le _, ?_, ?_, trivial⟩, fun e => absurd rfl e, rfl⟩
      · rw [rowsA_length]
        have : (i + 1) * sh.length ≤ rows.length * sh.length := Nat.mul_le_mul_right _ c1
        rw [Nat.add_mul] at this; omega
      · rw [Nat.sub_zero]; exact rowsA_part c1 c3
    · rename_i hd
      cases h
      intro hc
      refine ⟨rfl, fun F cs r hf hcs hr => ?_⟩
      obtain rfl := key F _ rfl hf
      have hcs' := qxv hcs hl
      subst hcs'
      simp only [Bool.and_eq_true, decide_eq_true_eq, beqT, bltT] at hc
      obtain ⟨⟨c1, rfl⟩, c3⟩ := hc
      simp only [act, PObj.toA, loadA, AObj.known, hu, hd] at hr
      cases hr
      exact ⟨⟨Nat.zero_le _, by rw [Nat.sub_zero]; exact rowsA_get c1 c3, trivial⟩, fun e => absurd rfl e, rfl⟩
  · cases h
theorem loadDP_sound {t : TypeId} {x0 : Operand} {nm off : Nat} {mem : List (Option PObj)} {a : Alt} (h : loadDP P t nm off mem = some a) : AltOK P (.load t x0) [.dptr nm off] mem a := by
  unfold loadDP at h
  split at h
  · rename_i d m l hu hl
    split at h
    · cases h
    · rename_i hd
      cases h
      intro hc
      refine ⟨rfl, fun F cs r hf hcs hr => ?_⟩
      simp only [foot, Option.some.injEq] at hf; subst hf
      have hcs' := qxv hcs hl
      subst hcs'
      simp only [act, PObj.toA, AObj.knownD, loadD, hu, hd] at hr
      cases hr
      exact ⟨⟨ints_get (by simpa using hc), trivial⟩, fun e => absurd rfl e, rfl⟩
  · rename_i d m l hu hl
    split at h
    · cases h
    · rename_i hd
      cases h
      intro hc
      refine ⟨rfl, fun F cs r hf hcs hr => ?_⟩
      simp only [foot, Option.some.injEq] at hf; subst hf
      have hcs' := qxv hcs hl
      subst hcs'
      simp only [act, PObj.toA, AObj.knownD, loadD, hu, hd] at hr
      cases hr
      exact ⟨⟨u8s_getB (by simpa using hc), trivial⟩, fun e => absurd rfl e, rfl⟩
  · cases h
theorem tab_get {l : List (IntKind × Int)} {k : IntKind} (hk : tabOne k l = true) {i : Nat} (h : i < l.length) : (gcells l)[i]? = some (.int k (tabAt l i)) := by
  simp only [gcells, List.getElem?_map, List.getElem?_eq_getElem h, Option.map_some, tabAt, List.getD, Option.getD_some]
  have := List.all_eq_true.1 hk _ (List.getElem_mem h)
  have : l[i].1 = k := by simpa using this
  rw [this]
theorem strs_get {l : List (List UInt8)} {i : Nat} (h : i < l.length) : (gcellsS l)[i]? = some (.str (l.getD i [])) := by
  simp only [gcellsS, List.getElem?_map, List.getElem?_eq_getElem h, Option.map_some, List.getD, Option.getD_some]
theorem loadGC_sound {t : TypeId} {x0 : Operand} {g off : Nat} {mem : List (Option PObj)} {d : TypeDesc} {cs0 : List AV} {vs0 : List Value} {f : Nat → AV} {n : Nat} (hu : P.underlying t = some d) (hg : gAll g = some (cs0, vs0)) (hl : cs0.length = n) (hf0 : ∀ i, i < n → cs0[i]? = some (f i)) :
    AltOK P (.load t x0) [.gptr g off] mem (if isAggD d then .ok (decide (off + P.cellsOf t ≤ n)) { val := some (.agg ((List.range (P.cellsOf t)).map fun j => f (off + j))) } [] [] else .ok (decide (off < n)) { val := some (f off) } [] []) := by
  split
  · rename_i hd
    intro hc
    refine ⟨rfl, fun F cs r hf hcs hr => ?_⟩
    simp only [foot, Option.some.injEq] at hf
    subst hf
    simp only [Foot.no, objs, Option.some.injEq] at hcs
    subst hcs
    simp only [act, hg, loadA, AObj.known, hu, hd, if_true] at hr
    cases hr
    have hc : off + P.cellsOf t ≤ n := by simpa using hc
    refine ⟨⟨Nat.zero_le _, by rw [hl]; omega, ?_, trivial⟩, fun e => absurd rfl e, rfl⟩
    apply List.ext_getElem?
    intro i
    rw [List.getElem?_take, List.getElem?_drop, List.getElem?_map]
    by_cases hi : i < P.cellsOf t
    · rw [if_pos hi, Nat.sub_zero, hf0 _ (by omega), List.getElem?_range hi]; rfl
    · rw [if_neg hi, List.getElem?_eq_none (by simp; omega)]; rfl
  · rename_i hd
    intro hc
    refine ⟨rfl, fun F cs r hf hcs hr => ?_⟩
    simp only [foot, Option.some.injEq] at hf
    subst hf
    simp only [Foot.no, objs, Option.some.injEq] at hcs
    subst hcs
    simp only [act, hg, loadA, AObj.known, hu, hd] at hr
    cases hr
    have hc : off < n := by simpa using hc
    exact ⟨⟨Nat.zero_le _, hf0 _ (by simpa using hc), trivial⟩, fun e => absurd rfl e, rfl⟩
theorem loadGP_sound {t : TypeId} {x0 : Operand} {g off : Nat} {mem : List (Option PObj)} {a : Alt} (h : loadGP P t g off = some a) : AltOK P (.load t x0) [.gptr g off] mem a := by
  unfold loadGP at h
  split at h
  · rename_i d hu hg
    split at h
    · rename_i l hs
      have := loadGC_sound (x0 := x0) (off := off) (mem := mem) (f := fun i => .str (l.getD i [])) (n := l.length) hu (show gAll g = some (gcellsS l, gvalsS l) by unfold gAll; rw [hg, hs]) (by simp [gcellsS]) (fun i hi => strs_get hi)
      split at h
      · rename_i hd; cases h; rw [if_pos hd] at this; exact this
      · rename_i hd; cases h; rw [if_neg hd] at this; exact this
    · cases h
  · rename_i d l hu hg
    split at h
    · rename_i hone
      have := loadGC_sound (x0 := x0) (off := off) (mem := mem) (f := fun i => .int (tabKind l) (tabAt l i)) (n := l.length) hu (show gAll g = some (gcells l, gvals l) by unfold gAll; rw [hg]) (by simp [gcells]) (fun i hi => tab_get hone hi)
      split at h
      · rename_i hd; cases h; rw [if_pos hd] at this; exact this
      · rename_i hd; cases h; rw [if_neg hd] at this; exact this
    · cases h
  · cases h
theorem toByte_toNat {n : Int} (h : 0 ≤ n ∧ n < 256) : (((toByte n).toNat : Nat) : Int) = n := by
  simp only [toByte, UInt8.toNat_ofNat']
  omega
def News.A : News → List AV
  | .cells _ _ c => c
  | .bytes _ _ l => u8s l
  | .nums _ _ k l => ints k l
  | .rows _ _ sh l => rowsA sh l
theorem u8s_drop (l : List UInt8) (a b : Nat) : ((u8s l).drop a).take b = u8s ((l.drop a).take b) := by simp [u8s, List.map_take, List.map_drop]
theorem ints_drop (k : IntKind) (l : List Int) (a b : Nat) : ((ints k l).drop a).take b = ints k ((l.drop a).take b) := by simp [ints, List.map_take, List.map_drop]
theorem u8s_take (l : List UInt8) (b : Nat) : (u8s l).take b = u8s (l.take b) := by simp [u8s, List.map_take]
theorem ints_take (k : IntKind) (l : List Int) (b : Nat) : (ints k l).take b = ints k (l.take b) := by simp [ints, List.map_take]
theorem bytesOfA_sound : ∀ (c : List AV) (b : Bool) (l : List UInt8), bytesOfA c = some (b, l) → b = true → c = u8s l
  | [], b, l, h, _ => by simp [bytesOfA] at h; rw [h.2]; rfl
  | v :: c, b, l, h, hb => by
    unfold bytesOfA at h
    split at h
    · rename_i e; cases e
    · rename_i n cs e
      cases e
      simp only [Option.map_eq_some_iff, Prod.mk.injEq] at h
      obtain ⟨⟨b', l'⟩, h1, h2, h3⟩ := h
      subst h3
      simp only [← h2, Bool.and_eq_true, decide_eq_true_eq] at hb
      have := bytesOfA_sound _ _ _ h1 hb.2
      rw [this]
      simp only [u8s, List.map_cons]
      rw [toByte_toNat hb.1]
    · cases h
theorem intsOfA_sound {k : IntKind} : ∀ (c : List AV) (l : List Int), intsOfA k c = some l → c = ints k l
  | [], l, h => by simp [intsOfA] at h; rw [h]; rfl
  | v :: c, l, h => by
    unfold intsOfA at h
    split at h
    · rename_i e; cases e
    · rename_i k' n cs e
      cases e
      split at h
      · rename_i hk
        have hk : k' = k := by simpa using hk
        subst hk
        simp only [Option.map_eq_some_iff] at h
        obtain ⟨l', h1, rfl⟩ := h
        rw [intsOfA_sound _ _ h1]; rfl
      · cases h
    · cases h
theorem objs_append {m : List (Option AObj)} : ∀ (a b : List Nat) (cs : List AObj), objs m (a ++ b) = some cs → ∃ x y, objs m a = some x ∧ objs m b = some y ∧ cs = x ++ y
  | [], b, cs, h => ⟨[], cs, rfl, h, rfl⟩
  | n :: a, b, cs, h => by
    simp only [List.cons_append, objs] at h
    split at h
    · rename_i o os ho hos
      cases h
      obtain ⟨x, y, h1, h2, rfl⟩ := objs_append a b _ hos
      exact ⟨o :: x, y, by simp only [objs, ho, h1], h2, rfl⟩
    · cases h
theorem objs_names {m : List (Option PObj)} : ∀ (ns : List Nat) (cs : List AObj), objs (memA m) ns = some cs → cs = (ns.filterMap fun n => lookP m n).map PObj.toA
  | [], cs, h => by simpa [objs] using h.symm
  | n :: ns, cs, h => by
    simp only [objs] at h
    split at h
    · rename_i o os ho hos
      cases h
      rw [memA_get] at ho
      rw [objs_names ns _ hos]
      cases hm : m[n]? with
      | none => simp [hm] at ho
      | some p => cases p with
        | none => simp [hm] at ho
        | some p =>
          simp only [hm, Option.map_some, Option.some.injEq] at ho
          have : lookP m n = some p := by simp [lookP, hm]
          simp [List.filterMap_cons, this, ho]
    · cases h
theorem objs_nameP {m : List (Option PObj)} {x : AV} {cs : List AObj} (h : objs (memA m) x.name = some cs) : cs = (nameP x m).map PObj.toA := objs_names _ _ h
theorem newsP_sound {sz : Nat} {x : AV} {mem : List (Option PObj)} {w : News} {cs : List AObj} {ob : List Prop} {n : Nat} {new : List AV} (h : newsP sz x mem = some w) (hcs : objs (memA mem) x.name = some cs) (he : elemsA sz x cs = some (ob, n, new)) :
    n = w.n ∧ new = w.A ∧ (w.ob = true → AllP ob) := by
  unfold newsP at h
  split at h
  · cases h
    simp only [AV.name, objs, Option.some.injEq] at hcs; subst hcs
    simp only [elemsA, Option.some.injEq, Prod.mk.injEq] at he; obtain ⟨rfl, rfl, rfl⟩ := he
    exact ⟨rfl, rfl, fun _ => trivial⟩
  · cases h
    simp only [AV.name, objs, Option.some.injEq] at hcs; subst hcs
    simp only [elemsA, Option.some.injEq, Prod.mk.injEq] at he; obtain ⟨rfl, rfl, rfl⟩ := he
    exact ⟨rfl, rfl, fun hb => ⟨beqT.1 hb, trivial⟩⟩
  · rename_i nm off len cap
    split at h
    · rename_i o hl
      have := qxv hcs hl
      subst this
      split at h
      · rename_i o0 c hk
        cases h
        simp only [elemsA, PObj.toA, hk, Option.some.injEq, Prod.mk.injEq] at he; obtain ⟨rfl, rfl, rfl⟩ := he
        refine ⟨rfl, rfl, fun hb => ?_⟩
        simp only [News.ob, Bool.and_eq_true, bleT] at hb
        exact ⟨hb.1, hb.2, trivial⟩
      · cases h
    · rename_i l e hl
      have := qxv hcs hl
      subst this
      split at h
      · rename_i hs
        cases h
        have hs := beqT.1 hs; subst hs
        simp only [elemsA, PObj.toA, AObj.known, Option.some.injEq, Prod.mk.injEq] at he; obtain ⟨rfl, rfl, rfl⟩ := he
        refine ⟨rfl, by rw [Nat.sub_zero, Nat.mul_one, u8s_drop]; rfl, fun hb => ?_⟩
        simp only [News.ob, decide_eq_true_eq] at hb
        exact ⟨Nat.zero_le _, by rw [u8s_length]; omega, trivial⟩
      · cases h
    · rename_i k l e hl
      have := qxv hcs hl
      subst this
      split at h
      · rename_i hs
        cases h
        have hs := beqT.1 hs; subst hs
        simp only [elemsA, PObj.toA, AObj.known, Option.some.injEq, Prod.mk.injEq] at he; obtain ⟨rfl, rfl, rfl⟩ := he
        refine ⟨rfl, by rw [Nat.sub_zero, Nat.mul_one, ints_drop]; rfl, fun hb => ?_⟩
        simp only [News.ob, decide_eq_true_eq] at hb
        exact ⟨Nat.zero_le _, by rw [ints_length]; omega, trivial⟩
      · cases h
    · cases h
  · rename_i nm len
    split at h
    · rename_i o hl
      have := qxv hcs hl
      subst this
      split at h
      · rename_i o0 c hk
        cases h
        simp only [elemsA, PObj.toA, hk, Option.some.injEq, Prod.mk.injEq] at he; obtain ⟨rfl, rfl, rfl⟩ := he
        refine ⟨rfl, rfl, fun hb => ?_⟩
        simp only [News.ob, Bool.and_eq_true, bleT, beqT] at hb
        exact ⟨hb.1, hb.2, trivial⟩
      · cases h
    · rename_i l e hl
      have := qxv hcs hl
      subst this
      split at h
      · rename_i hs
        cases h
        have hs := beqT.1 hs; subst hs
        simp only [elemsA, PObj.toA, AObj.known, Option.some.injEq, Prod.mk.injEq] at he; obtain ⟨rfl, rfl, rfl⟩ := he
        refine ⟨rfl, by rw [Nat.mul_one, u8s_take]; rfl, fun hb => ?_⟩
        simp only [News.ob, decide_eq_true_eq] at hb
        exact ⟨by trivial, by rw [u8s_length]; omega, trivial⟩
      · cases h
    · rename_i k l e hl
      have := qxv hcs hl
      subst this
      split at h
      · rename_i hs
        cases h
        have hs := beqT.1 hs; subst hs
        simp only [elemsA, PObj.toA, AObj.known, Option.some.injEq, Prod.mk.injEq] at he; obtain ⟨rfl, rfl, rfl⟩ := he
        refine ⟨rfl, by rw [Nat.mul_one, ints_take]; rfl, fun hb => ?_⟩
        simp only [News.ob, decide_eq_true_eq] at hb
        exact ⟨by trivial, by rw [ints_length]; omega, trivial⟩
      · cases h
    · rename_i sh l e hl
      have := qxv hcs hl
      subst this
      split at h
      · rename_i hs
        cases h
        have hs := beqT.1 hs; subst hs
        simp only [elemsA, PObj.toA, AObj.known, Option.some.injEq, Prod.mk.injEq] at he; obtain ⟨rfl, rfl, rfl⟩ := he
        refine ⟨rfl, by rw [rowsA_take]; rfl, fun hb => ?_⟩
        simp only [News.ob, decide_eq_true_eq] at hb
        exact ⟨by trivial, by rw [rowsA_length]; exact Nat.mul_le_mul_right _ hb, trivial⟩
      · cases h
    · cases h
  · rename_i nm len
    split at h
    · rename_i m l hl
      have := qxv hcs hl
      subst this
      split at h
      · rename_i hs
        cases h
        have hs := beqT.1 hs; subst hs
        simp only [elemsA, PObj.toA, AObj.knownD, Option.some.injEq, Prod.mk.injEq] at he; obtain ⟨rfl, rfl, rfl⟩ := he
        refine ⟨rfl, by rw [Nat.mul_one, ints_take]; rfl, fun hb => ?_⟩
        simp only [News.ob, decide_eq_true_eq] at hb
        exact ⟨by rw [ints_length]; omega, trivial⟩
      · cases h
    · cases h
  · rename_i nm w' off len
    split at h
    · rename_i sh l e hl
      have := qxv hcs hl
      subst this
      split at h
      · rename_i hs
        cases h
        rw [Bool.and_eq_true, beqT, beqT] at hs
        obtain ⟨rfl, rfl⟩ := hs
        simp only [elemsA, PObj.toA, Option.some.injEq, Prod.mk.injEq] at he; obtain ⟨rfl, rfl, rfl⟩ := he
        refine ⟨rfl, by rw [rowsA_drop, rowsA_take]; rfl, fun hb => ?_⟩
        simp only [News.ob, decide_eq_true_eq] at hb
        exact ⟨trivial, by rw [rowsA_length, ← Nat.add_mul]; exact Nat.mul_le_mul_right _ hb, trivial⟩
      · cases h
    · cases h
  · cases h
def oldCells : Option PObj → List AV
  | none => []
  | some p => match p.toA with | .vec c _ _ => c | _ => []
theorem u8s_append (a b : List UInt8) : u8s (a ++ b) = u8s a ++ u8s b := by simp [u8s]
theorem ints_append (k : IntKind) (a b : List Int) : ints k (a ++ b) = ints k a ++ ints k b := by simp [ints]
theorem ckEq_of : ∀ {a b : CK}, ckEq a b = true → a = b := by
  intro a b h
  cases a <;> cases b <;> first | rfl | cases h | skip
  simp only [ckEq, beq_iff_eq] at h; rw [h]
theorem shEq_of : ∀ {x y : List CK}, shEq x y = true → x = y
  | [], [], _ => rfl
  | [], _ :: _, h => by cases h
  | _ :: _, [], h => by cases h
  | a :: x, b :: y, h => by
    simp only [shEq, Bool.and_eq_true] at h
    rw [ckEq_of h.1, shEq_of h.2]
theorem growP_sound {e : TypeId} {sz : Nat} {old : Option PObj} {w : News} {b : Bool} {o : PObj} (h : growP P e sz old w = some (b, o)) (hb : b = true) :
    o.toA = .vec (oldCells old ++ w.A) e sz ∧ w.ob = true ∧ (∀ p, old = some p → p.toA = .vec (oldCells old) e sz ∧ p.len = (oldCells old).length) := by
  unfold growP at h
  split at h
  · split at h
    · rename_i hs; have hs := beqT.1 hs; subst hs; cases h; exact ⟨rfl, hb, fun p e => by cases e⟩
    · cases h
  · split at h
    · rename_i hs; have hs := beqT.1 hs; subst hs
      simp only [Option.map_eq_some_iff, Prod.mk.injEq] at h
      obtain ⟨⟨b', l⟩, h1, h2, rfl⟩ := h
      simp only [← h2, Bool.and_eq_true] at hb
      exact ⟨by simp only [PObj.toA, oldCells, News.A, List.nil_append, bytesOfA_sound _ _ _ h1 hb.2], hb.1, fun p e => by cases e⟩
    · cases h
  · split at h
    · rename_i hs; simp only [Bool.and_eq_true, beqT, beq_iff_eq] at hs; obtain ⟨rfl, rfl⟩ := hs; cases h
      exact ⟨by simp only [PObj.toA, oldCells, News.A, u8s_append], hb, fun p e => by cases e; exact ⟨rfl, by simp [PObj.len, oldCells, PObj.toA, u8s_length]⟩⟩
    · cases h
  · split at h
    · rename_i hs; simp only [Bool.and_eq_true, beqT, beq_iff_eq] at hs; obtain ⟨rfl, rfl⟩ := hs
      simp only [Option.map_eq_some_iff, Prod.mk.injEq] at h
      obtain ⟨⟨b', l⟩, h1, h2, rfl⟩ := h
      simp only [← h2, Bool.and_eq_true] at hb
      exact ⟨by simp only [PObj.toA, oldCells, News.A, u8s_append, bytesOfA_sound _ _ _ h1 hb.2], hb.1, fun p e => by cases e; exact ⟨rfl, by simp [PObj.len, oldCells, PObj.toA, u8s_length]⟩⟩
    · cases h
  · split at h
    · rename_i hs; simp only [Bool.and_eq_true, beqT, beq_iff_eq] at hs; obtain ⟨rfl, rfl⟩ := hs; cases h; exact ⟨rfl, hb, fun p e => by cases e⟩
    · cases h
  · split at h
    · rename_i hs; have hs := beqT.1 hs; subst hs
      simp only [Option.map_eq_some_iff, Prod.mk.injEq] at h
      obtain ⟨l, h1, h2, rfl⟩ := h
      subst h2
      exact ⟨by simp only [PObj.toA, oldCells, News.A, List.nil_append, intsOfA_sound _ _ h1], hb, fun p e => by cases e⟩
    · cases h
  · split at h
    · rename_i hs; simp only [Bool.and_eq_true, beqT, beq_iff_eq] at hs; obtain ⟨⟨rfl, rfl⟩, rfl⟩ := hs; cases h
      exact ⟨by simp only [PObj.toA, oldCells, News.A, ints_append], hb, fun p e => by cases e; exact ⟨rfl, by simp [PObj.len, oldCells, PObj.toA, ints_length]⟩⟩
    · cases h
  · split at h
    · rename_i hs; simp only [Bool.and_eq_true, beqT, beq_iff_eq] at hs; obtain ⟨rfl, rfl⟩ := hs
      simp only [Option.map_eq_some_iff, Prod.mk.injEq] at h
      obtain ⟨l, h1, h2, rfl⟩ := h
      subst h2
      exact ⟨by simp only [PObj.toA, oldCells, News.A, ints_append, intsOfA_sound _ _ h1], hb, fun p e => by cases e; exact ⟨rfl, by simp [PObj.len, oldCells, PObj.toA, ints_length]⟩⟩
    · cases h
  · split at h
    · split at h
      · rename_i hr
        split at h
        · rename_i hs; have hs := beqT.1 hs; subst hs
          cases h
          exact ⟨by simp only [PObj.toA, oldCells, News.A, List.nil_append, (rowsOf_sound _ _ _ hr).1], hb, fun p e => by cases e⟩
        · cases h
      · cases h; exact ⟨rfl, hb, fun p e => by cases e⟩
    · cases h; exact ⟨rfl, hb, fun p e => by cases e⟩
  · split at h
    · rename_i hs; have hs := beqT.1 hs; subst hs
      cases h
      exact ⟨by simp only [PObj.toA, oldCells, News.A, List.nil_append], hb, fun p e => by cases e⟩
    · cases h
  · split at h
    · rename_i hs; simp only [Bool.and_eq_true, beqT, beq_iff_eq] at hs; obtain ⟨rfl, rfl⟩ := hs
      simp only [Option.map_eq_some_iff, Prod.mk.injEq] at h
      obtain ⟨l, h1, rfl, rfl⟩ := h
      exact ⟨by simp only [PObj.toA, oldCells, News.A, rowsA_append, (rowsOf_sound _ _ _ h1).1], hb, fun p e => by cases e; exact ⟨rfl, by simp [PObj.len, oldCells, PObj.toA, rowsA_length]⟩⟩
    · cases h
  · split at h
    · rename_i hs; simp only [Bool.and_eq_true, beqT, beq_iff_eq] at hs; obtain ⟨⟨rfl, rfl⟩, hs⟩ := hs
      cases shEq_of hs
      cases h
      exact ⟨by simp only [PObj.toA, oldCells, News.A, rowsA_append], hb, fun p e => by cases e; exact ⟨rfl, by simp [PObj.len, oldCells, PObj.toA, rowsA_length]⟩⟩
    · cases h
  · cases h; exact ⟨rfl, hb, fun p e => by cases e⟩
  · split at h
    · rename_i hs; simp only [Bool.and_eq_true, beq_iff_eq] at hs; obtain ⟨rfl, rfl⟩ := hs; cases h
      exact ⟨rfl, hb, fun p e => by cases e; exact ⟨rfl, rfl⟩⟩
    · cases h
  · cases h
theorem room_sound {m bytes : Nat} (h : roomB m bytes = true) : 2 * m * bytes ≤ 281474976710656 ∧ 2 * m < 9223372036854775808 := by simpa [roomB] using h
theorem append_yes {c : Call} {x : AV} {mem : List (Option PObj)} {e : TypeId} {ie : TypeInfo} {w : News} {b : Bool} {o : PObj} (hc : c.callee = .builtin .append) (he : (c.argTypes[0]?).bind P.underlying = some (.slice e)) (hi : P.info? e = some ie) (hw : newsP ie.size x mem = some w) (hg : growP P e ie.size none w = some (b, o)) (h0 : 0 < w.n) :
    AltOK P (.call c) [.qzz, x] mem (.ok (b && roomB w.n ie.bytes) { nm := [frn mem], obj := some [o.toA] } (nameP x mem) [o]) := by
  intro hb
  refine ⟨rfl, fun F cs r hf hcs hr => ?_⟩
  simp only [Bool.and_eq_true] at hb
  obtain ⟨hb1, hb2⟩ := hb
  obtain ⟨r1, r2⟩ := room_sound hb2
  obtain ⟨go, gw, _⟩ := growP_sound hg hb1
  simp only [foot, hc, AV.name, List.nil_append, AV.isVec, Bool.false_eq_true, if_false, Option.some.injEq] at hf
  subst hf
  simp only [act, hc, Option.map_eq_some_iff] at hr
  obtain ⟨r', hr, rfl⟩ := hr
  simp only [appendA, he] at hr
  split at hr
  · rename_i tx k e1 e2 e3
    cases e1; cases e3
    split at hr
    · cases hr
    · simp only [hi] at hr
      split at hr
      · rename_i ie' z e4 e5
        cases e4
        split at hr
        · cases hr
        · split at hr
          · rename_i ob n new hel
            obtain ⟨n1, n2, n3⟩ := newsP_sound hw hcs hel
            cases hr
            subst n1; subst n2
            refine ⟨?_, fun e => absurd rfl e, rfl⟩
            simp only [sealR, grow]
            refine qzu.2 ⟨qzu.2 ⟨n3 gw, h0, r1, r2, trivial⟩, ?_, trivial⟩
            rw [go]; rfl
          · cases hr
      · cases hr
  · rename_i e1 e2 e3
    cases e3
  · cases hr
theorem append_no {c : Call} {x : AV} {mem : List (Option PObj)} {e : TypeId} {ie : TypeInfo} {w : News} (hc : c.callee = .builtin .append) (he : (c.argTypes[0]?).bind P.underlying = some (.slice e)) (hi : P.info? e = some ie) (hw : newsP ie.size x mem = some w) (h0 : w.n = 0) :
    AltOK P (.call c) [.qzz, x] mem (.ok w.ob {} (nameP x mem) []) := by
  intro hb
  refine ⟨rfl, fun F cs r hf hcs hr => ?_⟩
  simp only [foot, hc, AV.name, List.nil_append, AV.isVec, Bool.false_eq_true, if_false, Option.some.injEq] at hf
  subst hf
  simp only [act, hc, Option.map_eq_some_iff] at hr
  obtain ⟨r', hr, rfl⟩ := hr
  simp only [appendA, he] at hr
  split at hr
  · rename_i e1 e2 e3
    cases e3
  · rename_i tx e1 e2 e3
    cases e1
    split at hr
    · cases hr
    · simp only [hi] at hr
      split at hr
      · rename_i ob n new hel
        obtain ⟨n1, n2, n3⟩ := newsP_sound hw hcs hel
        cases hr
        exact ⟨qzu.2 ⟨n3 hb, n1.trans h0, trivial⟩, fun e => absurd rfl e, rfl⟩
      · cases hr
  · cases hr
theorem append_vec {c : Call} {x : AV} {mem : List (Option PObj)} {e : TypeId} {ie : TypeInfo} {w : News} {b : Bool} {nm len : Nat} {old o : PObj} (hc : c.callee = .builtin .append) (he : (c.argTypes[0]?).bind P.underlying = some (.slice e)) (hi : P.info? e = some ie) (hw : newsP ie.size x mem = some w) (hl : lookP mem nm = some old) (hg : growP P e ie.size (some old) w = some (b, o)) :
    AltOK P (.call c) [.vec nm len, x] mem (.ok (b && decide (old.len = len * ie.size) && roomB (len + w.n) ie.bytes) { nm := [frn mem], obj := some [o.toA] } (.raw .dead :: nameP x mem) [o]) := by
  intro hb
  refine ⟨rfl, fun F cs r hf hcs hr => ?_⟩
  simp only [Bool.and_eq_true, decide_eq_true_eq] at hb
  obtain ⟨⟨hb1, hb3⟩, hb2⟩ := hb
  obtain ⟨r1, r2⟩ := room_sound hb2
  obtain ⟨go, gw, gold⟩ := growP_sound hg hb1
  obtain ⟨gold, glen⟩ := gold _ rfl
  simp only [foot, hc, AV.name, AV.isVec, if_true, Option.some.injEq] at hf
  subst hf
  obtain ⟨a1, a2, k1, k2, rfl⟩ := objs_append _ _ _ hcs
  have := qxv k1 hl
  subst this
  simp only [act, hc, Option.map_eq_some_iff] at hr
  obtain ⟨r', hr, rfl⟩ := hr
  simp only [appendA, he] at hr
  split at hr
  · rename_i tx k e1 e2 e3
    cases e1; cases e3
    split at hr
    · cases hr
    · simp only [hi] at hr
      split at hr
      · rename_i ie' z e4 e5
        cases e4
        split at hr
        · cases hr
        · simp only [gold, List.singleton_append, bne_self_eq_false, Bool.false_eq_true, if_false, beq_self_eq_true, if_true] at hr
          split at hr
          · rename_i ob n new hel
            obtain ⟨n1, n2, n3⟩ := newsP_sound hw k2 hel
            cases hr
            subst n1; subst n2
            refine ⟨?_, fun _ => ?_, rfl⟩
            · simp only [sealR, grow]
              refine qzu.2 ⟨qzu.2 ⟨n3 gw, ?_, r1, r2, trivial⟩, ?_, trivial⟩
              · rw [← hb3, glen]
              · rw [go]
            · simp only [sealR, grow, List.map_cons]
              rw [objs_nameP k2]; rfl
          · cases hr
      · cases hr
  · rename_i e1 e2 e3
    cases e3
  · cases hr
theorem append_slice {c : Call} {x : AV} {mem : List (Option PObj)} {e : TypeId} {ie : TypeInfo} {ob : Bool} {n : Nat} {cx oc : List AV} {nm off len cap o0 : Nat} {o : AObj} (hc : c.callee = .builtin .append) (he : (c.argTypes[0]?).bind P.underlying = some (.slice e)) (hi : P.info? e = some ie) (hw : newsP ie.size x mem = some (.cells ob n cx)) (hl : lookP mem nm = some (.raw o)) (hk : o.known = some (o0, oc)) :
    AltOK P (.call c) [.slice nm off len cap, x] mem (.ok (ob && Nat.ble o0 off && Nat.ble (off - o0 + len * ie.size) oc.length && Nat.beq len cap && Nat.blt 0 n && roomB (len + n) ie.bytes) { nm := [frn mem] } (.raw o :: nameP x mem) [.raw (.vec ((oc.drop (off - o0)).take (len * ie.size) ++ cx) e ie.size)]) := by
  intro hb
  refine ⟨rfl, fun F cs r hf hcs hr => ?_⟩
  simp only [Bool.and_eq_true, bleT, beqT, bltT] at hb
  obtain ⟨⟨⟨⟨⟨b1, b2⟩, b3⟩, b4⟩, b5⟩, b6⟩ := hb
  obtain ⟨r1, r2⟩ := room_sound b6
  simp only [foot, hc, AV.name, AV.isVec, Bool.false_eq_true, if_false, Option.some.injEq] at hf
  subst hf
  obtain ⟨a1, a2, k1, k2, rfl⟩ := objs_append _ _ _ hcs
  have := qxv k1 hl
  subst this
  simp only [act, hc, Option.map_eq_some_iff] at hr
  obtain ⟨r', hr, rfl⟩ := hr
  simp only [appendA, he] at hr
  split at hr
  · rename_i tx k e1 e2 e3
    cases e1; cases e3
    split at hr
    · cases hr
    · simp only [hi] at hr
      split at hr
      · rename_i ie' z e4 e5
        cases e4
        split at hr
        · cases hr
        · simp only [PObj.toA, List.singleton_append, hk] at hr
          split at hr
          · rename_i o0' oc' ob' n' new h1 hel
            cases h1
            obtain ⟨n1, n2, n3⟩ := newsP_sound hw k2 hel
            cases hr
            simp only [News.n] at n1
            simp only [News.A] at n2
            subst n1; subst n2
            refine ⟨?_, fun e => absurd rfl e, rfl⟩
            simp only [sealR, grow]
            exact qzu.2 ⟨n3 b1, b2, b3, b4, b5, r1, r2, trivial⟩
          · cases hr
      · cases hr
  · rename_i e1 e2 e3
    cases e3
  · cases hr
theorem append_arr {c : Call} {x : AV} {mem : List (Option PObj)} {e : TypeId} {ie : TypeInfo} {ob : Bool} {n : Nat} {k : IntKind} {l l' : List Int} {te : TypeId} {nm off len cap : Nat} (hc : c.callee = .builtin .append) (he : (c.argTypes[0]?).bind P.underlying = some (.slice e)) (hi : P.info? e = some ie) (hs : ie.size = 1) (hw : newsP ie.size x mem = some (.nums ob n k l')) (hl : lookP mem nm = some (.arrI k l te)) :
    AltOK P (.call c) [.slice nm off len cap, x] mem (.ok (ob && decide (off + len ≤ l.length) && Nat.beq len cap && decide (0 < n) && roomB (len + n) ie.bytes) { nm := [frn mem], obj := some [(PObj.vecI k ((l.drop off).take len ++ l') e).toA] } (.arrI k l te :: nameP x mem) [.vecI k ((l.drop off).take len ++ l') e]) := by
  intro hb
  refine ⟨rfl, fun F cs r hf hcs hr => ?_⟩
  simp only [Bool.and_eq_true, beqT, decide_eq_true_eq] at hb
  obtain ⟨⟨⟨⟨b1, b2⟩, b4⟩, b5⟩, b6⟩ := hb
  obtain ⟨r1, r2⟩ := room_sound b6
  simp only [foot, hc, AV.name, AV.isVec, Bool.false_eq_true, if_false, Option.some.injEq] at hf
  subst hf
  obtain ⟨a1, a2, k1, k2, rfl⟩ := objs_append _ _ _ hcs
  have := qxv k1 hl
  subst this
  simp only [act, hc, Option.map_eq_some_iff] at hr
  obtain ⟨r', hr, rfl⟩ := hr
  simp only [appendA, he] at hr
  split at hr
  · rename_i tx k e1 e2 e3
    cases e1; cases e3
    split at hr
    · cases hr
    · simp only [hi] at hr
      split at hr
      · rename_i ie' z e4 e5
        cases e4
        split at hr
        · cases hr
        · simp only [PObj.toA, List.singleton_append, AObj.known] at hr
          split at hr
          · rename_i o0' oc' ob' n' new h1 hel
            cases h1
            obtain ⟨n1, n2, n3⟩ := newsP_sound hw k2 hel
            cases hr
            simp only [News.n] at n1
            simp only [News.A] at n2
            subst n1; subst n2
            refine ⟨?_, fun e => absurd rfl e, rfl⟩
            simp only [sealR, grow]
            refine qzu.2 ⟨qzu.2 ⟨n3 b1, Nat.zero_le _, by rw [ints_length, hs]; omega, b4, b5, r1, r2, trivial⟩, ?_, trivial⟩
            rw [hs, Nat.mul_one, Nat.sub_zero, ints_drop, ← ints_append]
          · cases hr
      · cases hr
  · rename_i e1 e2 e3
    cases e3
  · cases hr
theorem append_lit {c : Call} {x : AV} {mem : List (Option PObj)} {e : TypeId} {ie : TypeInfo} {ob : Bool} {n : Nat} {l' : List UInt8} {oc : List AV} {nm off len cap o0 : Nat} {o : AObj} (hc : c.callee = .builtin .append) (he : (c.argTypes[0]?).bind P.underlying = some (.slice e)) (hi : P.info? e = some ie) (hs : ie.size = 1) (h0 : len = 0) (hw : newsP ie.size x mem = some (.bytes ob n l')) (hl : lookP mem nm = some (.raw o)) (hk : o.known = some (o0, oc)) :
    AltOK P (.call c) [.slice nm off len cap, x] mem (.ok (ob && Nat.ble o0 off && Nat.ble (off - o0) oc.length && Nat.beq len cap && decide (0 < n) && roomB (len + n) ie.bytes) { nm := [frn mem], obj := some [(PObj.vecB l' e).toA] } (.raw o :: nameP x mem) [.vecB l' e]) := by
  intro hb
  refine ⟨rfl, fun F cs r hf hcs hr => ?_⟩
  simp only [Bool.and_eq_true, bleT, beqT, decide_eq_true_eq] at hb
  obtain ⟨⟨⟨⟨⟨b1, b2⟩, b3⟩, b4⟩, b5⟩, b6⟩ := hb
  obtain ⟨r1, r2⟩ := room_sound b6
  simp only [foot, hc, AV.name, AV.isVec, Bool.false_eq_true, if_false, Option.some.injEq] at hf
  subst hf
  obtain ⟨a1, a2, k1, k2, rfl⟩ := objs_append _ _ _ hcs
  have := qxv k1 hl
  subst this
  simp only [act, hc, Option.map_eq_some_iff] at hr
  obtain ⟨r', hr, rfl⟩ := hr
  simp only [appendA, he] at hr
  split at hr
  · rename_i tx k e1 e2 e3
    cases e1; cases e3
    split at hr
    · cases hr
    · simp only [hi] at hr
      split at hr
      · rename_i ie' z e4 e5
        cases e4
        split at hr
        · cases hr
        · simp only [PObj.toA, List.singleton_append, hk] at hr
          split at hr
          · rename_i o0' oc' ob' n' new h1 hel
            cases h1
            obtain ⟨n1, n2, n3⟩ := newsP_sound hw k2 hel
            cases hr
            simp only [News.n] at n1
            simp only [News.A] at n2
            subst n1; subst n2
            refine ⟨?_, fun e => absurd rfl e, rfl⟩
            simp only [sealR, grow]
            refine qzu.2 ⟨qzu.2 ⟨n3 b1, b2, by rw [h0, Nat.zero_mul, Nat.add_zero]; exact b3, b4, b5, r1, r2, trivial⟩, ?_, trivial⟩
            rw [h0, Nat.zero_mul, List.take_zero, List.nil_append, hs]
          · cases hr
      · cases hr
  · rename_i e1 e2 e3
    cases e3
  · cases hr
theorem append_row {c : Call} {x : AV} {mem : List (Option PObj)} {e : TypeId} {ie : TypeInfo} {ob : Bool} {n : Nat} {sh : List CK} {l' : List (List CV)} {oc : List AV} {nm off len cap o0 : Nat} {o : AObj} (hc : c.callee = .builtin .append) (he : (c.argTypes[0]?).bind P.underlying = some (.slice e)) (hi : P.info? e = some ie) (hs : ie.size = sh.length) (h0 : len = 0) (hw : newsP ie.size x mem = some (.rows ob n sh l')) (hl : lookP mem nm = some (.raw o)) (hk : o.known = some (o0, oc)) :
    AltOK P (.call c) [.slice nm off len cap, x] mem (.ok (ob && Nat.ble o0 off && Nat.ble (off - o0) oc.length && Nat.beq len cap && decide (0 < n) && roomB (len + n) ie.bytes) { nm := [frn mem], obj := some [(PObj.vecR sh l' e).toA] } (.raw o :: nameP x mem) [.vecR sh l' e]) := by
  intro hb
  refine ⟨rfl, fun F cs r hf hcs hr => ?_⟩
  simp only [Bool.and_eq_true, bleT, beqT, decide_eq_true_eq] at hb
  obtain ⟨⟨⟨⟨⟨b1, b2⟩, b3⟩, b4⟩, b5⟩, b6⟩ := hb
  obtain ⟨r1, r2⟩ := room_sound b6
  simp only [foot, hc, AV.name, AV.isVec, Bool.false_eq_true, if_false, Option.some.injEq] at hf
  subst hf
  obtain ⟨a1, a2, k1, k2, rfl⟩ := objs_append _ _ _ hcs
  have := qxv k1 hl
  subst this
  simp only [act, hc, Option.map_eq_some_iff] at hr
  obtain ⟨r', hr, rfl⟩ := hr
  simp only [appendA, he] at hr
  split at hr
  · rename_i tx k e1 e2 e3
    cases e1; cases e3
    split at hr
    · cases hr
    · simp only [hi] at hr
      split at hr
      · rename_i ie' z e4 e5
        cases e4
        split at hr
        · cases hr
        · simp only [PObj.toA, List.singleton_append, hk] at hr
          split at hr
          · rename_i o0' oc' ob' n' new h1 hel
            cases h1
            obtain ⟨n1, n2, n3⟩ := newsP_sound hw k2 hel
            cases hr
            simp only [News.n] at n1
            simp only [News.A] at n2
            subst n1; subst n2
            refine ⟨?_, fun e => absurd rfl e, rfl⟩
            simp only [sealR, grow]
            refine qzu.2 ⟨qzu.2 ⟨n3 b1, b2, by rw [h0, Nat.zero_mul, Nat.add_zero]; exact b3, b4, b5, r1, r2, trivial⟩, ?_, trivial⟩
            rw [h0, Nat.zero_mul, List.take_zero, List.nil_append, hs]
          · cases hr
      · cases hr
  · rename_i e1 e2 e3
    cases e3
  · cases hr
theorem append_stay {c : Call} {x : AV} {mem : List (Option PObj)} {e : TypeId} {ie : TypeInfo} {ob : Bool} {cx : List AV} {nm off len cap : Nat} {o : AObj} (hc : c.callee = .builtin .append) (he : (c.argTypes[0]?).bind P.underlying = some (.slice e)) (hi : P.info? e = some ie) (hw : newsP ie.size x mem = some (.cells ob 0 cx)) (hl : lookP mem nm = some (.raw o)) :
    AltOK P (.call c) [.slice nm off len cap, x] mem (.ok (ob && Nat.ble len cap) {} (.raw o :: nameP x mem) []) := by
  intro hb
  refine ⟨rfl, fun F cs r hf hcs hr => ?_⟩
  simp only [Bool.and_eq_true, bleT] at hb
  obtain ⟨b1, b2⟩ := hb
  simp only [foot, hc, AV.name, AV.isVec, Bool.false_eq_true, if_false, Option.some.injEq] at hf
  subst hf
  obtain ⟨a1, a2, k1, k2, rfl⟩ := objs_append _ _ _ hcs
  have := qxv k1 hl
  subst this
  simp only [act, hc, Option.map_eq_some_iff] at hr
  obtain ⟨r', hr, rfl⟩ := hr
  simp only [appendA, he] at hr
  split at hr
  · rename_i e1 e2 e3
    cases e3
  · rename_i tx e1 e2 e3
    cases e1
    split at hr
    · cases hr
    · simp only [hi, PObj.toA, List.singleton_append] at hr
      split at hr
      · rename_i ob n new hel
        obtain ⟨n1, n2, n3⟩ := newsP_sound hw k2 hel
        cases hr
        exact ⟨qzu.2 ⟨n3 b1, n1, b2, trivial⟩, fun e => absurd rfl e, rfl⟩
      · cases hr
  · cases hr
theorem appendP_sound {c : Call} {s x : AV} {mem : List (Option PObj)} {a : Alt} (hc : c.callee = .builtin .append) (h : appendP P c s x mem = some a) : AltOK P (.call c) [s, x] mem a := by
  unfold appendP at h
  split at h
  · rename_i e he
    split at h
    · rename_i ie hi
      split at h
      · rename_i w hw
        split at h
        · split at h
          · rename_i b o hg
            cases h
            split
            · rename_i ob n cx
              split
              · exact append_no hc he hi hw rfl
              · exact append_yes hc he hi hw hg (Nat.pos_of_ne_zero (by assumption))
            · exact ⟨fun hb => append_yes hc he hi hw hg (of_decide_eq_true hb), fun hb => append_no hc he hi hw (by simpa using hb)⟩
          · cases h
        · split at h
          · rename_i old hl
            split at h
            · rename_i b o hg
              cases h
              exact append_vec hc he hi hw hl hg
            · cases h
          · cases h
        · split at h
          · rename_i o hl
            split at h
            · rename_i o0 oc ob n cx hk
              split at h
              · cases h
                exact append_stay hc he hi hw hl
              · cases h
                exact append_slice hc he hi hw hl hk
            · rename_i o0 oc ob n sh l' hk
              split at h
              · rename_i hq
                simp only [Bool.and_eq_true, beqT] at hq
                cases h
                exact append_row hc he hi hq.1 hq.2 hw hl hk
              · cases h
            · rename_i o0 oc ob n l' hk
              split at h
              · rename_i hq
                simp only [Bool.and_eq_true, beqT] at hq
                cases h
                exact append_lit hc he hi hq.1 hq.2 hw hl hk
              · cases h
            · cases h
          · rename_i k l te hl
            split at h
            · rename_i ob n k' l'
              split at h
              · rename_i hk
                simp only [Bool.and_eq_true, beqT, beq_iff_eq] at hk
                obtain ⟨hk1, rfl⟩ := hk
                cases h
                exact append_arr hc he hi hk1 hw hl
              · cases h
            · cases h
          · cases h
        · cases h
      · cases h
    · cases h
  · cases h
end Go.Proofs.YtphhepnldndbhaaGreatDoor.Sx
namespace Go.Proofs.YtphhepnldndbhaaGreatDoor.Sx
open Go
variable {P : Program}
theorem storeP_sound {t : TypeId} {x0 y0 : Operand} {nm off : Nat} {v : AV} {mem : List (Option PObj)} {a : Alt} (h : storeP P t nm off v mem = some a) : AltOK P (.store t x0 y0) [.ptr nm off, v] mem a := by
  unfold storeP at h
  have key : ∀ (F : Foot) (hh : Hint), foot hh (.store t x0 y0) [.ptr nm off, v] = some F → F = ⟨[nm], [nm], []⟩ := fun F hh hf => by simpa [foot] using hf.symm
  split at h
  · rename_i o v' hl
    split at h
    · rename_i o0 cs0 hk
      split at h
      · rename_i o1 hs
        cases h
        intro hc
        refine ⟨rfl, fun F cs r hf hcs hr => ?_⟩
        obtain rfl := key F _ hf
        have hcs' := qxv hcs hl
        subst hcs'
        simp only [Bool.and_eq_true, bleT, beqT] at hc
        simp only [act, PObj.toA, storeA, hk, hs] at hr
        split at hr
        · cases hr
        · cases hr
          exact ⟨⟨hc.1, hc.2, trivial⟩, fun _ => rfl, rfl⟩
      · cases h
    · cases h
  · rename_i k l e k' n hl
    split at h
    · rename_i hk
      simp only [Bool.and_eq_true, beqT, beq_iff_eq] at hk
      obtain ⟨rfl, hk⟩ := hk
      cases h
      intro hc
      refine ⟨rfl, fun F cs r hf hcs hr => ?_⟩
      obtain rfl := key F _ hf
      have hcs' := qxv hcs hl
      subst hcs'
      simp only [decide_eq_true_eq] at hc
      simp only [act, PObj.toA, storeA, AObj.known, AObj.setCells] at hr
      split at hr
      · cases hr
      · cases hr
        refine ⟨⟨by rw [hk]; rfl, by rw [ints_length, hk]; omega, ?_, trivial⟩, fun _ => rfl, rfl⟩
        rw [hk, ← ints_set]
        show AObj.vec (List.take off (ints k' l) ++ [AV.int k' n] ++ List.drop (off + 1) (ints k' l)) e 1 = _
        rw [set_eq (by rw [ints_length]; exact hc)]
    · cases h
  · rename_i k l e k' n hl
    split at h
    · rename_i hk
      simp only [Bool.and_eq_true, beqT, beq_iff_eq] at hk
      obtain ⟨rfl, hk⟩ := hk
      cases h
      intro hc
      refine ⟨rfl, fun F cs r hf hcs hr => ?_⟩
      obtain rfl := key F _ hf
      have hcs' := qxv hcs hl
      subst hcs'
      simp only [decide_eq_true_eq] at hc
      simp only [act, PObj.toA, storeA, AObj.known, AObj.setCells] at hr
      split at hr
      · cases hr
      · cases hr
        refine ⟨⟨by rw [hk]; rfl, by rw [ints_length, hk]; omega, ?_, trivial⟩, fun _ => rfl, rfl⟩
        rw [hk, ← ints_set]
        show AObj.cells (List.take off (ints k' l) ++ [AV.int k' n] ++ List.drop (off + 1) (ints k' l)) e = _
        rw [set_eq (by rw [ints_length]; exact hc)]
    · cases h
  · rename_i l e k' n hl
    split at h
    · rename_i hk
      simp only [Bool.and_eq_true, beqT, beq_iff_eq] at hk
      obtain ⟨rfl, hk⟩ := hk
      cases h
      intro hc
      refine ⟨rfl, fun F cs r hf hcs hr => ?_⟩
      obtain rfl := key F _ hf
      have hcs' := qxv hcs hl
      subst hcs'
      simp only [Bool.and_eq_true, decide_eq_true_eq] at hc
      simp only [act, PObj.toA, storeA, AObj.known, AObj.setCells] at hr
      split at hr
      · cases hr
      · cases hr
        refine ⟨⟨by rw [hk]; rfl, by rw [u8s_length, hk]; omega, ?_, trivial⟩, fun _ => rfl, rfl⟩
        rw [hk]
        show AObj.vec (List.take off (u8s l) ++ [AV.int .u8 n] ++ List.drop (off + 1) (u8s l)) e 1 = _
        rw [set_eq (by rw [u8s_length]; exact hc.1)]
        simp only [u8s, List.map_set]
        rw [toByte_toNat hc.2]
    · cases h
  · rename_i l e b hl
    split at h
    · rename_i hk
      have hk := beqT.1 hk
      cases h
      intro hc
      refine ⟨rfl, fun F cs r hf hcs hr => ?_⟩
      obtain rfl := key F _ hf
      have hcs' := qxv hcs hl
      subst hcs'
      simp only [decide_eq_true_eq] at hc
      simp only [act, PObj.toA, storeA, AObj.known, AObj.setCells] at hr
      split at hr
      · cases hr
      · cases hr
        refine ⟨⟨by rw [hk]; rfl, by rw [List.length_map, hk]; omega, ?_, trivial⟩, fun _ => rfl, rfl⟩
        rw [hk]
        show AObj.cells (List.take off (l.map AV.bool) ++ [AV.bool b] ++ List.drop (off + 1) (l.map AV.bool)) e = _
        rw [set_eq (by rw [List.length_map]; exact hc), List.map_set]
    · cases h
  · rename_i l e k' n hl
    split at h
    · rename_i hk
      simp only [Bool.and_eq_true, beqT, beq_iff_eq] at hk
      obtain ⟨rfl, hk⟩ := hk
      cases h
      intro hc
      refine ⟨rfl, fun F cs r hf hcs hr => ?_⟩
      obtain rfl := key F _ hf
      have hcs' := qxv hcs hl
      subst hcs'
      simp only [Bool.and_eq_true, decide_eq_true_eq] at hc
      simp only [act, PObj.toA, storeA, AObj.known, AObj.setCells] at hr
      split at hr
      · cases hr
      · cases hr
        refine ⟨⟨by rw [hk]; rfl, by rw [u8s_length, hk]; omega, ?_, trivial⟩, fun _ => rfl, rfl⟩
        rw [hk]
        show AObj.cells (List.take off (u8s l) ++ [AV.int .u8 n] ++ List.drop (off + 1) (u8s l)) e = _
        rw [set_eq (by rw [u8s_length]; exact hc.1)]
        simp only [u8s, List.map_set]
        rw [toByte_toNat hc.2]
    · cases h
  · cases h
theorem rowsA_set {sh : List CK} {rows : List (List CV)} {i : Nat} {r : List CV} (hi : i < rows.length) : (rowsA sh rows).take (i * sh.length) ++ rowA sh r ++ (rowsA sh rows).drop (i * sh.length + sh.length) = rowsA sh (rows.set i r) := by
  rw [rowsA_take, show i * sh.length + sh.length = (i + 1) * sh.length by rw [Nat.succ_mul], rowsA_drop, List.set_eq_take_append_cons_drop, if_pos hi, rowsA_append]
  simp only [rowsA, List.flatMap_cons, List.append_assoc]
theorem rowsA_put {sh : List CK} {rows : List (List CV)} {i j : Nat} {r : List CV} {cs : List AV} (hi : i < rows.length) (hj : j + cs.length ≤ sh.length) (h : rowA sh r = (rowA sh (rowAt rows i)).take j ++ cs ++ (rowA sh (rowAt rows i)).drop (j + cs.length)) :
    rowsA sh (rows.set i r) = (rowsA sh rows).take (i * sh.length + j) ++ cs ++ (rowsA sh rows).drop (i * sh.length + j + cs.length) := by
  rw [← rowsA_set hi, h]
  have e := rowsA_set (sh := sh) (r := rowAt rows i) hi
  have er : rows.set i (rowAt rows i) = rows := by
    unfold rowAt
    rw [List.getD_eq_getElem?_getD, List.getElem?_eq_getElem hi, Option.getD_some, List.set_getElem_self]
  rw [er] at e
  have hA : ((rowsA sh rows).take (i * sh.length)).length = i * sh.length := by
    rw [List.length_take, rowsA_length]
    have hm : (i + 1) * sh.length ≤ rows.length * sh.length := Nat.mul_le_mul_right _ hi
    rw [Nat.add_mul] at hm
    omega
  have hB : (rowA sh (rowAt rows i)).length = sh.length := rowA_length _ _
  generalize hAA : (rowsA sh rows).take (i * sh.length) = A at *
  generalize hCC : (rowsA sh rows).drop (i * sh.length + sh.length) = C at *
  generalize rowA sh (rowAt rows i) = B at *
  rw [← e]
  have t1 : (A ++ B ++ C).take (i * sh.length + j) = A ++ B.take j := by
    rw [List.append_assoc, ← hA, List.take_length_add_append, List.take_append_of_le_length (by omega)]
  have t2 : (A ++ B ++ C).drop (i * sh.length + j + cs.length) = B.drop (j + cs.length) ++ C := by
    rw [List.append_assoc, Nat.add_assoc, ← hA, List.drop_length_add_append, List.drop_append_of_le_length (by omega)]
  rw [t1, t2]
  simp only [List.append_assoc]
theorem storeRP_sound {t : TypeId} {x0 y0 : Operand} {nm w i j : Nat} {v : AV} {mem : List (Option PObj)} {a : Alt} (h : storeRP P t w i j nm v mem = some a) : AltOK P (.store t x0 y0) [.rptr nm w i j, v] mem a := by
  unfold storeRP at h
  have key : ∀ (F : Foot) (hh : Hint), foot hh (.store t x0 y0) [.rptr nm w i j, v] = some F → F = ⟨[nm], [nm], []⟩ := fun F hh hf => by simpa [foot] using hf.symm
  split at h
  · rename_i sh rows e hl
    split at h
    · rename_i cs
      split at h
      · rename_i r hr0
        cases h
        intro hc
        refine ⟨rfl, fun F cs' r' hf hcs hr => ?_⟩
        obtain rfl := key F _ hf
        have hcs' := qxv hcs hl
        subst hcs'
        simp only [Bool.and_eq_true, decide_eq_true_eq, beqT] at hc
        obtain ⟨⟨⟨c1, rfl⟩, rfl⟩, c4⟩ := hc
        have hrow := rowOf_sound _ _ _ hr0
        have hlen : cs.length = sh.length := by rw [← hrow, rowA_length]
        simp only [act, PObj.toA, storeA, AObj.known, AObj.setCells] at hr
        split at hr
        · cases hr
        · cases hr
          refine ⟨⟨by show cs.length = _; rw [hlen, c4], ?_, ?_, trivial⟩, fun _ => rfl, rfl⟩
          · rw [rowsA_length, c4, Nat.add_zero]
            have : (i + 1) * sh.length ≤ rows.length * sh.length := Nat.mul_le_mul_right _ c1
            rw [Nat.add_mul] at this; omega
          · rw [c4, Nat.add_zero, ← hrow]
            show AObj.vec _ e sh.length = _
            rw [show (AV.agg (rowA sh r)).cells = rowA sh r from rfl, rowsA_set c1]
      · split at h
        · rename_i r hr0
          cases h
          intro hc
          refine ⟨rfl, fun F cs' r' hf hcs hr => ?_⟩
          obtain rfl := key F _ hf
          have hcs' := qxv hcs hl
          subst hcs'
          simp only [Bool.and_eq_true, decide_eq_true_eq, beqT, Nat.ble_eq] at hc
          obtain ⟨⟨⟨c1, rfl⟩, c3⟩, c4⟩ := hc
          have hrow := rowOf_sound _ _ _ hr0
          simp only [act, PObj.toA, storeA, AObj.known, AObj.setCells] at hr
          split at hr
          · cases hr
          · cases hr
            have hm : (i + 1) * sh.length ≤ rows.length * sh.length := Nat.mul_le_mul_right _ c1
            rw [Nat.add_mul] at hm
            refine ⟨⟨by show cs.length = _; rw [c4], ?_, ?_, trivial⟩, fun _ => rfl, rfl⟩
            · rw [rowsA_length, c4]; omega
            · rw [c4]
              show AObj.vec _ e sh.length = _
              rw [show (AV.agg cs).cells = cs from rfl, ← rowsA_put c1 c3 hrow]
        · cases h
    · cases h
  · cases h
theorem stringP_sound {src dst e : TypeId} {x0 : Operand} {x : AV} {mem : List (Option PObj)} {a : Alt} (h1 : P.underlying src = some (.slice e)) (h2 : P.underlying dst = some .string) (h3 : P.underlying e = some (.int .u8)) (h : stringP x mem = some a) : AltOK P (.convert src dst x0) [x] mem a := by
  unfold stringP at h
  split at h
  · rename_i nm len
    split at h
    · rename_i l ty hl
      cases h
      intro hc
      refine ⟨rfl, fun F cs r hf hcs hr => ?_⟩
      simp only [foot, AV.name, Option.some.injEq] at hf
      subst hf
      have := qxv hcs hl
      subst this
      simp only [decide_eq_true_eq] at hc
      simp only [act, h1, h2, h3, PObj.toA, AV.isDsl, elemsA, AObj.known] at hr
      cases hr
      refine ⟨⟨by trivial, by rw [u8s_length]; omega, ?_, trivial⟩, fun e => absurd rfl e, rfl⟩
      rw [Nat.mul_one, u8s_take]
    · cases h
  · rename_i nm off len cap
    split at h
    · rename_i l ty hl
      cases h
      intro hc
      refine ⟨rfl, fun F cs r hf hcs hr => ?_⟩
      simp only [foot, AV.name, Option.some.injEq] at hf
      subst hf
      have := qxv hcs hl
      subst this
      simp only [decide_eq_true_eq] at hc
      simp only [act, h1, h2, h3, PObj.toA, AV.isDsl, elemsA, AObj.known] at hr
      cases hr
      refine ⟨⟨Nat.zero_le _, by rw [u8s_length]; omega, ?_, trivial⟩, fun e => absurd rfl e, rfl⟩
      rw [Nat.mul_one, Nat.sub_zero, u8s_drop]
    · rename_i o hl
      split at h
      · rename_i o0 c hk
        split at h
        · rename_i b l hb
          cases h
          intro hc
          refine ⟨rfl, fun F cs r hf hcs hr => ?_⟩
          simp only [foot, AV.name, Option.some.injEq] at hf
          subst hf
          have := qxv hcs hl
          subst this
          simp only [Bool.and_eq_true, bleT] at hc
          obtain ⟨⟨c1, c2⟩, c3⟩ := hc
          simp only [act, h1, h2, h3, PObj.toA, AV.isDsl, elemsA, hk] at hr
          cases hr
          exact ⟨⟨c2, c3, bytesOfA_sound _ _ _ hb c1, trivial⟩, fun e => absurd rfl e, rfl⟩
        · cases h
      · cases h
    · cases h
  · rename_i nm w' off len
    split at h
    · rename_i l ty hl
      cases h
      intro hc
      refine ⟨rfl, fun F cs r hf hcs hr => ?_⟩
      simp only [foot, AV.name, Option.some.injEq] at hf
      subst hf
      have := qxv hcs hl
      subst this
      simp only [Bool.and_eq_true, beqT, decide_eq_true_eq] at hc
      simp only [act, h1, h2, h3, PObj.toA, AV.isDsl, elemsA] at hr
      cases hr
      refine ⟨⟨hc.1, by rw [u8s_length]; omega, ?_, trivial⟩, fun e => absurd rfl e, rfl⟩
      rw [Nat.mul_one, Nat.mul_one, u8s_drop]
    · cases h
  · cases h
theorem convP_sound {src dst : TypeId} {x0 : Operand} {x : AV} {mem : List (Option PObj)} {a : Alt} (h : convP P src dst x mem = some a) : AltOK P (.convert src dst x0) [x] mem a := by
  unfold convP at h
  split at h
  · rename_i d e s h1 h2
    split at h
    · rename_i h3
      cases h
      intro hc
      refine ⟨rfl, fun F cs r hf hcs hr => ?_⟩
      simp only [foot, Option.some.injEq] at hf
      subst hf
      simp only [objs, Option.some.injEq] at hcs
      subst hcs
      simp only [act, h1, h2, h3] at hr
      cases hr
      exact ⟨trivial, fun e => absurd rfl e, rfl⟩
    · cases h
  · rename_i e h1 h2
    split at h
    · rename_i h3
      rw [okP_eq h]
      intro hc
      refine ⟨rfl, fun F cs r hf hcs hr => ?_⟩
      simp only [foot, AV.name, Option.some.injEq] at hf
      subst hf
      simp only [objs, Option.some.injEq] at hcs
      subst hcs
      simp only [act, h1, h2, h3] at hr
      cases hr
      exact ⟨trivial, fun e => absurd rfl e, rfl⟩
    · cases h
  · rename_i e h1 h2 _
    split at h
    · rename_i h3
      exact stringP_sound h1 h2 h3 h
    · cases h
  · rename_i t nm off h1 h2
    split at h
    · rename_i c ty hl
      cases h
      intro hc
      refine ⟨rfl, fun F cs r hf hcs hr => ?_⟩
      simp only [foot, AV.name, Option.some.injEq] at hf
      subst hf
      have := qxv hcs hl
      subst this
      simp only [bltT] at hc
      simp only [act, h1, h2, PObj.toA] at hr
      split at hr
      · split at hr
        · cases hr
          exact ⟨⟨hc, trivial⟩, fun e => absurd rfl e, rfl⟩
        · cases hr
      · cases hr
    · cases h
  · rename_i u nm off h1 h2
    split at h
    · rename_i c ty hl
      cases h
      intro hc
      refine ⟨rfl, fun F cs r hf hcs hr => ?_⟩
      simp only [foot, AV.name, Option.some.injEq] at hf
      subst hf
      have := qxv hcs hl
      subst this
      simp only [act, h1, h2, PObj.toA] at hr
      split at hr
      · cases hr
        exact ⟨⟨hc, trivial⟩, fun e => absurd rfl e, rfl⟩
      · cases hr
    · cases h
  · rename_i d k k' n h1 h2
    rw [okP_eq h]
    intro hc
    refine ⟨rfl, fun F cs r hf hcs hr => ?_⟩
    simp only [foot, AV.name, Option.some.injEq] at hf
    subst hf
    simp only [objs, Option.some.injEq] at hcs
    subst hcs
    simp only [act, h1, h2] at hr
    obtain ⟨ob, v, q1, rfl⟩ := ok1_spec hr
    have := convA_obl q1; subst this
    exact ⟨trivial, fun e => absurd rfl e, rfl⟩
  · rename_i d s h1 h2
    rw [okP_eq h]
    intro hc
    refine ⟨rfl, fun F cs r hf hcs hr => ?_⟩
    simp only [foot, Option.some.injEq] at hf
    subst hf
    simp only [objs, Option.some.injEq] at hcs
    subst hcs
    simp only [act, h1, h2] at hr
    obtain ⟨ob, v, q1, rfl⟩ := ok1_spec hr
    have := convA_obl q1; subst this
    exact ⟨trivial, fun e => absurd rfl e, rfl⟩
  · rename_i d k n h1 h2
    rw [okP_eq h]
    intro hc
    refine ⟨rfl, fun F cs r hf hcs hr => ?_⟩
    simp only [foot, AV.name, Option.some.injEq] at hf
    subst hf
    simp only [objs, Option.some.injEq] at hcs
    subst hcs
    simp only [act, h1, h2] at hr
    obtain ⟨ob, v, q1, rfl⟩ := ok1_spec hr
    have := convA_obl q1; subst this
    exact ⟨trivial, fun e => absurd rfl e, rfl⟩
  · cases h
theorem nextP_sound {x0 : Operand} {nm : Nat} {mem : List (Option PObj)} {a : Alt} (h : nextP nm mem = some a) : AltOK P (.next x0 true) [.ptr nm 0] mem a := by
  unfold nextP at h
  split at h
  · rename_i s pos hl
    cases h
    constructor
    · intro hb _
      refine ⟨rfl, fun F cs r hf hcs hr => ?_⟩
      simp only [foot, Option.some.injEq] at hf
      subst hf
      have := qxv hcs hl
      subst this
      simp only [act, PObj.toA] at hr
      cases hr
      exact ⟨⟨by trivial, of_decide_eq_true hb, by trivial, by trivial, by trivial, trivial⟩, fun _ => rfl, rfl⟩
    · intro hb _
      refine ⟨rfl, fun F cs r hf hcs hr => ?_⟩
      simp only [foot, Option.some.injEq] at hf
      subst hf
      have := qxv hcs hl
      subst this
      simp only [act, PObj.toA] at hr
      cases hr
      exact ⟨⟨Nat.le_of_not_lt (of_decide_eq_false hb), trivial⟩, fun _ => rfl, rfl⟩
  · cases h
theorem objs_nil {m : List (Option AObj)} {cs : List AObj} (h : objs m [] = some cs) : cs = [] := by simpa [objs] using h.symm
theorem plain_ok {o : Op} {vals : List AV} {mem : List (Option PObj)} {chk : Bool} (h : ∀ F cs r, foot {} o vals = some F → objs (memA mem) F.rd = some cs → act P {} o vals cs = some r → chk = true → AllP r.obl ∧ F.ws = [] ∧ r.new = []) : AltOK P o vals mem (.ok chk {} [] []) := by
  intro hc
  refine ⟨rfl, fun F cs r hf hcs hr => ?_⟩
  obtain ⟨a, b, c⟩ := h F cs r hf hcs hr hc
  exact ⟨a, fun e => absurd b e, c⟩
theorem pact_sound {o : Op} {vals : List AV} {mem : List (Option PObj)} {a : Alt} (h : pact P o vals mem = some a) : AltOK P o vals mem a := by
  unfold pact at h
  split at h
  ·
    rw [okP_eq h]
    refine plain_ok fun F cs r hf hcs hr _ => ?_
    simp only [foot, footV, Option.some.injEq] at hf; subst hf
    simp only [act, moveA] at hr; cases hr
    exact ⟨trivial, rfl, rfl⟩
  · rw [okP_eq h]
    refine plain_ok fun F cs r hf hcs hr _ => ?_
    simp only [foot, footV, Option.some.injEq] at hf; subst hf
    simp only [act, moveA] at hr; cases hr
    exact ⟨trivial, rfl, rfl⟩
  ·
    rename_i v1 v2 v3
    rw [okP_eq h]
    refine plain_ok fun F cs r hf hcs hr _ => ?_
    simp only [foot, Option.some.injEq] at hf; subst hf
    cases v1 <;> simp only [act] at hr <;> cases hr
    exact ⟨trivial, rfl, rfl⟩
  ·
    rename_i t
    simp only [Option.map_eq_some_iff] at h
    obtain ⟨z, hz, rfl⟩ := h
    intro _
    refine ⟨rfl, fun F cs r hf hcs hr => ?_⟩
    simp only [foot, Option.some.injEq] at hf; subst hf
    simp only [act, hz] at hr
    split at hr
    · cases hr; exact ⟨trivial, fun e => absurd rfl e, rfl⟩
    · cases hr
  ·
    rename_i t x v
    cases h
    intro _
    refine ⟨rfl, fun F cs r hf hcs hr => ?_⟩
    simp only [foot, Option.some.injEq] at hf; subst hf
    simp only [act] at hr
    split at hr
    · cases hr; exact ⟨trivial, fun e => absurd rfl e, rfl⟩
    · cases hr
  ·
    rename_i t ps
    rw [okP_eq h]
    refine plain_ok fun F cs r hf hcs hr hc => ?_
    have hF : F = .no := by
      cases vals with
      | nil => simp only [foot, Option.some.injEq] at hf; exact hf.symm
      | cons a vs => simp only [foot, Option.some.injEq] at hf; exact hf.symm
    subst hF
    simp only [act] at hr
    split at hr
    · rename_i ob c hb
      split at hr
      · cases hr; exact ⟨build_sound hb hc, rfl, rfl⟩
      · cases hr
    · cases hr
  ·
    rename_i t len ps
    split at h
    · rename_i e hu
      split at h
      · rename_i ie z hi hz
        split at h
        · rename_i ob c hf0
          split at h
          · rename_i x h1
            have hx : len = 1 ∧ c = [.int .i64 x] := by
              unfold oneI at h1
              split at h1
              · cases h1; exact ⟨rfl, rfl⟩
              · cases h1
            obtain ⟨rfl, rfl⟩ := hx
            cases h
            intro hc
            refine ⟨rfl, fun F cs r hf hcs hr => ?_⟩
            have hF : F = ⟨[], [], [frn mem]⟩ := by
              cases vals with
              | nil => simp only [foot, Option.some.injEq] at hf; exact hf.symm
              | cons a vs => simp only [foot, Option.some.injEq] at hf; exact hf.symm
            subst hF
            rw [Bool.and_eq_true, beqT] at hc
            obtain ⟨hc, hs⟩ := hc
            simp only [act, hu, hi, hz, if_true, true_or] at hr
            split at hr
            · simp only [hf0] at hr
              cases hr
              refine ⟨?_, fun e => absurd rfl e, rfl⟩
              rw [sealR_obl]
              refine qzu.2 ⟨qzu.2 ⟨(fillB_sound _ _ _ _ hf0 hc).1, ?_, trivial⟩, ?_, trivial⟩
              · rw [hs]; rfl
              · rw [hs]; rfl
            · cases hr
          · cases h
            intro hc
            refine ⟨rfl, fun F cs r hf hcs hr => ?_⟩
            have hF : F = ⟨[], [], [frn mem]⟩ := by
              cases vals with
              | nil => simp only [foot, Option.some.injEq] at hf; exact hf.symm
              | cons a vs => simp only [foot, Option.some.injEq] at hf; exact hf.symm
            subst hF
            simp only [act, hu, hi, hz] at hr
            split at hr
            · simp only [hf0] at hr
              cases hr
              exact ⟨(fillB_sound _ _ _ _ hf0 hc).1, fun e => absurd rfl e, rfl⟩
            · cases hr
        · cases h
      · cases h
    · cases h
  ·
    rename_i t x1 x2 k1 len k2 cap
    split at h
    · rename_i e hu
      split at h
      · rename_i ie z hi hz
        have fl : ∀ (k : IntKind) (n : Int), (List.replicate cap.toNat (AV.int k n).cells).flatten = ints k (List.replicate cap.toNat n) := fun k n => by
          simp [AV.cells, ints, List.flatten_replicate_singleton, List.map_replicate]
        split at h
        · cases h
          intro hc
          refine ⟨rfl, fun F cs r hf hcs hr => ?_⟩
          simp only [foot, Option.some.injEq] at hf; subst hf
          have hc := of_decide_eq_true hc
          simp only [act, hu, hi, hz, show ((0 : Nat) = 3) = False from by simp, if_false] at hr
          split at hr
          · cases hr
            refine ⟨⟨hc.1, hc.2.1, hc.2.2.1, hc.2.2.2, ?_, trivial⟩, fun e => absurd rfl e, rfl⟩
            rw [fl]; simp [PObj.toA, ints, u8s, List.map_replicate]
          · cases hr
        · cases h
          intro hc
          refine ⟨rfl, fun F cs r hf hcs hr => ?_⟩
          simp only [foot, Option.some.injEq] at hf; subst hf
          have hc := of_decide_eq_true hc
          simp only [act, hu, hi, hz, show ((0 : Nat) = 3) = False from by simp, if_false] at hr
          split at hr
          · cases hr
            refine ⟨⟨hc.1, hc.2.1, hc.2.2.1, hc.2.2.2, ?_, trivial⟩, fun e => absurd rfl e, rfl⟩
            simp [PObj.toA, AV.cells, List.flatten_replicate_singleton, List.map_replicate]
          · cases hr
        · cases h
          intro hc
          refine ⟨rfl, fun F cs r hf hcs hr => ?_⟩
          simp only [foot, Option.some.injEq] at hf; subst hf
          have hc := of_decide_eq_true hc
          simp only [act, hu, hi, hz, show ((0 : Nat) = 3) = False from by simp, if_false] at hr
          split at hr
          · cases hr
            refine ⟨⟨hc.1, hc.2.1, hc.2.2.1, hc.2.2.2, ?_, trivial⟩, fun e => absurd rfl e, rfl⟩
            rw [fl]; rfl
          · cases hr
        · split at h
          · rename_i sh r hsr
            cases h
            intro hc
            refine ⟨rfl, fun F cs r' hf hcs hr => ?_⟩
            simp only [foot, Option.some.injEq] at hf; subst hf
            simp only [Bool.and_eq_true, decide_eq_true_eq, beqT] at hc
            obtain ⟨hc, hs⟩ := hc
            have hro : rowA sh r = z.cells := by
              split at hsr
              · simp only [Option.bind_eq_some_iff, Option.map_eq_some_iff, Prod.mk.injEq] at hsr
                obtain ⟨sh', _, r', h1, rfl, rfl⟩ := hsr
                exact rowOf_sound _ _ _ h1
              · cases hsr
            simp only [act, hu, hi, hz, if_true] at hr
            split at hr
            · cases hr
              refine ⟨⟨hc.1, hc.2.1, hc.2.2.1, hc.2.2.2, ?_, trivial⟩, fun e => absurd rfl e, rfl⟩
              rw [hs]
              simp only [PObj.toA, rowsA, List.flatMap_replicate, hro]
            · cases hr
          · cases h
            intro hc
            refine ⟨rfl, fun F cs r hf hcs hr => ?_⟩
            simp only [foot, Option.some.injEq] at hf; subst hf
            have hc := of_decide_eq_true hc
            simp only [act, hu, hi, hz, show ((0 : Nat) = 3) = False from by simp, if_false] at hr
            split at hr
            · cases hr
              exact ⟨⟨hc.1, hc.2.1, hc.2.2.1, hc.2.2.2, trivial⟩, fun e => absurd rfl e, rfl⟩
            · cases hr
      · cases h
    · cases h
  · exact loadP_sound h
  · exact loadGP_sound h
  · exact loadDP_sound h
  · exact loadRP_sound h
  · exact storeP_sound h
  · exact storeRP_sound h
  ·
    rename_i x v
    rw [okP_eq h]
    refine plain_ok fun F cs r hf hcs hr _ => ?_
    simp only [foot, Option.some.injEq] at hf; subst hf
    cases v <;> simp only [act] at hr <;> cases hr <;> exact ⟨trivial, rfl, rfl⟩
  ·
    rename_i op t x1 x2 yt x y
    rw [okP_eq h]
    refine plain_ok fun F cs r hf hcs hr hc => ?_
    simp only [foot, Option.some.injEq] at hf; subst hf
    simp only [act] at hr
    rw [if_neg (by simp)] at hr
    split at hr
    · cases hr; exact ⟨trivial, rfl, rfl⟩
    · cases hr; exact ⟨trivial, rfl, rfl⟩
    · obtain ⟨ob, v, q1, rfl⟩ := ok1_spec hr
      exact ⟨binP_sound q1 hc, rfl, rfl⟩
  ·
    rw [okP_eq h]
    refine plain_ok fun F cs r hf hcs hr hc => ?_
    simp only [foot, Option.some.injEq] at hf; subst hf
    simp only [act] at hr
    obtain ⟨ob, v, q1, rfl⟩ := ok1_spec hr
    have := unA_obl q1; subst this
    exact ⟨trivial, rfl, rfl⟩
  · exact convP_sound h
  ·
    rename_i t x v
    rw [okP_eq h]
    refine plain_ok fun F cs r hf hcs hr hc => ?_
    simp only [foot, Option.some.injEq] at hf; subst hf
    simp only [act] at hr
    split at hr
    · cases hr
    · split at hr
      · cases hr; exact ⟨trivial, rfl, rfl⟩
      · cases hr
    · cases hr
  ·
    rename_i f x y
    rw [okP_eq h]
    refine plain_ok fun F cs r hf hcs hr hc => ?_
    have hF : F = .no := by
      cases vals with
      | nil => simp only [foot, Option.some.injEq] at hf; exact hf.symm
      | cons a vs => simp only [foot, Option.some.injEq] at hf; exact hf.symm
    subst hF
    cases f <;> simp only [act] at hr <;> try (cases hr; done)
    split at hr
    · cases hr; exact ⟨trivial, rfl, rfl⟩
    · cases hr
  · exact sliceP_sound h
  ·
    rename_i t x f v
    rw [okP_eq h]
    refine plain_ok fun F cs r hf hcs hr hc => ?_
    simp only [foot, Option.some.injEq] at hf; subst hf
    cases v <;> simp only [act] at hr <;> try (cases hr; done)
    all_goals
      split at hr
      · split at hr
        · split at hr
          · cases hr; exact ⟨trivial, rfl, rfl⟩
          · cases hr
        · cases hr
      · cases hr
  ·
    rename_i t x f c
    split at h
    · rename_i fs hu
      split at h
      · rename_i fd hfd
        split at h
        · rename_i d hd
          rw [okP_eq h]
          refine plain_ok fun F cs r hf hcs hr hc => ?_
          simp only [foot, Option.some.injEq] at hf; subst hf
          simp only [act, hu, hfd, hd] at hr
          split at hr
          · rename_i ha
            rw [if_pos ha, bleT] at hc
            cases hr; exact ⟨⟨hc, trivial⟩, rfl, rfl⟩
          · simp only [Option.map_eq_some_iff] at hr
            obtain ⟨v, _, rfl⟩ := hr
            exact ⟨trivial, rfl, rfl⟩
        · cases h
      · cases h
    · cases h
  ·
    rename_i t x1 x2 x k i
    split at h
    · rename_i xa _ _ n e hu
      rw [okP_eq h]
      refine plain_ok fun F cs r hf hcs hr hc => ?_
      simp only [foot, Option.some.injEq] at hf; subst hf
      have hc := of_decide_eq_true hc
      cases xa <;> simp only [act, hu] at hr <;> try (cases hr; done)
      all_goals
        split at hr
        · cases hr; exact ⟨⟨hc.1, hc.2, trivial⟩, rfl, rfl⟩
        · cases hr
    · rename_i e nm off len cap hu
      rw [okP_eq h]
      refine plain_ok fun F cs r hf hcs hr hc => ?_
      simp only [foot, Option.some.injEq] at hf; subst hf
      have hc := of_decide_eq_true hc
      simp only [act, hu] at hr
      split at hr
      · cases hr; exact ⟨⟨hc.1, hc.2, trivial⟩, rfl, rfl⟩
      · cases hr
    · rename_i e nm len hu
      split at h
      · cases h
        intro hc
        refine ⟨rfl, fun F cs r hf hcs hr => ?_⟩
        simp only [foot, Option.some.injEq] at hf; subst hf
        have hc := of_decide_eq_true hc
        simp only [act, hu] at hr
        split at hr
        · cases hr; exact ⟨⟨hc.1, hc.2, trivial⟩, fun e => absurd rfl e, rfl⟩
        · cases hr
      · rw [okP_eq h]
        refine plain_ok fun F cs r hf hcs hr hc => ?_
        simp only [foot, Option.some.injEq] at hf; subst hf
        have hc := of_decide_eq_true hc
        simp only [act, hu] at hr
        split at hr
        · cases hr; exact ⟨⟨hc.1, hc.2, trivial⟩, rfl, rfl⟩
        · cases hr
    · rename_i e nm len hu
      split at h
      · cases h
        intro hc
        refine ⟨rfl, fun F cs r hf hcs hr => ?_⟩
        simp only [foot, Option.some.injEq] at hf; subst hf
        have hc := of_decide_eq_true hc
        simp only [act, hu] at hr
        split at hr
        · cases hr; exact ⟨⟨hc.1, hc.2, trivial⟩, fun e => absurd rfl e, rfl⟩
        · cases hr
      · cases h
        intro hc
        refine ⟨rfl, fun F cs r hf hcs hr => ?_⟩
        simp only [foot, Option.some.injEq] at hf; subst hf
        have hc := of_decide_eq_true hc
        simp only [act, hu] at hr
        split at hr
        · cases hr; exact ⟨⟨hc.1, hc.2, trivial⟩, fun e => absurd rfl e, rfl⟩
        · cases hr
      · rw [okP_eq h]
        refine plain_ok fun F cs r hf hcs hr hc => ?_
        simp only [foot, Option.some.injEq] at hf; subst hf
        have hc := of_decide_eq_true hc
        simp only [act, hu] at hr
        split at hr
        · cases hr; exact ⟨⟨hc.1, hc.2, trivial⟩, rfl, rfl⟩
        · cases hr
    · rename_i e nm w' off len hu
      rw [okP_eq h]
      refine plain_ok fun F cs r hf hcs hr hc => ?_
      simp only [foot, Option.some.injEq] at hf; subst hf
      simp only [Bool.and_eq_true, decide_eq_true_eq] at hc
      simp only [act, hu] at hr
      split at hr
      · cases hr; exact ⟨⟨hc.1.1, hc.1.2, Nat.eq_of_beq_eq_true hc.2, trivial⟩, rfl, rfl⟩
      · cases hr
    · cases h
  ·
    rename_i t x1 x2 x k i
    split at h
    · rename_i s hu
      cases h
      intro hc
      refine ⟨rfl, fun F cs r hf hcs hr => ?_⟩
      simp only [foot, Option.some.injEq] at hf; subst hf
      have hc := of_decide_eq_true hc
      simp only [act, hu] at hr
      cases hr
      exact ⟨⟨hc.1, strGet hc.2, trivial⟩, fun e => absurd rfl e, rfl⟩
    · rename_i n e c hu
      split at h
      · rename_i d hd
        rw [okP_eq h]
        refine plain_ok fun F cs r hf hcs hr hc => ?_
        simp only [foot, Option.some.injEq] at hf; subst hf
        simp only [Bool.and_eq_true] at hc
        obtain ⟨hc1, hc2⟩ := hc
        have hc1 := of_decide_eq_true hc1
        simp only [act, hu, hd] at hr
        split at hr
        · rename_i ha
          rw [if_pos ha, bleT] at hc2
          cases hr; exact ⟨⟨hc1.1, hc1.2, hc2, trivial⟩, rfl, rfl⟩
        · simp only [Option.map_eq_some_iff] at hr
          obtain ⟨v, _, rfl⟩ := hr
          exact ⟨⟨hc1.1, hc1.2, trivial⟩, rfl, rfl⟩
      · cases h
    · cases h
  ·
    rename_i x i v
    rw [okP_eq h]
    refine plain_ok fun F cs r hf hcs hr hc => ?_
    simp only [foot, Option.some.injEq] at hf; subst hf
    cases v <;> simp only [act] at hr <;> try (cases hr; done)
    simp only [Option.map_eq_some_iff] at hr
    obtain ⟨v, _, rfl⟩ := hr
    exact ⟨trivial, rfl, rfl⟩
  ·
    rename_i t x s
    cases h
    intro _
    refine ⟨rfl, fun F cs r hf hcs hr => ?_⟩
    simp only [foot, Option.some.injEq] at hf; subst hf
    simp only [act] at hr
    split at hr
    · rename_i hnm
      cases hnm
      cases hr; exact ⟨trivial, fun e => absurd rfl e, rfl⟩
    · cases hr
  · exact nextP_sound h
  ·
    rename_i t
    simp only [Option.map_eq_some_iff] at h
    obtain ⟨n, hn, rfl⟩ := h
    intro _
    refine ⟨rfl, fun F cs r hf hcs hr => ?_⟩
    simp only [foot, Option.some.injEq] at hf; subst hf
    simp only [act, hn] at hr
    cases hr; exact ⟨trivial, fun e => absurd rfl e, rfl⟩
  ·
    rw [okP_eq h]
    refine plain_ok fun F cs r hf hcs hr _ => ?_
    simp only [foot, Option.some.injEq] at hf; subst hf
    simp only [act, lookS] at hr
    split at hr
    · split at hr
      · cases hr; exact ⟨trivial, rfl, rfl⟩
      · cases hr
    · cases hr
  ·
    rename_i t x1 x2 x3 nm cs'
    split at h
    · rename_i k n ks hk hl
      cases h
      intro _
      refine ⟨rfl, fun F cs r hf hcs hr => ?_⟩
      simp only [foot, Option.some.injEq] at hf; subst hf
      have := qxv hcs hl
      subst this
      simp only [act, updS, hk, PObj.toA] at hr
      split at hr
      · rename_i heq1 heq2 heq3
        cases heq2; cases heq3
        split at hr
        · cases hr; exact ⟨trivial, fun _ => rfl, rfl⟩
        · cases hr
      · cases hr
    · cases h
  ·
    rename_i c
    split at h
    · rename_i v hc
      rw [okP_eq h]
      refine plain_ok fun F cs r hf hcs hr _ => ?_
      simp only [foot, hc, Option.some.injEq] at hf; subst hf
      simp only [act, hc] at hr
      split at hr
      · rename_i e2
        cases e2
        simp only [Option.map_eq_some_iff] at hr
        obtain ⟨v, _, rfl⟩ := hr
        exact ⟨trivial, rfl, rfl⟩
      · cases hr
    · rename_i v w hc
      rw [okP_eq h]
      refine plain_ok fun F cs r hf hcs hr _ => ?_
      simp only [foot, hc, Option.some.injEq] at hf; subst hf
      simp only [act, hc, Option.map_eq_some_iff] at hr
      obtain ⟨v, _, rfl⟩ := hr
      exact ⟨trivial, rfl, rfl⟩
    · rename_i v w hc
      rw [okP_eq h]
      refine plain_ok fun F cs r hf hcs hr _ => ?_
      simp only [foot, hc, Option.some.injEq] at hf; subst hf
      simp only [act, hc, Option.map_eq_some_iff] at hr
      obtain ⟨v, _, rfl⟩ := hr
      exact ⟨trivial, rfl, rfl⟩
    · rename_i s x hc
      exact appendP_sound hc h
    · rename_i v hc
      rw [okP_eq h]
      refine plain_ok fun F cs r hf hcs hr _ => ?_
      simp only [foot, hc, Option.some.injEq] at hf; subst hf
      simp only [act, hc] at hr
      split at hr
      · rename_i e2
        cases e2
        simp only [Option.map_eq_some_iff] at hr
        obtain ⟨v, _, rfl⟩ := hr
        exact ⟨trivial, rfl, rfl⟩
      · cases hr
    · rename_i s hc
      cases h
      intro _
      refine ⟨rfl, fun F cs r hf hcs hr => ?_⟩
      simp only [foot, hc, AV.name, List.append_nil, Option.some.injEq] at hf; subst hf
      simp only [act, hc] at hr
      split at hr
      · rename_i e2
        cases e2
        split at hr
        · cases hr
          exact ⟨trivial, fun _ => objs_nameP hcs, rfl⟩
        · cases hr
      · rename_i hx e2 hn
        cases hn
        exact absurd rfl hx
      · cases hr
    · rename_i nm off len cap x hne hc
      split at h
      · rename_i te hte
        split at h
        · rename_i ie hi
          split at h
          · rename_i l e ob n d hl hw
            cases h
            intro hb
            refine ⟨rfl, fun F cs r hf hcs hr => ?_⟩
            simp only [Bool.and_eq_true, decide_eq_true_eq] at hb
            obtain ⟨b1, b2, b3⟩ := hb
            simp only [foot, hc, Option.some.injEq] at hf; subst hf
            have hcs : objs (memA mem) ([nm] ++ x.name) = some cs := hcs
            obtain ⟨a1, a2, k1, k2, rfl⟩ := objs_append _ _ _ hcs
            have := qxv k1 hl
            subst this
            simp only [act, hc] at hr
            split at hr
            · rename_i e2 hn
              cases hn
              exact absurd rfl hne
            · rename_i e0 s x0 hx e2 hn
              cases hn
              rw [hte] at e2
              cases e2
              simp only [copyA, hi, List.singleton_append] at hr
              split at hr
              · rename_i o0 oc ob' n' cc hk hel
                simp only [PObj.toA, AObj.known, Option.some.injEq, Prod.mk.injEq] at hk
                obtain ⟨rfl, rfl⟩ := hk
                obtain ⟨n1, n2, n3⟩ := newsP_sound hw k2 hel
                simp only [News.n] at n1
                simp only [News.A] at n2
                subst n1; subst n2
                simp only [PObj.toA, AObj.setCells] at hr
                cases hr
                refine ⟨qzu.2 ⟨n3 b1, b2, by rw [u8s_length, u8s_length]; exact b3, ?_, trivial⟩, fun _ => ?_, rfl⟩
                · rw [u8s_length]; simp [PObj.toA, u8s, List.map_take, List.map_drop]
                · simp only [List.map_cons, objs_nameP k2]; rfl
              · cases hr
            · cases hr
          · cases h
        · cases h
      · cases h
    · rename_i hc
      rw [okP_eq h]
      refine plain_ok fun F cs r hf hcs hr _ => ?_
      simp only [foot, hc, AV.name, Option.some.injEq] at hf; subst hf
      simp only [act, hc, objs_nil hcs, sliceDataA] at hr
      cases hr
      exact ⟨trivial, rfl, rfl⟩
    · rename_i nm len hc
      split at h
      · rename_i cs0 t sz hl
        cases h
        intro hb
        refine ⟨rfl, fun F cs r hf hcs hr => ?_⟩
        simp only [foot, hc, AV.name, Option.some.injEq] at hf; subst hf
        have := qxv hcs hl
        subst this
        simp only [act, hc, sliceDataA, PObj.toA] at hr
        cases hr
        exact ⟨⟨bltT.1 hb, trivial⟩, fun e => absurd rfl e, rfl⟩
      · rename_i l t hl
        cases h
        intro hb
        refine ⟨rfl, fun F cs r hf hcs hr => ?_⟩
        simp only [foot, hc, AV.name, Option.some.injEq] at hf; subst hf
        have := qxv hcs hl
        subst this
        simp only [act, hc, sliceDataA, PObj.toA] at hr
        cases hr
        exact ⟨⟨by rw [u8s_length]; exact of_decide_eq_true hb, trivial⟩, fun e => absurd rfl e, rfl⟩
      · rename_i l t hl
        cases h
        intro hb
        refine ⟨rfl, fun F cs r hf hcs hr => ?_⟩
        simp only [foot, hc, AV.name, Option.some.injEq] at hf; subst hf
        have := qxv hcs hl
        subst this
        simp only [act, hc, sliceDataA, PObj.toA] at hr
        cases hr
        exact ⟨⟨by rw [u8s_length]; exact of_decide_eq_true hb, trivial⟩, fun e => absurd rfl e, rfl⟩
      · cases h
    · rename_i n hc
      rw [okP_eq h]
      refine plain_ok fun F cs r hf hcs hr hb => ?_
      simp only [foot, hc, AV.name, Option.some.injEq] at hf; subst hf
      simp only [act, hc, objs_nil hcs, unsafeStrA] at hr
      split at hr
      · rename_i e2 e3 e4
        cases e2
        cases hr
        exact ⟨⟨by simpa using hb, trivial⟩, rfl, rfl⟩
      · rename_i e2 e3 e4; cases e2
      · rename_i e2 e3 e4; cases e2
      · cases hr
    · rename_i nm n hc
      split at h
      · rename_i l t hl
        cases h
        intro hb
        refine ⟨rfl, fun F cs r hf hcs hr => ?_⟩
        simp only [foot, hc, AV.name, Option.some.injEq] at hf; subst hf
        have := qxv hcs hl
        subst this
        simp only [Bool.and_eq_true, beq_iff_eq, Bool.not_eq_true', List.isEmpty_eq_false_iff, decide_eq_true_eq] at hb
        obtain ⟨⟨b1, b2⟩, b3⟩ := hb
        simp only [act, hc, unsafeStrA, PObj.toA] at hr
        split at hr
        · rename_i e2 e3 e4; cases e2
        · rename_i e2 e3 e4
          cases e2; cases e3
          split at hr
          · split at hr
            · cases hr
              exact ⟨⟨rfl, b1, b2, b3, trivial⟩, fun _ => rfl, rfl⟩
            · cases hr
          · cases hr
        · rename_i e2 e3 e4; cases e3
        · cases hr
      · rename_i l t hl
        cases h
        intro hb
        refine ⟨rfl, fun F cs r hf hcs hr => ?_⟩
        simp only [foot, hc, AV.name, Option.some.injEq] at hf; subst hf
        have := qxv hcs hl
        subst this
        simp only [Bool.and_eq_true, beq_iff_eq, Bool.not_eq_true', List.isEmpty_eq_false_iff, decide_eq_true_eq] at hb
        obtain ⟨⟨b1, b2⟩, b3⟩ := hb
        simp only [act, hc, unsafeStrA, PObj.toA] at hr
        split at hr
        · rename_i e2 e3 e4; cases e2
        · rename_i e2 e3 e4; cases e3
        · rename_i e2 e3 e4
          cases e2; cases e3
          split at hr
          · split at hr
            · cases hr
              exact ⟨⟨rfl, b1, b2, b3, trivial⟩, fun _ => rfl, rfl⟩
            · cases hr
          · cases hr
        · cases hr
      · cases h
    · cases h
  · cases h
end Go.Proofs.YtphhepnldndbhaaGreatDoor.Sx
namespace Go.Proofs.YtphhepnldndbhaaGreatDoor.Sx
open Go
variable {P : Program}
mutual
def AV.names : AV → List Nat
  | .ptr nm _ => [nm]
  | .slice nm _ _ _ => [nm]
  | .vec nm _ => [nm]
  | .dsl nm _ => [nm]
  | .dptr nm _ => [nm]
  | .rptr nm _ _ _ => [nm]
  | .vsl nm _ _ _ => [nm]
  | .mapp nm => [nm]
  | .agg cs => namesL cs
  | .tuple cs => namesL cs
  | .func _ as cs => namesL as ++ namesL cs
  | .iface _ v => v.names
  | _ => []
def namesL : List AV → List Nat
  | [] => []
  | v :: vs => v.names ++ namesL vs
end
def posN : List Nat → Nat → Nat
  | [], _ => 0
  | m :: r, n => if Nat.beq m n then 0 else posN r n + 1
def hasN : List Nat → Nat → Bool
  | [], _ => false
  | m :: r, n => Nat.beq m n || hasN r n
def subN (r : List Nat) : List Nat → Bool
  | [] => true
  | n :: ns => hasN r n && subN r ns
theorem posN_get : ∀ {r : List Nat} {n : Nat}, hasN r n = true → r[posN r n]? = some n
  | [], n, h => by simp [hasN] at h
  | m :: r, n, h => by
    simp only [hasN, Bool.or_eq_true] at h
    simp only [posN]
    split
    · rename_i e; rw [beqT.1 e]; rfl
    · rename_i e
      rcases h with h | h
      · exact absurd h e
      · simpa using posN_get h
mutual
def AV.unren (r : List Nat) : AV → AV
  | .ptr nm off => .ptr (posN r nm) off
  | .slice nm off l c => .slice (posN r nm) off l c
  | .vec nm l => .vec (posN r nm) l
  | .dsl nm l => .dsl (posN r nm) l
  | .dptr nm l => .dptr (posN r nm) l
  | .rptr nm w i j => .rptr (posN r nm) w i j
  | .vsl nm w i j => .vsl (posN r nm) w i j
  | .mapp nm => .mapp (posN r nm)
  | .agg cs => .agg (unrenL r cs)
  | .tuple cs => .tuple (unrenL r cs)
  | .func f as cs => .func f (unrenL r as) (unrenL r cs)
  | .iface t v => .iface t (v.unren r)
  | .bool b => .bool b
  | .int k n => .int k n
  | .str s => .str s
  | .nilptr => .nilptr
  | .qzz => .qzz
  | .gptr g off => .gptr g off
  | .nilfunc => .nilfunc
  | .nilmap => .nilmap
  | .niliface => .niliface
  | .bad => .bad
def unrenL (r : List Nat) : List AV → List AV
  | [] => []
  | v :: vs => v.unren r :: unrenL r vs
end
theorem subN_append {r a b : List Nat} : subN r (a ++ b) = true ↔ subN r a = true ∧ subN r b = true := by
  induction a with
  | nil => simp [subN]
  | cons n a ih => simp [subN, ih, and_assoc]
theorem subN_one {r : List Nat} {n : Nat} : subN r [n] = true ↔ hasN r n = true := by simp [subN]
theorem get_app {r x : List Nat} {i n : Nat} (h : r[i]? = some n) : (r ++ x)[i]? = some n := by
  rw [List.getElem?_append_left (List.getElem?_eq_some_iff.1 h).1]; exact h
mutual
theorem ren_unren {r x : List Nat} : ∀ (v : AV), subN r v.names = true → (v.unren r).ren (r ++ x) = v
  | .ptr nm off, h => by simp only [AV.unren, AV.ren, get_app (x := x) (posN_get (subN_one.1 h))]
  | .slice nm off l c, h => by simp only [AV.unren, AV.ren, get_app (x := x) (posN_get (subN_one.1 h))]
  | .vec nm l, h => by simp only [AV.unren, AV.ren, get_app (x := x) (posN_get (subN_one.1 h))]
  | .dsl nm l, h => by simp only [AV.unren, AV.ren, get_app (x := x) (posN_get (subN_one.1 h))]
  | .dptr nm l, h => by simp only [AV.unren, AV.ren, get_app (x := x) (posN_get (subN_one.1 h))]
  | .rptr nm w i j, h => by simp only [AV.unren, AV.ren, get_app (x := x) (posN_get (subN_one.1 h))]
  | .vsl nm w i j, h => by simp only [AV.unren, AV.ren, get_app (x := x) (posN_get (subN_one.1 h))]
  | .mapp nm, h => by simp only [AV.unren, AV.ren, get_app (x := x) (posN_get (subN_one.1 h))]
  | .agg cs, h => by simp only [AV.unren, AV.ren, renL_unren cs h]
  | .tuple cs, h => by simp only [AV.unren, AV.ren, renL_unren cs h]
  | .func f as cs, h => by
    obtain ⟨h1, h2⟩ := subN_append.1 h
    simp only [AV.unren, AV.ren, renL_unren as h1, renL_unren cs h2]
  | .iface t v, h => by simp only [AV.unren, AV.ren, ren_unren v h]
  | .bool b, _ => rfl
  | .int k n, _ => rfl
  | .str s, _ => rfl
  | .nilptr, _ => rfl
  | .qzz, _ => rfl
  | .gptr _ _, _ => rfl
  | .nilfunc, _ => rfl
  | .nilmap, _ => rfl
  | .niliface, _ => rfl
  | .bad, _ => rfl
theorem renL_unren {r x : List Nat} : ∀ (vs : List AV), subN r (namesL vs) = true → renL (r ++ x) (unrenL r vs) = vs
  | [], _ => rfl
  | v :: vs, h => by
    obtain ⟨h1, h2⟩ := subN_append.1 h
    simp only [unrenL, renL, ren_unren v h1, renL_unren vs h2]
end
def AObj.names : AObj → List Nat
  | .cells cs _ => namesL cs
  | .vec cs _ _ => namesL cs
  | .ro _ cs => namesL cs
  | .flat _ cs => namesL cs
  | .flatR _ _ _ => []
  | .flatN _ _ => []
  | .iter _ _ => []
  | .shut cs _ _ => namesL cs
  | .mapS _ _ => []
  | .loopR _ _ _ cs _ _ _ => namesL cs
  | .dead => []
def AObj.unren (r : List Nat) : AObj → AObj
  | .cells cs t => .cells (unrenL r cs) t
  | .vec cs t sz => .vec (unrenL r cs) t sz
  | .ro off cs => .ro off (unrenL r cs)
  | .flat m cs => .flat m (unrenL r cs)
  | .flatR m sh rows => .flatR m sh rows
  | .flatN sh rows => .flatN sh rows
  | .iter s p => .iter s p
  | .shut cs t sz => .shut (unrenL r cs) t sz
  | .mapS n ks => .mapS n ks
  | .loopR up n ix cs ps asg body => .loopR up n ix (unrenL r cs) ps asg body
  | .dead => .dead
theorem AObj.ren_unren {r x : List Nat} {o : AObj} (h : subN r o.names = true) : (o.unren r).ren (r ++ x) = o := by
  cases o <;> simp only [AObj.unren, AObj.ren] <;> first | rfl | rw [renL_unren _ h]
def PObj.names : PObj → List Nat
  | .raw o => o.names
  | _ => []
def PObj.unren (r : List Nat) : PObj → PObj
  | .raw o => .raw (o.unren r)
  | o => o
def PObj.ren (r : List Nat) : PObj → PObj
  | .raw o => .raw (o.ren r)
  | o => o
theorem renL_id {r : List Nat} : ∀ (l : List AV), (∀ v ∈ l, v.ren r = v) → renL r l = l
  | [], _ => rfl
  | v :: l, h => by simp only [renL]; rw [h v List.mem_cons_self, renL_id l fun u hu => h u (List.mem_cons_of_mem _ hu)]
theorem rowsA_mem {sh : List CK} {rows : List (List CV)} {v : AV} (h : v ∈ rowsA sh rows) : ∃ k c, v = cellA k c := by
  simp only [rowsA, List.mem_flatMap, rowA, List.mem_map] at h
  obtain ⟨r, _, j, _, rfl⟩ := h
  exact ⟨_, _, rfl⟩
theorem renL_rows (r : List Nat) (sh : List CK) (rows : List (List CV)) : renL r (rowsA sh rows) = rowsA sh rows := renL_id _ fun v hv => by
  obtain ⟨k, c, rfl⟩ := rowsA_mem hv
  cases k <;> rfl
theorem renL_bools (r : List Nat) (l : List Bool) : renL r (l.map AV.bool) = l.map AV.bool := renL_id _ fun v hv => by
  simp only [List.mem_map] at hv; obtain ⟨b, _, rfl⟩ := hv; rfl
theorem namesL_id : ∀ (l : List AV), (∀ v ∈ l, v.names = []) → namesL l = []
  | [], _ => rfl
  | v :: l, h => by simp only [namesL]; rw [h v List.mem_cons_self, namesL_id l fun u hu => h u (List.mem_cons_of_mem _ hu)]; rfl
theorem namesL_rows (sh : List CK) (rows : List (List CV)) : namesL (rowsA sh rows) = [] := namesL_id _ fun v hv => by
  obtain ⟨k, c, rfl⟩ := rowsA_mem hv
  cases k <;> rfl
theorem namesL_bools (l : List Bool) : namesL (l.map AV.bool) = [] := namesL_id _ fun v hv => by
  simp only [List.mem_map] at hv; obtain ⟨b, _, rfl⟩ := hv; rfl
theorem PObj.ren_toA (r : List Nat) (o : PObj) : (o.ren r).toA = o.toA.ren r := by
  cases o <;> simp [PObj.ren, PObj.toA, AObj.ren, renL_ints, renL_u8s, renL_rows, renL_bools]
theorem PObj.ren_unren {r x : List Nat} {o : PObj} (h : subN r o.names = true) : (o.unren r).toA.ren (r ++ x) = o.toA := by
  cases o with
  | raw o => exact AObj.ren_unren h
  | _ => simp [PObj.unren, PObj.toA, AObj.ren, renL_ints, renL_u8s, renL_rows, renL_bools]
def reach (mem : List (Option PObj)) : Nat → List Nat → List Nat → List Nat
  | 0, _, acc => acc
  | _ + 1, [], acc => acc
  | f + 1, n :: todo, acc =>
    if hasN acc n then reach mem f todo acc else
    match lookP mem n with
    | some o => reach mem f (todo ++ o.names) (acc ++ [n])
    | none => reach mem f todo acc
def nodupN : List Nat → Bool
  | [] => true
  | n :: ns => !hasN ns n && nodupN ns
theorem hasN_mem {r : List Nat} {n : Nat} : hasN r n = true ↔ n ∈ r := by
  induction r with
  | nil => simp [hasN]
  | cons m r ih =>
    simp only [hasN, Bool.or_eq_true, ih, beqT, List.mem_cons]
    constructor
    · rintro (h | h)
      · exact .inl h.symm
      · exact .inr h
    · rintro (h | h)
      · exact .inl h.symm
      · exact .inr h
theorem nodupN_spec : ∀ {r : List Nat}, nodupN r = true → r.Nodup
  | [], _ => List.nodup_nil
  | n :: ns, h => by
    simp only [nodupN, Bool.and_eq_true, Bool.not_eq_true'] at h
    have h1 := h.1
    exact List.nodup_cons.2 ⟨fun e => by (rw [hasN_mem.2 e] at h1; cases h1), nodupN_spec h.2⟩
def takeObjs (mem : List (Option PObj)) (r : List Nat) : List Nat → Option (List PObj)
  | [] => some []
  | n :: ns => match lookP mem n with
    | some o => if subN r o.names then (takeObjs mem r ns).map (o.unren r :: ·) else none
    | none => none
def keepSlots (r : List Nat) (keep : Nat → Bool) : Nat → List (Option AV) → List (Option AV)
  | _, [] => []
  | i, some v :: vs => (if keep i && subN r v.names then some (v.unren r) else none) :: keepSlots r keep (i + 1) vs
  | i, none :: vs => none :: keepSlots r keep (i + 1) vs
def firstN (K : Nat) (r : List Nat) : Bool := (List.range K).all fun n => r[n]? == some n
def compact (K NF : Nat) (r : List Nat) (keep : Nat → Bool) (s : qzw) : Option qzw :=
  if nodupN r && firstN K r then
    match takeObjs s.mem r r with
    | some os => some ⟨keepSlots r keep 0 s.slots, os.map some ++ List.replicate NF none⟩
    | none => none
  else none
theorem keepSlots_ren {r : List Nat} {keep : Nat → Bool} : ∀ (i : Nat) (vs : List (Option AV)), ∃ ob, renSlots r vs (keepSlots r keep i vs) = some ob ∧ AllP ob
  | i, [] => ⟨[], rfl, trivial⟩
  | i, none :: vs => by
    obtain ⟨ob, h1, h2⟩ := keepSlots_ren (r := r) (keep := keep) (i + 1) vs
    exact ⟨ob, by simpa [keepSlots, renSlots] using h1, h2⟩
  | i, some v :: vs => by
    obtain ⟨ob, h1, h2⟩ := keepSlots_ren (r := r) (keep := keep) (i + 1) vs
    simp only [keepSlots]
    split
    · rename_i h
      simp only [Bool.and_eq_true] at h
      have := ren_unren (x := []) v h.2
      rw [List.append_nil] at this
      exact ⟨(v = AV.ren r (AV.unren r v)) :: ob, by simp only [renSlots, h1, Option.map_some], this.symm, h2⟩
    · exact ⟨ob, by simpa [renSlots] using h1, h2⟩
theorem sameF_refl (o : AObj) : sameF o o := by cases o <;> first | rfl | exact ⟨rfl, by simp⟩
theorem takeObjs_spec {mem : List (Option PObj)} {r : List Nat} : ∀ (ns : List Nat) (os : List PObj), takeObjs mem r ns = some os → os.length = ns.length ∧ ∀ (i n : Nat), ns[i]? = some n → ∃ o, lookP mem n = some o ∧ os[i]? = some (o.unren r) ∧ subN r o.names = true
  | [], os, h => by simp [takeObjs] at h; subst h; exact ⟨rfl, fun i n hi => by simp at hi⟩
  | m :: ns, os, h => by
    simp only [takeObjs] at h
    split at h
    · rename_i o ho
      split at h
      · rename_i hs
        simp only [Option.map_eq_some_iff] at h
        obtain ⟨os', h', rfl⟩ := h
        obtain ⟨h1, h2⟩ := takeObjs_spec ns os' h'
        refine ⟨by simp [h1], fun i n hi => ?_⟩
        cases i with
        | zero => simp at hi; subst hi; exact ⟨o, ho, rfl, hs⟩
        | succ i => simpa using h2 i n (by simpa using hi)
      · cases h
    · cases h
theorem renMem_take {mem : List (Option PObj)} {r : List Nat} {NF : Nat} : ∀ (ns : List Nat) (os : List PObj), takeObjs mem r ns = some os → ∃ ob, renMem r (memA mem) ns (memA (os.map some ++ List.replicate NF none)) = some ob ∧ AllP ob
  | [], os, h => by
    simp [takeObjs] at h; subst h
    refine ⟨[], ?_, trivial⟩
    simp [memA, renMem]
  | m :: ns, os, h => by
    simp only [takeObjs] at h
    split at h
    · rename_i o ho
      split at h
      · rename_i hs
        simp only [Option.map_eq_some_iff] at h
        obtain ⟨os', h', rfl⟩ := h
        obtain ⟨ob, h1, h2⟩ := renMem_take ns os' h'
        have hm : (memA mem)[m]? = some (some o.toA) := by
          simp only [lookP, Option.join_eq_some_iff] at ho
          rw [memA_get, ho]; rfl
        have hsame : sameF o.toA ((o.unren r).toA.ren r) := by
          have := PObj.ren_unren (x := []) hs
          rw [List.append_nil] at this
          rw [this]; exact sameF_refl _
        have e : memA (List.map some (o.unren r :: os') ++ List.replicate NF none) = some (o.unren r).toA :: memA (os'.map some ++ List.replicate NF none) := rfl
        rw [e]
        by_cases hd : (o.unren r).toA = .dead
        · rw [hd]; exact ⟨ob, by simpa [renMem] using h1, h2⟩
        · refine ⟨sameF o.toA ((o.unren r).toA.ren r) :: ob, ?_, hsame, h2⟩
          generalize (o.unren r).toA = b at hd
          cases b <;> first | exact absurd rfl hd | simp only [renMem, hm, h1, Option.map_some]
      · cases h
    · cases h
theorem compact_ren {K NF : Nat} {r : List Nat} {keep : Nat → Bool} {s t : qzw} (h : compact K NF r keep s = some t) : ∃ ob, renA r K s.toA t.toA = some ob ∧ AllP ob := by
  unfold compact at h
  split at h
  · rename_i hc
    simp only [Bool.and_eq_true] at hc
    split at h
    · rename_i os ho
      cases h
      obtain ⟨o1, h1, k1⟩ := keepSlots_ren (r := r) (keep := keep) 0 s.slots
      obtain ⟨o2, h2, k2⟩ := renMem_take (NF := NF) r os ho
      refine ⟨o1 ++ o2, ?_, qzu.2 ⟨k1, k2⟩⟩
      unfold renA
      rw [if_pos]
      · simp only [qzw.toA, h1, h2]
      · simp only [Bool.and_eq_true, decide_eq_true_eq]
        refine ⟨⟨nodupN_spec hc.1, ?_⟩, hc.2⟩
        refine List.all_eq_true.2 fun n hn => ?_
        obtain ⟨i, hi⟩ := List.getElem?_of_mem hn
        obtain ⟨o, ho', _⟩ := (takeObjs_spec r os ho).2 i n hi
        simp only [lookP, Option.join_eq_some_iff] at ho'
        simp only [qzw.toA, memA_get, ho', Option.map_some]
    · cases h
  · cases h
end Go.Proofs.YtphhepnldndbhaaGreatDoor.Sx
namespace Go.Proofs.YtphhepnldndbhaaGreatDoor.Sx
open Go
variable {β : Type}
def forceN (n : Nat) (k : Nat → β) : β := match n with | 0 => k 0 | m + 1 => k (m + 1)
theorem forceN_eq (n : Nat) (k : Nat → β) : forceN n k = k n := by cases n <;> rfl
mutual
def forceV : AV → (AV → β) → β
  | .agg cs, k => forceVL cs fun cs => k (.agg cs)
  | .tuple cs, k => forceVL cs fun cs => k (.tuple cs)
  | .func f as cs, k => forceVL as fun as => forceVL cs fun cs => k (.func f as cs)
  | .iface t v, k => forceV v fun v => k (.iface t v)
  | .ptr nm off, k => forceN nm fun nm => k (.ptr nm off)
  | .slice nm off l c, k => forceN nm fun nm => k (.slice nm off l c)
  | .vec nm l, k => forceN nm fun nm => k (.vec nm l)
  | .dsl nm l, k => forceN nm fun nm => k (.dsl nm l)
  | .dptr nm l, k => forceN nm fun nm => k (.dptr nm l)
  | .rptr nm w i j, k => forceN nm fun nm => k (.rptr nm w i j)
  | .vsl nm w i j, k => forceN nm fun nm => k (.vsl nm w i j)
  | .mapp nm, k => forceN nm fun nm => k (.mapp nm)
  | .gptr nm l, k => forceN nm fun nm => k (.gptr nm l)
  | .bool b, k => k (.bool b)
  | .int kd n, k => k (.int kd n)
  | .str s, k => k (.str s)
  | .nilptr, k => k .nilptr
  | .qzz, k => k .qzz
  | .nilfunc, k => k .nilfunc
  | .nilmap, k => k .nilmap
  | .niliface, k => k .niliface
  | .bad, k => k .bad
def forceVL : List AV → (List AV → β) → β
  | [], k => k []
  | v :: vs, k => forceV v fun v => forceVL vs fun vs => k (v :: vs)
end
mutual
theorem forceV_eq : ∀ (v : AV) (k : AV → β), forceV v k = k v
  | .agg cs, k => by rw [forceV, forceVL_eq]
  | .tuple cs, k => by rw [forceV, forceVL_eq]
  | .func f as cs, k => by rw [forceV, forceVL_eq, forceVL_eq]
  | .iface t v, k => by rw [forceV, forceV_eq]
  | .ptr nm off, k => by rw [forceV, forceN_eq]
  | .slice nm off l c, k => by rw [forceV, forceN_eq]
  | .vec nm l, k => by rw [forceV, forceN_eq]
  | .dsl nm l, k => by rw [forceV, forceN_eq]
  | .dptr nm l, k => by rw [forceV, forceN_eq]
  | .rptr nm w i j, k => by rw [forceV, forceN_eq]
  | .vsl nm w i j, k => by rw [forceV, forceN_eq]
  | .mapp nm, k => by rw [forceV, forceN_eq]
  | .gptr nm l, k => by rw [forceV, forceN_eq]
  | .bool b, k => by rw [forceV]
  | .int kd n, k => by rw [forceV]
  | .str s, k => by rw [forceV]
  | .nilptr, k => by rw [forceV]
  | .qzz, k => by rw [forceV]
  | .nilfunc, k => by rw [forceV]
  | .nilmap, k => by rw [forceV]
  | .niliface, k => by rw [forceV]
  | .bad, k => by rw [forceV]
theorem forceVL_eq : ∀ (vs : List AV) (k : List AV → β), forceVL vs k = k vs
  | [], k => by rw [forceVL]
  | v :: vs, k => by rw [forceVL, forceV_eq, forceVL_eq]
end
def forceO : PObj → (PObj → β) → β
  | .raw (.cells cs t), k => forceVL cs fun cs => k (.raw (.cells cs t))
  | .raw (.vec cs t sz), k => forceVL cs fun cs => k (.raw (.vec cs t sz))
  | .raw (.ro off cs), k => forceVL cs fun cs => k (.raw (.ro off cs))
  | .raw (.flat m cs), k => forceVL cs fun cs => k (.raw (.flat m cs))
  | .raw (.flatR m sh rows), k => k (.raw (.flatR m sh rows))
  | .raw (.flatN sh rows), k => k (.raw (.flatN sh rows))
  | .raw (.iter s p), k => k (.raw (.iter s p))
  | .raw (.shut cs t sz), k => forceVL cs fun cs => k (.raw (.shut cs t sz))
  | .raw (.mapS n ks), k => k (.raw (.mapS n ks))
  | .raw (.loopR up n ix cs ps asg body), k => forceVL cs fun cs => k (.raw (.loopR up n ix cs ps asg body))
  | .raw .dead, k => k (.raw .dead)
  | .vecI kd l t, k => k (.vecI kd l t)
  | .arrI kd l t, k => k (.arrI kd l t)
  | .vecB l t, k => k (.vecB l t)
  | .arrB l t, k => k (.arrB l t)
  | .shutB l t, k => k (.shutB l t)
  | .vecR sh rows t, k => k (.vecR sh rows t)
  | .arrT l t, k => k (.arrT l t)
  | .flatI m l, k => k (.flatI m l)
  | .flatU m l, k => k (.flatU m l)
theorem forceO_eq (o : PObj) (k : PObj → β) : forceO o k = k o := by
  cases o with
  | raw o => cases o <;> simp only [forceO, forceVL_eq]
  | _ => rfl
def forceSl : List (Option AV) → (List (Option AV) → β) → β
  | [], k => k []
  | none :: vs, k => forceSl vs fun vs => k (none :: vs)
  | some v :: vs, k => forceV v fun v => forceSl vs fun vs => k (some v :: vs)
theorem forceSl_eq : ∀ (vs : List (Option AV)) (k : List (Option AV) → β), forceSl vs k = k vs
  | [], k => rfl
  | none :: vs, k => by rw [forceSl, forceSl_eq vs]
  | some v :: vs, k => by rw [forceSl, forceV_eq, forceSl_eq vs]
def forceM : List (Option PObj) → (List (Option PObj) → β) → β
  | [], k => k []
  | none :: vs, k => forceM vs fun vs => k (none :: vs)
  | some v :: vs, k => forceO v fun v => forceM vs fun vs => k (some v :: vs)
theorem forceM_eq : ∀ (vs : List (Option PObj)) (k : List (Option PObj) → β), forceM vs k = k vs
  | [], k => rfl
  | none :: vs, k => by rw [forceM, forceM_eq vs]
  | some v :: vs, k => by rw [forceM, forceO_eq, forceM_eq vs]
def forcePL : List PObj → (List PObj → β) → β
  | [], k => k []
  | v :: vs, k => forceO v fun v => forcePL vs fun vs => k (v :: vs)
theorem forcePL_eq : ∀ (vs : List PObj) (k : List PObj → β), forcePL vs k = k vs
  | [], k => rfl
  | v :: vs, k => by rw [forcePL, forceO_eq, forcePL_eq vs]
def forceS (s : qzw) (k : qzw → β) : β := forceSl s.slots fun sl => forceM s.mem fun m => k ⟨sl, m⟩
theorem forceS_eq (s : qzw) (k : qzw → β) : forceS s k = k s := by rw [forceS, forceSl_eq, forceM_eq]
end Go.Proofs.YtphhepnldndbhaaGreatDoor.Sx
namespace Go.Proofs.YtphhepnldndbhaaGreatDoor.Sx
open Go
variable {P : Program}
def maskOf (M : List Nat) (d : List Nat) : Nat := d.foldl (fun m k => m ||| (1 <<< k) ||| M.getD k 0) 0
def ancM : List (List Nat) → List Nat → List Nat
  | [], acc => acc
  | d :: ds, acc => ancM ds (acc ++ [maskOf acc d])
def maskOK (ops : Array Oper) (M : List Nat) : Bool :=
  Nat.beq M.length ops.size && (List.range ops.size).all fun i => Nat.beq (M.getD i 0) (maskOf M (directI ops i)) && (directI ops i).all fun k => Nat.blt k i
def pairsF (ops : Array Oper) (M : List Nat) (LG : Nat → Foot) : Bool :=
  (List.range ops.size).all fun i => (List.range i).all fun k => (M.getD i 0).testBit k || indepI ops LG k i
def orderF (P : Program) (ops : Array Oper) (fs : List Foot) : Bool :=
  let M := ancM (ops.toList.map direct) []
  P.follows .mixedOrders && maskOK ops M && pairsF ops M (fun i => fs.getD i .no)
theorem maskOf_testBit (M : List Nat) (m : Nat) : ∀ (d : List Nat) (a : Nat), (d.foldl (fun m k => m ||| (1 <<< k) ||| M.getD k 0) a).testBit m = (a.testBit m || d.any fun k => decide (k = m) || (M.getD k 0).testBit m)
  | [], a => by simp
  | k :: d, a => by
    rw [List.foldl_cons, maskOf_testBit M m d, Nat.testBit_or, Nat.testBit_or, Nat.one_shiftLeft, Nat.testBit_two_pow, List.any_cons, Bool.or_assoc, Bool.or_assoc, Bool.or_assoc]
def ancL (n : Nat) (M : List Nat) : List (List Nat) := M.map fun x => (List.range n).filter fun k => x.testBit k
theorem ancL_get {n : Nat} {M : List Nat} {i : Nat} (h : i < M.length) : (ancL n M).getD i [] = (List.range n).filter fun k => (M.getD i 0).testBit k := by
  simp [ancL, List.getD, h]
theorem orderF_sound {ops : Array Oper} {fs : List Foot} (h : orderF P ops fs = true) : ∃ A, P.follows .mixedOrders = true ∧ ancOK ops A = true ∧ pairsOK ops A (fun i => fs.getD i .no) = true := by
  simp only [orderF, Bool.and_eq_true] at h
  obtain ⟨⟨h1, h2⟩, h3⟩ := h
  generalize ancM (ops.toList.map direct) [] = M at h2 h3
  simp only [maskOK, Bool.and_eq_true] at h2
  obtain ⟨hl, h2⟩ := h2
  have hl := beqT.1 hl
  refine ⟨ancL ops.size M, h1, ?_, ?_⟩
  · unfold ancOK
    refine List.all_eq_true.2 fun i hi => ?_
    have hi' : i < ops.size := List.mem_range.1 hi
    have h2i := List.all_eq_true.1 h2 i hi
    simp only [Bool.and_eq_true] at h2i
    obtain ⟨g1, g2⟩ := h2i
    have g1 := beqT.1 g1
    simp only [Bool.and_eq_true]
    refine ⟨List.all_eq_true.2 fun k hk => ?_, List.all_eq_true.2 fun m hm => ?_⟩
    · have := bltT.1 (List.all_eq_true.1 g2 k hk); simpa using this
    · rw [ancL_get (by omega), List.mem_filter, List.mem_range] at hm
      obtain ⟨hm1, hm2⟩ := hm
      rw [g1, maskOf, maskOf_testBit, Nat.zero_testBit, Bool.false_or, List.any_eq_true] at hm2
      obtain ⟨k, hk, hk2⟩ := hm2
      simp only [Bool.or_eq_true, decide_eq_true_eq] at hk2 ⊢
      rcases hk2 with rfl | hk2
      · exact .inl (by simpa using hk)
      · refine .inr (List.any_eq_true.2 ⟨k, hk, ?_⟩)
        have hki := bltT.1 (List.all_eq_true.1 g2 k hk)
        rw [ancL_get (by omega), List.contains_iff_mem, List.mem_filter, List.mem_range]
        exact ⟨hm1, hk2⟩
  · unfold pairsOK
    unfold pairsF at h3
    refine List.all_eq_true.2 fun i hi => List.all_eq_true.2 fun k hk => ?_
    have := List.all_eq_true.1 (List.all_eq_true.1 h3 i hi) k hk
    have hi' : i < ops.size := List.mem_range.1 hi
    have hk' : k < i := List.mem_range.1 hk
    rw [ancL_get (by omega)]
    simp only [Bool.or_eq_true] at this ⊢
    rcases this with h | h
    · refine .inl ?_
      rw [List.contains_iff_mem, List.mem_filter, List.mem_range]
      exact ⟨by omega, h⟩
    · exact .inr h
end Go.Proofs.YtphhepnldndbhaaGreatDoor.Sx
namespace Go.Proofs.YtphhepnldndbhaaGreatDoor.Sx
open Go
variable {P : Program}
theorem Rel.alloc0 {w0 w : World} {M : Nat → Prop} {E : Env} {s : AState} {a : Act} (h : Rel w0 M E s a w) (x : Obj) : Rel w0 M E s a (w.alloc x) := by
  have hp : (w.alloc x).heap = w.heap.push x := rfl
  exact {
    size := h.size, slots := h.slots
    defers := h.defers.keep fun D hD => (push_old hp (Array.getElem?_eq_some_iff.1 hD).1).trans hD
    fresh := h.fresh
    mem := fun n o hn => by
      obtain ⟨b, c, hE, hob, hm⟩ := h.mem n o hn
      refine ⟨b, c, hE, ?_, hm⟩
      cases hl : o.live with
      | true => exact hob.block (fun h1 h2 => push_old hp (hob.lt h1 h2)) fun h1 k hk => push_old hp (hob.ltN h1 hk)
      | false => cases o <;> simp [AObj.live] at hl; trivial
    apart := h.apart
    frame := fun k hk hM => (push_old hp (Nat.lt_of_lt_of_le hk h.grow)).trans (h.frame k hk hM)
    grow := Nat.le_trans h.grow (by rw [hp]; simp)
    os := h.os, tape := h.tape, output := h.output, glob := h.glob, nest := h.nest }
theorem Rel.mark {w0 w : World} {M : Nat → Prop} {E : Env} {s : AState} {a : Act} (h : Rel w0 M E s a w) :
    Rel w0 M E s { a with defers := { target := .collected w.heap.size, args := #[] } :: a.defers } (w.alloc (.deferred (some []))) := by
  have h' := h.alloc0 (.deferred (some []))
  have hp : (w.alloc (.deferred (some []))).heap = w.heap.push (.deferred (some [])) := rfl
  exact { h' with
    defers := ⟨fun d hd => by
      rcases List.mem_cons.1 hd with rfl | hd
      · exact ⟨_, rfl, h.grow, push_new hp⟩
      · exact h'.defers.1 d hd, List.pairwise_cons.2 ⟨fun d hd e => by
        obtain ⟨D, rfl, _, hD⟩ := h.defers.1 d hd
        have := (Array.getElem?_eq_some_iff.1 hD).1
        simp only [Target.collected.injEq] at e
        omega, h'.defers.2⟩⟩ }
theorem Rel.name {w0 w : World} {M : Nat → Prop} {E : Env} {s : AState} {a : Act} {k : Nat} {x : Obj} {o : AObj} {c : Cap} (h : Rel w0 M E s a w) (hk : s.mem[k]? = some none) (ho : ObjR (E.set k (w.heap.size, c)) (w.alloc x) w.heap.size c o) (hc : c.bare := by exact Cap.bare_of fun _ _ => rfl) :
    Rel w0 M (E.set k (w.heap.size, c)) { s with mem := s.mem.set k (some o) } a (w.alloc x) := by
  have := h.step (F := ⟨[], [], [k]⟩) (cs := []) (upd := []) (new := [o]) (Eff.push (w' := w.alloc x) (obj := x) rfl rfl rfl rfl (h.fresh k hk) ho (fun e => absurd rfl e) hc) rfl (by simp) (.inl rfl) (fun n hn => by simp at hn; subst hn; exact hk) (fun n hn => by cases hn) rfl (.inl rfl) (fun n hn => by cases hn)
  simpa [setMem] using this
theorem Rel.turn {w0 w : World} {M : Nat → Prop} {E : Env} {s : AState} {a : Act} {nm l : Nat} {c : Cap} {o o1 : AObj} (h : Rel w0 M E s a w) (hn : s.mem[nm]? = some (some o)) (ho : o.owned = true) (hE : E nm = some (l, c)) (x : Obj)
    (hob : ObjR E (w.putObj l x) l c o1) (hu : updOK [o1] [o] = true) : Rel w0 M E { s with mem := s.mem.set nm (some o1) } a (w.putObj l x) := by
  have hup : Upd l w (w.putObj l x) := ⟨fun k hk => World.putObj_heap_other hk, World.putObj_size, rfl, rfl, rfl⟩
  have := h.step (F := ⟨[nm], [nm], []⟩) (cs := [o]) (upd := [o1]) (new := []) (Eff.write hE hob hup) (by simp [objs, hn]) (by simp) (.inr (by simp)) (fun n hn => by cases hn) (fun n hn => hn) rfl (.inr hu) (fun n hn' o' ho' => by simp at hn'; subst hn'; rw [hn] at ho'; cases ho'; exact ho)
  simpa [setMem] using this
theorem Rel.more {w0 w : World} {M : Nat → Prop} {E : Env} {s : AState} {a : Act} {v : AV} {x : Value} (h : Rel w0 M E s a w) (hd : den E v = some x) : Rel w0 M E { s with slots := s.slots ++ [some v] } { a with tmps := a.tmps.push x } w :=
  { h with
    size := by simp [h.size]
    slots := fun t u ht => by
      rcases Nat.lt_or_ge t s.slots.length with g | g
      · rw [List.getElem?_append_left g] at ht
        obtain ⟨y, hy, hdy⟩ := h.slots t u ht
        exact ⟨y, by rw [Array.getElem?_push, if_neg (by have := h.size; omega)]; exact hy, hdy⟩
      · rw [List.getElem?_append_right g] at ht
        have : t = s.slots.length := by
          have := (List.getElem?_eq_some_iff.1 ht).1
          simp at this; omega
        subst this
        simp at ht; subst ht
        exact ⟨x, by rw [← h.size]; simp, hd⟩ }
theorem Rel.less {w0 w : World} {M : Nat → Prop} {E : Env} {s : AState} {sl : List (Option AV)} {v : Option AV} {tm : Array Value} {x : Value} {ds : List Deferred} (h : Rel w0 M E { s with slots := sl ++ [v] } ⟨tm.push x, ds⟩ w) : Rel w0 M E { s with slots := sl } ⟨tm, ds⟩ w :=
  have hs : tm.size = sl.length := by have := h.size; simp at this; exact this
  { h with
    size := hs
    slots := fun t u ht => by
      have g : t < sl.length := (List.getElem?_eq_some_iff.1 ht).1
      obtain ⟨y, hy, hdy⟩ := h.slots t u (by show (sl ++ [v])[t]? = _; rw [List.getElem?_append_left g]; exact ht)
      refine ⟨y, ?_, hdy⟩
      have hy : (tm.push x)[t]? = some y := hy
      rwa [Array.getElem?_push, if_neg (by omega)] at hy }
def known (keep : Nat → Bool) : Nat → List (Option AV) → List Nat × List AV
  | _, [] => ([], [])
  | i, some v :: vs => match keep i with
    | true => (i :: (known keep (i + 1) vs).1, v :: (known keep (i + 1) vs).2)
    | false => known keep (i + 1) vs
  | i, none :: vs => known keep (i + 1) vs
theorem known_den {keep : Nat → Bool} {w0 w : World} {M : Nat → Prop} {E : Env} {s : AState} {a : Act} (h : Rel w0 M E s a w) : ∀ (vs : List (Option AV)) (i : Nat), (∀ j v, vs[j]? = some v → s.slots[i + j]? = some v) →
    ∃ xs, denL E (known keep i vs).2 = some xs ∧ ∀ (j t : Nat) (x : Value), (known keep i vs).1[j]? = some t → xs[j]? = some x → a.tmps[t]? = some x
  | [], i, _ => ⟨[], rfl, fun j t x h => by simp [known] at h⟩
  | none :: vs, i, hv => by
    obtain ⟨xs, h1, h2⟩ := known_den h vs (i + 1) (fun j v hj => by have := hv (j + 1) v (by simpa using hj); rwa [show i + (j + 1) = i + 1 + j by omega] at this)
    exact ⟨xs, h1, h2⟩
  | some v :: vs, i, hv => by
    obtain ⟨xs, h1, h2⟩ := known_den h vs (i + 1) (fun j v hj => by have := hv (j + 1) v (by simpa using hj); rwa [show i + (j + 1) = i + 1 + j by omega] at this)
    obtain ⟨x, hx, hd⟩ := h.slots i v (by have := hv 0 _ rfl; simpa using this)
    simp only [known]
    cases keep i with
    | false => exact ⟨xs, h1, h2⟩
    | true =>
      refine ⟨x :: xs, qxz.2 ⟨x, xs, hd, h1, rfl⟩, fun j t y hj hy => ?_⟩
      cases j with
      | zero => simp at hj; subst hj; simp at hy; subst hy; exact hx
      | succ j => exact h2 j t y (by simpa using hj) (by simpa using hy)
def roundSlots (n : Nat) (ix : List Nat) (cs : List AV) : List (Option AV) := (ix.zip cs).foldl (fun l p => l.set p.1 (some p.2)) (List.replicate n none)
def setParams : List (Option AV) → List Tmp → List AV → List (Option AV)
  | sl, p :: ps, v :: vs => setParams (sl.set p (some v)) ps vs
  | sl, _, _ => sl
theorem roundSlots_get {E : Env} {T : Array Value} {n : Nat} : ∀ (ix : List Nat) (cs : List AV) (xs : List Value) (l : List (Option AV)), denL E cs = some xs → (∀ (i t : Nat) (x : Value), ix[i]? = some t → xs[i]? = some x → T[t]? = some x) →
    (∀ (t : Nat) (v : AV), l[t]? = some (some v) → ∃ x, T[t]? = some x ∧ den E v = some x) → (∀ (t : Nat) (v : AV), ((ix.zip cs).foldl (fun l p => l.set p.1 (some p.2)) l)[t]? = some (some v) → ∃ x, T[t]? = some x ∧ den E v = some x)
  | [], _, _, l, _, _, h => by simpa using h
  | _ :: _, [], _, l, _, _, h => by simpa using h
  | i :: ix, c :: cs, xs, l, hd, hT, h => by
    obtain ⟨x, ys, hx, hy, rfl⟩ := qxz.1 hd
    simp only [List.zip_cons_cons, List.foldl_cons]
    refine roundSlots_get (n := n) ix cs ys _ hy (fun j t z hj hz => hT (j + 1) t z (by simpa using hj) (by simpa using hz)) fun t v ht => ?_
    rw [List.getElem?_set] at ht
    split at ht
    · rename_i e; subst e
      split at ht
      · cases ht; exact ⟨x, hT 0 i x rfl rfl, hx⟩
      · cases ht
    · exact h t v ht
theorem foldl_set_length : ∀ (ps : List (Nat × AV)) (l : List (Option AV)), (ps.foldl (fun l p => l.set p.1 (some p.2)) l).length = l.length
  | [], l => rfl
  | p :: ps, l => by simp [foldl_set_length ps]
theorem setParams_length : ∀ (ps : List Tmp) (vs : List AV) (l : List (Option AV)), (setParams l ps vs).length = l.length
  | [], _, l => by simp [setParams]
  | _ :: _, [], l => by simp [setParams]
  | p :: ps, v :: vs, l => by simp [setParams, setParams_length ps vs]
theorem setParams_get {E : Env} : ∀ (ps : List Tmp) (vs : List AV) (ys : List Value) (l : List (Option AV)) (T : Array Value), denL E vs = some ys → ps.length = vs.length → T.size = l.length →
    (∀ (t : Nat) (v : AV), l[t]? = some (some v) → ∃ x, T[t]? = some x ∧ den E v = some x) → (∀ (t : Nat) (v : AV), (setParams l ps vs)[t]? = some (some v) → ∃ x, ((ps.zip ys).foldl (fun t (p : Tmp × Value) => t.setIfInBounds p.1 p.2) T)[t]? = some x ∧ den E v = some x) ∧ ((ps.zip ys).foldl (fun t (p : Tmp × Value) => t.setIfInBounds p.1 p.2) T).size = l.length
  | [], [], ys, l, T, _, _, hs, h => by simpa [setParams] using ⟨h, hs⟩
  | [], _ :: _, _, _, _, _, h, _, _ => by simp at h
  | _ :: _, [], _, _, _, _, h, _, _ => by simp at h
  | p :: ps, v :: vs, ys, l, T, hd, hl, hs, h => by
    obtain ⟨x, zs, hx, hz, rfl⟩ := qxz.1 hd
    simp only [setParams, List.zip_cons_cons, List.foldl_cons]
    have := setParams_get ps vs zs (l.set p (some v)) (T.setIfInBounds p x) hz (by simpa using hl) (by simpa using hs) (fun t u ht => by
      rw [List.getElem?_set] at ht
      split at ht
      · rename_i e; subst e
        split at ht
        · rename_i hlt; cases ht; exact ⟨x, by rw [Array.getElem?_setIfInBounds_self_of_lt (by omega)], hx⟩
        · cases ht
      · rename_i e
        obtain ⟨y, hy, hdy⟩ := h t u ht
        exact ⟨y, by rw [Array.getElem?_setIfInBounds_ne e]; exact hy, hdy⟩)
    simpa using this
end Go.Proofs.YtphhepnldndbhaaGreatDoor.Sx
namespace Go.Proofs.YtphhepnldndbhaaGreatDoor.Sx
open Go
variable {P : Program}
def rangeOp (f : Operand) (T : Nat) : Oper := { dst := none, op := .call { callee := .value f, args := #[.tmp T], argTypes := #[] }, type := 0, pos := "", after := #[], guard := none }
theorem astep_range {h : Hint} {f : Operand} {T : Nat} {s : AState} {st : Step} (hst : astep P #[] h (rangeOp f T) s = some st) : st.st.slots = s.slots := by
  unfold astep at hst
  simp only [guardA, rangeOp] at hst
  split at hst
  · cases hst
  · split at hst
    · cases hst
    · split at hst
      · cases hst
      · split at hst
        · split at hst
          · cases hst
          · split at hst
            · cases hst; rfl
            · cases hst
        · cases hst
theorem range_end {u : LSt} {w0 w3 : World} {M : Nat → Prop} {E' : Env} {st : AState} {sl : List (Option AV)} {v : AV} {tm : Array Value} {x : Value} {ds : List Deferred} {nm l n' : Nat} {c : Cap} {ix' : List Nat} {cs' : List AV} {ps' : List Tmp} {asg' body' : Code}
    (h3 : Rel w0 M E' st ⟨tm.push x, ds⟩ w3) (hss : st.slots = sl ++ [some v]) (hl : st.mem[nm]? = some (some (.loopR u n' ix' cs' ps' asg' body'))) (hE : E' nm = some (l, c)) :
    ∃ r : Loop, w3.heap[l]? = some (.loop r) ∧ r.state = u.st ∧ r.pending = u.pend ∧ Rel w0 M E' ⟨sl, st.mem.set nm (some .dead)⟩ ⟨tm, ds⟩ (w3.putObj l (.loop { r with state := .exhausted })) := by
  obtain ⟨b, c', hb, hob', _⟩ := h3.mem nm _ hl
  rw [hE] at hb; cases hb
  obtain ⟨ys, r, hys, hheap, hst', hpend, _⟩ := hob'
  refine ⟨r, hheap, hst', hpend, ?_⟩
  have h4 := h3.turn (o1 := .dead) hl rfl hE (.loop { r with state := .exhausted }) True.intro rfl
  refine Rel.less (s := ⟨[], st.mem.set nm (some .dead)⟩) (v := some v) (x := x) ?_
  rw [← hss]
  exact h4
set_option maxHeartbeats 1000000 in
def LSt.ex : LSt → Option Ex
  | .ready => some .normal
  | .done (.exit i) => some (.exit i)
  | .done .ret => some .ret
  | _ => none
theorem tri_range {u : LSt} {e : Ex} (hu : u.ex = some e) {f : Operand} {ps : Array Tmp} {asg body asg' body' : Code} {s : AState} {g : FuncId} {caps cs cs' : List AV} {keep : Nat → Bool} {nm n' K : Nat} {ix ix' : List Nat} {ps' : List Tmp} {h : Hint} {st : Step} (hev : s.ev f = some (.func g [] caps)) (hg : g ≠ yF)
    (hent : ∀ args w, (callFunc g args).run P w = .ok (.enter g args) w) (hnm : s.mem[nm]? = some none) (hkn : known keep 0 s.slots = (ix, cs))
    (hst : astep P #[] h (rangeOp f s.slots.length) ⟨s.slots ++ [some (.func yF [.ptr nm 0] [])], s.mem.set nm (some (.loopR .ready s.slots.length ix cs ps.toList asg body))⟩ = some st) (hob : AllP st.obl)
    (hl : st.st.mem[nm]? = some (some (.loopR u n' ix' cs' ps' asg' body'))) : Tri P (.rangeFunc f ps asg body) s e ⟨s.slots, st.st.mem.set nm (some .dead)⟩ K := by
  intro ro w0 M E a w hro hR
  obtain rfl : ro = none := hro.resolve_right (by simp [noRange])
  refine wpIn_rangeFunc ?_
  intro fn hfn
  obtain ⟨rec, hrec⟩ : ∃ rec : Loop, rec = { state := .ready, pending := none, fn, tmps := a.tmps, params := ps, assign := asg, body, defers := w.heap.size } := ⟨_, rfl⟩
  have r1 := hR.mark
  have hE : E nm = none := hR.fresh nm hnm
  obtain ⟨W0, hW0⟩ : ∃ W0, W0 = w.alloc (.deferred (some [])) := ⟨_, rfl⟩
  have hsz : W0.heap.size = w.heap.size + 1 := by rw [hW0]; simp
  obtain ⟨W1, hW1⟩ : ∃ W1, W1 = W0.alloc (.loop rec) := ⟨_, rfl⟩
  have hpush : W1.heap = W0.heap.push (.loop rec) := by rw [hW1]; rfl
  rw [← hW0] at r1
  obtain ⟨xs, hxs, hT⟩ := known_den hR s.slots 0 (fun j v hj => by simpa using hj)
  rw [hkn] at hxs hT
  have r2 := r1.name (k := nm) (x := .loop rec) (o := .loopR .ready s.slots.length ix cs ps.toList asg body) (c := 0) hnm
    ⟨xs, rec, denL_mono (Env.le.set hE) _ _ hxs, push_new rfl, by rw [hrec]; rfl, by rw [hrec]; rfl, by rw [hrec], by rw [hrec], by rw [hrec], by rw [hrec]; exact hR.size, fun i t x hi hx => by rw [hrec]; exact hT i t x hi hx⟩
  rw [← hW1] at r2
  obtain ⟨E1, hE1⟩ : ∃ E1, E1 = E.set nm (W0.heap.size, 0) := ⟨_, rfl⟩
  rw [← hE1] at r2
  have hE1n : E1 nm = some (W0.heap.size, 0) := by rw [hE1]; exact Env.set_same E nm _
  have r3 := r2.more (v := .func yF [.ptr nm 0] []) (x := .func (.yield W0.heap.size) #[] #[]) (by simp [den, yfOf, hE1n])
  have hfv := hR.ev hev
  obtain ⟨lb, hlb⟩ : ∃ lb, a.eval f = .func (.func g) #[] lb := by
    simp only [den, if_neg hg, denL] at hfv
    split at hfv
    · rename_i ys zs hy hz; cases hy; exact ⟨zs.toArray, (Option.some.inj hfv).symm⟩
    · cases hfv
  have hfv2 : ({ tmps := a.tmps.push (.func (.yield W0.heap.size) #[] #[]), defers := { target := .collected w.heap.size, args := #[] } :: a.defers } : Act).eval f = .func (.func g) #[] lb := by
    rw [← hlb]
    cases f with
    | tmp t =>
      have ht : t < s.slots.length := by
        simp only [AState.ev, Option.join_eq_some_iff] at hev
        exact (List.getElem?_eq_some_iff.1 hev).1
      simp only [Act.eval, Array.getD_eq_getD_getElem?]
      rw [Array.getElem?_push, if_neg (by intro e; have h1 : (t : Nat) < a.tmps.size := by { rw [hR.size]; exact ht }; exact absurd e (Nat.ne_of_lt h1))]
    | const c => rfl
    | global c => rfl
    | func c => rfl
  have key := astep_sound (ro := none) (Q := fun _ _ _ => False) (next := fun a' w' => ∃ E', Env.le E1 E' ∧ Rel w0 M E' st.st a' w') hst hob r3 (fun E' a' w' hle h' => ⟨E', hle, h'⟩)
  have hwant : Region.wanted (rangeOp f s.slots.length) (yielded #[] (a.tmps.push (.func (.yield W0.heap.size) #[] #[]))) = true := rfl
  simp only at key
  rw [if_pos hwant] at key
  have key := key.2
  have hexec : ((rangeOp f s.slots.length).semAt (WR none).round ({ tmps := a.tmps.push (.func (.yield W0.heap.size) #[] #[]), defers := { target := .collected w.heap.size, args := #[] } :: a.defers } : Act).eval).run P W1 = .ok (.enter g (#[.func (.yield W0.heap.size) #[] #[]] ++ lb)) W1 := by
    rw [show (WR none).round = none from rfl, Oper.semAt_none]
    have h1 := resolve_value (P := P) (w := W1) (c := { callee := .value f, args := #[.tmp s.slots.length], argTypes := #[] }) (ty := 0) rfl hfv2
    simp only [execOp, rangeOp]
    refine h1.trans ?_
    have hx : (#[Operand.tmp s.slots.length].map ({ tmps := a.tmps.push (.func (.yield W0.heap.size) #[] #[]), defers := { target := .collected w.heap.size, args := #[] } :: a.defers } : Act).eval) = #[.func (.yield W0.heap.size) #[] #[]] := by
      simp [Act.eval, ← hR.size]
    rw [hx, hent]
    simp
  rw [hexec, Oper.uponIn_enter] at key
  refine ⟨W0.heap.size, [{ target := .collected w.heap.size, args := #[] }], W1, { target := .fn (.func g) lb, args := #[.func (.yield W0.heap.size) #[] #[]] }, W1, g, #[.func (.yield W0.heap.size) #[] #[]] ++ lb, W1, ?_, ?_, ?_, ?_, fun e => (by simp [WR, Fence.wide] at e), ?_⟩
  · rw [show (WR none).round = none from rfl, run_enterLoop_outer, hW1, hrec, hW0]
    simp
  · simp only [resolve, hlb]
    simp [go_sem]
  · intro f' hf'; exact True.intro
  · simp [invoke, go_sem, hent]
  · refine CallsIn.mono key.2 ?_
    rintro e w3 he
    cases e with
    | panicked ch => exact he.elim
    | outgrown => obtain ⟨_, _, hf⟩ := he; exact hf.elim
    | returned v =>
      obtain ⟨E', hle, h3⟩ := he
      obtain ⟨r, hheap, hst', hpend, h5⟩ := range_end h3 (astep_range hst) hl (hle _ _ hE1n)
      refine ⟨u.pend, w3.putObj W0.heap.size (.loop { r with state := .exhausted }), ?_, ?_⟩
      · rw [run_endLoop hheap (by rw [hst']; cases u <;> first | (simp [LSt.st]; done) | cases hu), hpend]
      · have fin : ∃ E'', Env.leK K E E'' ∧ Rel w0 M E'' ⟨s.slots, st.st.mem.set nm (some .dead)⟩ { tmps := a.tmps, defers := { target := .collected w.heap.size, args := #[] } :: a.defers } (w3.putObj W0.heap.size (.loop { r with state := .exhausted })) := ⟨E', fun n p _ hn => hle n p (by
          rw [hE1, Env.set_other E _ (by rintro rfl; rw [hE] at hn; cases hn)]; exact hn), h5⟩
        cases u with
        | ready => cases hu; exact ⟨rfl, fin⟩
        | busy => cases hu
        | done j => cases j <;> first | (cases hu; done) | (cases hu; exact wpIn_exit ⟨rfl, fin⟩) | (cases hu; exact wpIn_ret ⟨rfl, fin⟩)
end Go.Proofs.YtphhepnldndbhaaGreatDoor.Sx
