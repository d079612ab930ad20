/- The evaluator, part B: what each operation does is sound. -/
import Derived.Test.YtpdhfopfjoinnaaDoorPxA
set_option linter.unusedVariables false
set_option linter.unusedSimpArgs false
namespace Go.Proofs.YtpdhfopfjoinnaaDoor.Sx
open Go
variable {P : Program}

def AltOK (P : Program) (o : Op) (vals : List AV) (mem : List (Option PObj)) : Alt → Prop
  | .ok chk h upd new => chk = true → h.call = none ∧ ∀ F cs r, foot h o vals = some F → objs (memA mem) F.rd = some cs → act P h o vals cs = some r → AllP r.obl ∧ (F.ws ≠ [] → r.upd = upd.map PObj.toA) ∧ r.new = new.map PObj.toA
  | .br b x y => (b = true → AltOK P o vals mem x) ∧ (b = false → AltOK P o vals mem y)

theorem memA_get (m : List (Option PObj)) (n : Nat) : (memA m)[n]? = (m[n]?).map (Option.map PObj.toA) := by simp [memA]
theorem objs_one {m : List (Option PObj)} {n : Nat} {cs : List AObj} {p : PObj} (h : objs (memA m) [n] = some cs) (hp : lookP m n = some p) : cs = [p.toA] := by
  simp only [objs] at h
  simp only [lookP, Option.join_eq_some_iff] at hp
  rw [memA_get, hp] at h
  simpa using h.symm
theorem beqT {a b : Nat} : Nat.beq a b = true ↔ a = b := ⟨Nat.eq_of_beq_eq_true, fun e => by rw [e]; exact Nat.beq_refl b⟩
theorem bleT {a b : Nat} : Nat.ble a b = true ↔ a ≤ b := by rw [Nat.ble_eq]
theorem bltT {a b : Nat} : Nat.blt a b = true ↔ a < b := by rw [Nat.blt_eq]
theorem okP_eq {c : Bool} {a : Alt} (h : okP c = some a) : a = .ok c {} [] [] := by simpa [okP] using h.symm

theorem fillB_sound {place : Nat → Option (Nat × Nat)} : ∀ (ps : List (Nat × AV)) (cs : List AV) (ob : List Prop) (c : List AV), fillA place cs ps = some (ob, c) → fillB place cs.length ps = true → AllP ob ∧ c.length = cs.length
  | [], cs, ob, c, h, _ => by simp [fillA] at h; obtain ⟨rfl, rfl⟩ := h; exact ⟨trivial, rfl⟩
  | (i, v) :: ps, cs, ob, c, h, hb => by
    simp only [fillA] at h
    split at h
    · cases h
    · rename_i off size hp
      split at h
      · rename_i o c' hf
        cases h
        simp only [fillB, hp, Bool.and_eq_true, beqT, bleT] at hb
        obtain ⟨⟨h1, h2⟩, h3⟩ := hb
        have hl : (cs.take off ++ v.cells ++ cs.drop (off + size)).length = cs.length := by simp; omega
        rw [← hl] at h3
        obtain ⟨k1, k2⟩ := fillB_sound ps _ _ _ hf h3
        exact ⟨⟨h1, h2, k1⟩, k2.trans hl⟩
      · cases h

theorem fin_none {h : Hint} (hv : h.val = none) (ob : List Prop) (v : AV) : fin h ob v = ⟨ob, v, [], []⟩ := by simp [fin, hv]
theorem newA_none {h : Hint} (hv : h.obj = none) (ob : List Prop) (v : AV) (o : AObj) : newA h ob v o = ⟨ob, v, [], [o]⟩ := by simp [newA, hv]

theorem build_sound {t : TypeId} {parts : List (Nat × AV)} {ob : List Prop} {c : List AV} (h : buildA P t parts = some (ob, c)) (hb : buildB P t parts = true) : AllP ob := by
  unfold buildA at h
  unfold buildB at hb
  split at h
  · rename_i fs z hu hz
    split at h
    · rw [hu, hz] at hb; exact (fillB_sound _ _ _ _ h hb).1
    · cases h
  · rename_i n e z hu hz
    split at h
    · rw [hu, hz] at hb; exact (fillB_sound _ _ _ _ h hb).1
    · cases h
  · cases h

theorem binP_sound {op : BinOp} {t : TypeId} {x y : AV} {ob : List Prop} {v : AV} (h : binA P op t x y = some (ob, v)) (hb : binP op x y = true) : AllP ob := by
  unfold binA at h
  split at h
  · cases h; simp [binP] at hb; exact ⟨hb, trivial⟩
  · cases h; simp [binP] at hb; exact ⟨hb, trivial⟩
  · split at h
    · cases op <;> simp [intBin] at h <;> obtain ⟨rfl, _⟩ := h <;> first | trivial | (simp [binP] at hb; exact ⟨hb, trivial⟩)
    · cases h
  · cases op <;> simp [strBin] at h <;> obtain ⟨rfl, _⟩ := h <;> first | trivial | (simp [binP] at hb; exact ⟨hb, trivial⟩)
  · split at h
    · cases h; trivial
    · cases h
  · split at h
    · cases h; trivial
    · cases h
  · split at h
    · cases h
    · simp only [Option.map_eq_some_iff, Prod.mk.injEq] at h; obtain ⟨r, _, rfl, _⟩ := h; trivial
  · split at h
    · cases h
    · simp only [Option.map_eq_some_iff, Prod.mk.injEq] at h; obtain ⟨r, _, rfl, _⟩ := h; trivial
  · split at h
    · split at h
      · simp only [Option.map_eq_some_iff, Prod.mk.injEq] at h; obtain ⟨r, _, rfl, _⟩ := h; trivial
      · cases h
    · cases h
  · split at h
    · split at h
      · simp only [Option.map_eq_some_iff, Prod.mk.injEq] at h; obtain ⟨r, _, rfl, _⟩ := h; trivial
      · cases h
    · cases h
  · cases h

theorem unA_obl {op : UnOp} {x : AV} {ob : List Prop} {v : AV} (h : unA op x = some (ob, v)) : ob = [] := by
  unfold unA at h
  split at h <;> first | (cases h; rfl) | cases h
theorem convA_obl {src dst : TypeId} {x : AV} {ob : List Prop} {v : AV} (h : convA P src dst x = some (ob, v)) : ob = [] := by
  unfold convA at h
  split at h <;> first | (cases h; rfl) | cases h
theorem ok1_spec {h : Hint} {q : Option (List Prop × AV)} {r : Res} (e : ok1 h q = some r) : ∃ ob v, q = some (ob, v) ∧ r = fin h ob v := by
  simp only [ok1, Option.map_eq_some_iff] at e; obtain ⟨⟨ob, v⟩, h1, h2⟩ := e; exact ⟨ob, v, h1, h2.symm⟩

/-- The bounds of a slice expression hold. -/
theorem bnd_sound {d n : Nat} {lo : Option Operand} {vs rest : List AV} {ob : List Prop} (h : boundA d lo vs = some (ob, n, rest)) (hb : bndB lo vs = true) : AllP ob := by
  unfold boundA at h
  split at h
  · cases h; trivial
  · cases h; simp [bndB] at hb; exact ⟨hb, trivial⟩
  · cases h
theorem bounds_sound {len cap : Nat} {lo hi mx : Option Operand} {vs : List AV} {ob : List Prop} {l u m : Nat} (h : boundsA len cap lo hi mx vs = some (ob, l, u, m)) (hb : boundsB len cap lo hi mx vs = true) : AllP ob := by
  unfold boundsA at h
  unfold boundsB at hb
  split at h
  · rename_i o1 l1 vs1 h1
    rw [h1] at hb
    simp only at hb
    split at h
    · rename_i o2 u1 vs2 h2
      rw [h2] at hb
      simp only at hb
      split at h
      · rename_i o3 m1 h3
        rw [h3] at hb
        simp only [Bool.and_eq_true, decide_eq_true_eq] at hb
        obtain ⟨⟨⟨b1, b2⟩, b3⟩, b4, b5, b6⟩ := hb
        cases h
        exact allP_append.2 ⟨allP_append.2 ⟨allP_append.2 ⟨bnd_sound h1 b1, bnd_sound h2 b2⟩, bnd_sound h3 b3⟩, b4, b5, b6, trivial⟩
      · cases h
    · cases h
  · cases h
theorem strSlice_sound {n : Nat} {lo hi : Option Operand} {vs : List AV} {ob : List Prop} {l u m : Nat} (h : boundsA n n lo hi none vs = some (ob, l, u, m)) (hb : strSliceB n lo hi vs = true) : AllP ob := by
  refine bounds_sound h ?_
  unfold strSliceB at hb
  split at hb
  · simp [boundsB, boundA, bndB]
  · simp at hb; simp [boundsB, boundA, bndB]; omega
  · simp at hb; simp [boundsB, boundA, bndB]; omega
  · simp at hb; simp [boundsB, boundA, bndB]; omega
  · cases hb

theorem sliceP_sound {t : TypeId} {x0 : Operand} {lo hi mx : Option Operand} {x : AV} {vs : List AV} {mem : List (Option PObj)} {a : Alt} (h : sliceP P t lo hi mx x vs mem = some a) : AltOK P (.slice t x0 lo hi mx) (x :: vs) mem a := by
  unfold sliceP at h
  split at h
  · rename_i s hu
    split at h
    · rename_i hm
      have hm : mx = none := by simpa using hm
      subst hm
      rw [okP_eq h]
      intro hc
      refine ⟨rfl, fun F cs r hf hcs hr => ?_⟩
      simp only [act] at hr
      split at hr
      · cases hr
      · cases cs with
        | cons c cs => simp [sliceA, hu] at hr
        | nil =>
          simp only [sliceA, hu] at hr
          split at hr
          · rename_i ob l u m hb
            cases hr
            exact ⟨by simp only [fin]; exact strSlice_sound hb hc, fun _ => rfl, rfl⟩
          · cases hr
    · cases h
  · rename_i n e nm off hu
    rw [okP_eq h]
    intro hc
    refine ⟨rfl, fun F cs r hf hcs hr => ?_⟩
    simp only [act] at hr
    split at hr
    · cases hr
    · cases cs with
      | cons c cs => simp [sliceA, hu] at hr
      | nil =>
        simp only [sliceA, hu] at hr
        split at hr
        · cases hr
        · split at hr
          · rename_i ob l u m hb
            cases hr
            exact ⟨by simp only [fin]; exact bounds_sound hb hc, fun _ => rfl, rfl⟩
          · cases hr
  · rename_i e nm off len cap hu
    rw [okP_eq h]
    intro hc
    refine ⟨rfl, fun F cs r hf hcs hr => ?_⟩
    simp only [act] at hr
    split at hr
    · cases hr
    · cases cs with
      | cons c cs => simp [sliceA, hu] at hr
      | nil =>
        simp only [sliceA, hu] at hr
        split at hr
        · cases hr
        · split at hr
          · rename_i ob l u m hb
            cases hr
            exact ⟨by simp only [fin]; exact bounds_sound hb hc, fun _ => rfl, rfl⟩
          · cases hr
  · rename_i e hu
    rw [okP_eq h]
    intro hc
    refine ⟨rfl, fun F cs r hf hcs hr => ?_⟩
    simp only [act] at hr
    split at hr
    · cases hr
    · cases cs with
      | cons c cs => simp [sliceA, hu] at hr
      | nil =>
        simp only [sliceA, hu] at hr
        split at hr
        · cases hr
        · split at hr
          · rename_i ob l u m hb
            cases hr
            exact ⟨by simp only [fin]; exact bounds_sound hb hc, fun _ => rfl, rfl⟩
          · cases hr
  · rename_i e nm len hu
    split at h
    · rename_i o ob u rest hl hbd
      split at h
      · rename_i hsz
        have hsz := beqT.1 hsz
        cases h
        intro hc
        refine ⟨rfl, fun F cs r hf hcs hr => ?_⟩
        simp only [foot, Option.some.injEq] at hf; subst hf
        have := objs_one hcs hl
        subst this
        simp only [Bool.and_eq_true, decide_eq_true_eq] at hc
        obtain ⟨c1, c2, c3⟩ := hc
        simp only [act] at hr
        split at hr
        · cases hr
        · generalize ho : o.toA = oa at hr
          have hlen : ∀ c t sz, oa = .vec c t sz → o.lenP = c.length ∧ o.sizeP = sz := fun c t sz e => by
            rw [e] at ho
            cases o <;> simp [PObj.toA] at ho
            · subst ho; exact ⟨rfl, rfl⟩
            · obtain ⟨rfl, _, rfl⟩ := ho; exact ⟨by simp [PObj.lenP, ints_length], rfl⟩
            · obtain ⟨rfl, _, rfl⟩ := ho; exact ⟨by simp [PObj.lenP, u8s_length], rfl⟩
          simp only [sliceA, hu] at hr
          split at hr
          · cases hr
          · split at hr
            · rename_i c t sz
              obtain ⟨l1, l2⟩ := hlen _ _ _ rfl
              split at hr
              · cases hr
              · simp only [hbd] at hr
                split at hr
                · rename_i ob' u' hx
                  cases hx
                  cases hr
                  exact ⟨allP_append.2 ⟨bnd_sound hbd c1, c2, by rw [← l1]; exact c3, trivial⟩, fun _ => by simp [ho], rfl⟩
                · cases hr
            · cases hr
      · cases h
    · cases h
  · cases h

theorem u8s_getB {l : List UInt8} {i : Nat} (h : i < l.length) : (u8s l)[i]? = some (AV.int .u8 (byteAt l i)) := u8s_get h

theorem loadP_sound {t : TypeId} {x0 : Operand} {nm off : Nat} {mem : List (Option PObj)} {a : Alt} (h : loadP P t nm off mem = some a) : AltOK P (.load t x0) [.ptr nm off] mem a := by
  unfold loadP at h
  have key : ∀ (F : Foot) (hh : Hint), foot hh (.load t x0) [.ptr nm off] = some F → F = ⟨[nm], [], []⟩ := fun F hh hf => by simpa [foot] using hf.symm
  split at h
  · rename_i d o hu hl
    split at h
    · rename_i o0 cs0 hk
      cases h
      intro hc
      refine ⟨rfl, fun F cs r hf hcs hr => ?_⟩
      obtain rfl := key F _ hf
      have hcs' := objs_one hcs hl
      subst hcs'
      simp only [act, PObj.toA, loadA, hk, hu] at hr
      simp only [Bool.and_eq_true, bleT] at hc
      split at hr
      · rename_i hd
        cases hr
        simp only [hd, if_true, bleT] at hc
        exact ⟨⟨hc.1, hc.2, trivial⟩, fun e => rfl, rfl⟩
      · split at hr
        · cases hr
          exact ⟨⟨hc.1, trivial⟩, fun e => rfl, rfl⟩
        · cases hr
    · cases h
  all_goals first
    | (cases h; done)
    | (rename_i d k l e hu hl
       split at h
       · cases h
       · rename_i hd
         cases h
         intro hc
         refine ⟨rfl, fun F cs r hf hcs hr => ?_⟩
         obtain rfl := key F _ hf
         have hcs' := objs_one hcs hl
         subst hcs'
         simp only [act, PObj.toA, loadA, AObj.known, hu, hd] at hr
         cases hr
         exact ⟨⟨Nat.zero_le _, ints_get (by simpa using hc), trivial⟩, fun e => rfl, rfl⟩)
    | (rename_i d l e hu hl
       split at h
       · cases h
       · rename_i hd
         cases h
         intro hc
         refine ⟨rfl, fun F cs r hf hcs hr => ?_⟩
         obtain rfl := key F _ hf
         have hcs' := objs_one hcs hl
         subst hcs'
         simp only [act, PObj.toA, loadA, AObj.known, hu, hd] at hr
         cases hr
         exact ⟨⟨Nat.zero_le _, u8s_getB (by simpa using hc), trivial⟩, fun e => rfl, rfl⟩)

theorem tab_get {l : List (IntKind × Int)} {k : IntKind} (hk : tabOne k l = true) {i : Nat} (h : i < l.length) : (gcells l)[i]? = some (.int k (tabAt l i)) := by
  simp only [gcells, List.getElem?_map, List.getElem?_eq_getElem h, Option.map_some, tabAt, List.getD, Option.getD_some]
  have := List.all_eq_true.1 hk _ (List.getElem_mem h)
  have : l[i].1 = k := by simpa using this
  rw [this]
theorem loadGP_sound {t : TypeId} {x0 : Operand} {g off : Nat} {mem : List (Option PObj)} {a : Alt} (h : loadGP P t g off = some a) : AltOK P (.load t x0) [.gptr g off] mem a := by
  unfold loadGP at h
  split at h
  · rename_i d l hu hg
    split at h
    · rename_i hone
      have fl : (gcells l).length = l.length := by simp [gcells]
      split at h
      · rename_i hd
        cases h
        intro hc
        refine ⟨rfl, fun F cs r hf hcs hr => ?_⟩
        simp only [foot, Option.some.injEq] at hf
        subst hf
        simp only [Foot.no, objs, Option.some.injEq] at hcs
        subst hcs
        simp only [act, hg, loadA, AObj.known, hu, hd, if_true] at hr
        cases hr
        have hc : off + P.cellsOf t ≤ l.length := by simpa using hc
        refine ⟨⟨Nat.zero_le _, by rw [fl]; omega, ?_, trivial⟩, fun e => absurd rfl e, rfl⟩
        apply List.ext_getElem?
        intro i
        rw [List.getElem?_take, List.getElem?_drop, List.getElem?_map]
        by_cases hi : i < P.cellsOf t
        · rw [if_pos hi, Nat.sub_zero, tab_get hone (by omega), List.getElem?_range hi]; rfl
        · rw [if_neg hi, List.getElem?_eq_none (by simp; omega)]; rfl
      · rename_i hd
        cases h
        intro hc
        refine ⟨rfl, fun F cs r hf hcs hr => ?_⟩
        simp only [foot, Option.some.injEq] at hf
        subst hf
        simp only [Foot.no, objs, Option.some.injEq] at hcs
        subst hcs
        simp only [act, hg, loadA, AObj.known, hu, hd] at hr
        cases hr
        have hc : off < l.length := by simpa using hc
        exact ⟨⟨Nat.zero_le _, tab_get hone (by simpa using hc), trivial⟩, fun e => absurd rfl e, rfl⟩
    · cases h
  · cases h

theorem toByte_toNat {n : Int} (h : 0 ≤ n ∧ n < 256) : (((toByte n).toNat : Nat) : Int) = n := by
  simp only [toByte, UInt8.toNat_ofNat']
  omega

def News.A : News → List AV
  | .cells _ _ c => c
  | .bytes _ _ l => u8s l
  | .nums _ _ k l => ints k l

theorem u8s_drop (l : List UInt8) (a b : Nat) : ((u8s l).drop a).take b = u8s ((l.drop a).take b) := by simp [u8s, List.map_take, List.map_drop]
theorem ints_drop (k : IntKind) (l : List Int) (a b : Nat) : ((ints k l).drop a).take b = ints k ((l.drop a).take b) := by simp [ints, List.map_take, List.map_drop]
theorem u8s_take (l : List UInt8) (b : Nat) : (u8s l).take b = u8s (l.take b) := by simp [u8s, List.map_take]
theorem ints_take (k : IntKind) (l : List Int) (b : Nat) : (ints k l).take b = ints k (l.take b) := by simp [ints, List.map_take]

theorem bytesOfA_sound : ∀ (c : List AV) (b : Bool) (l : List UInt8), bytesOfA c = some (b, l) → b = true → c = u8s l
  | [], b, l, h, _ => by simp [bytesOfA] at h; rw [h.2]; rfl
  | v :: c, b, l, h, hb => by
    unfold bytesOfA at h
    split at h
    · rename_i e; cases e
    · rename_i n cs e
      cases e
      simp only [Option.map_eq_some_iff, Prod.mk.injEq] at h
      obtain ⟨⟨b', l'⟩, h1, h2, h3⟩ := h
      subst h3
      simp only [← h2, Bool.and_eq_true, decide_eq_true_eq] at hb
      have := bytesOfA_sound _ _ _ h1 hb.2
      rw [this]
      simp only [u8s, List.map_cons]
      rw [toByte_toNat hb.1]
    · cases h
theorem intsOfA_sound {k : IntKind} : ∀ (c : List AV) (l : List Int), intsOfA k c = some l → c = ints k l
  | [], l, h => by simp [intsOfA] at h; rw [h]; rfl
  | v :: c, l, h => by
    unfold intsOfA at h
    split at h
    · rename_i e; cases e
    · rename_i k' n cs e
      cases e
      split at h
      · rename_i hk
        have hk : k' = k := by simpa using hk
        subst hk
        simp only [Option.map_eq_some_iff] at h
        obtain ⟨l', h1, rfl⟩ := h
        rw [intsOfA_sound _ _ h1]; rfl
      · cases h
    · cases h

theorem objs_append {m : List (Option AObj)} : ∀ (a b : List Nat) (cs : List AObj), objs m (a ++ b) = some cs → ∃ x y, objs m a = some x ∧ objs m b = some y ∧ cs = x ++ y
  | [], b, cs, h => ⟨[], cs, rfl, h, rfl⟩
  | n :: a, b, cs, h => by
    simp only [List.cons_append, objs] at h
    split at h
    · rename_i o os ho hos
      cases h
      obtain ⟨x, y, h1, h2, rfl⟩ := objs_append a b _ hos
      exact ⟨o :: x, y, by simp only [objs, ho, h1], h2, rfl⟩
    · cases h
theorem objs_names {m : List (Option PObj)} : ∀ (ns : List Nat) (cs : List AObj), objs (memA m) ns = some cs → cs = (ns.filterMap fun n => lookP m n).map PObj.toA
  | [], cs, h => by simpa [objs] using h.symm
  | n :: ns, cs, h => by
    simp only [objs] at h
    split at h
    · rename_i o os ho hos
      cases h
      rw [memA_get] at ho
      rw [objs_names ns _ hos]
      cases hm : m[n]? with
      | none => simp [hm] at ho
      | some p => cases p with
        | none => simp [hm] at ho
        | some p =>
          simp only [hm, Option.map_some, Option.some.injEq] at ho
          have : lookP m n = some p := by simp [lookP, hm]
          simp [List.filterMap_cons, this, ho]
    · cases h
theorem objs_nameP {m : List (Option PObj)} {x : AV} {cs : List AObj} (h : objs (memA m) x.name = some cs) : cs = (nameP x m).map PObj.toA := objs_names _ _ h

theorem newsP_sound {sz : Nat} {x : AV} {mem : List (Option PObj)} {w : News} {cs : List AObj} {ob : List Prop} {n : Nat} {new : List AV} (h : newsP sz x mem = some w) (hcs : objs (memA mem) x.name = some cs) (he : elemsA sz x cs = some (ob, n, new)) :
    n = w.n ∧ new = w.A ∧ (w.ob = true → AllP ob) := by
  unfold newsP at h
  split at h
  · cases h
    simp only [AV.name, objs, Option.some.injEq] at hcs; subst hcs
    simp only [elemsA, Option.some.injEq, Prod.mk.injEq] at he; obtain ⟨rfl, rfl, rfl⟩ := he
    exact ⟨rfl, rfl, fun _ => trivial⟩
  · cases h
    simp only [AV.name, objs, Option.some.injEq] at hcs; subst hcs
    simp only [elemsA, Option.some.injEq, Prod.mk.injEq] at he; obtain ⟨rfl, rfl, rfl⟩ := he
    exact ⟨rfl, rfl, fun hb => ⟨beqT.1 hb, trivial⟩⟩
  · rename_i nm off len cap
    split at h
    · rename_i o hl
      have := objs_one hcs hl
      subst this
      split at h
      · rename_i o0 c hk
        cases h
        simp only [elemsA, PObj.toA, hk, Option.some.injEq, Prod.mk.injEq] at he; obtain ⟨rfl, rfl, rfl⟩ := he
        refine ⟨rfl, rfl, fun hb => ?_⟩
        simp only [News.ob, Bool.and_eq_true, bleT] at hb
        exact ⟨hb.1, hb.2, trivial⟩
      · cases h
    · rename_i l e hl
      have := objs_one hcs hl
      subst this
      split at h
      · rename_i hs
        cases h
        have hs := beqT.1 hs; subst hs
        simp only [elemsA, PObj.toA, AObj.known, Option.some.injEq, Prod.mk.injEq] at he; obtain ⟨rfl, rfl, rfl⟩ := he
        refine ⟨rfl, by rw [Nat.sub_zero, Nat.mul_one, u8s_drop]; rfl, fun hb => ?_⟩
        simp only [News.ob, decide_eq_true_eq] at hb
        exact ⟨Nat.zero_le _, by rw [u8s_length]; omega, trivial⟩
      · cases h
    · rename_i k l e hl
      have := objs_one hcs hl
      subst this
      split at h
      · rename_i hs
        cases h
        have hs := beqT.1 hs; subst hs
        simp only [elemsA, PObj.toA, AObj.known, Option.some.injEq, Prod.mk.injEq] at he; obtain ⟨rfl, rfl, rfl⟩ := he
        refine ⟨rfl, by rw [Nat.sub_zero, Nat.mul_one, ints_drop]; rfl, fun hb => ?_⟩
        simp only [News.ob, decide_eq_true_eq] at hb
        exact ⟨Nat.zero_le _, by rw [ints_length]; omega, trivial⟩
      · cases h
    · cases h
  · rename_i nm len
    split at h
    · rename_i o hl
      have := objs_one hcs hl
      subst this
      split at h
      · rename_i o0 c hk
        cases h
        simp only [elemsA, PObj.toA, hk, Option.some.injEq, Prod.mk.injEq] at he; obtain ⟨rfl, rfl, rfl⟩ := he
        refine ⟨rfl, rfl, fun hb => ?_⟩
        simp only [News.ob, Bool.and_eq_true, bleT, beqT] at hb
        exact ⟨hb.1, hb.2, trivial⟩
      · cases h
    · rename_i l e hl
      have := objs_one hcs hl
      subst this
      split at h
      · rename_i hs
        cases h
        have hs := beqT.1 hs; subst hs
        simp only [elemsA, PObj.toA, AObj.known, Option.some.injEq, Prod.mk.injEq] at he; obtain ⟨rfl, rfl, rfl⟩ := he
        refine ⟨rfl, by rw [Nat.mul_one, u8s_take]; rfl, fun hb => ?_⟩
        simp only [News.ob, decide_eq_true_eq] at hb
        exact ⟨by trivial, by rw [u8s_length]; omega, trivial⟩
      · cases h
    · rename_i k l e hl
      have := objs_one hcs hl
      subst this
      split at h
      · rename_i hs
        cases h
        have hs := beqT.1 hs; subst hs
        simp only [elemsA, PObj.toA, AObj.known, Option.some.injEq, Prod.mk.injEq] at he; obtain ⟨rfl, rfl, rfl⟩ := he
        refine ⟨rfl, by rw [Nat.mul_one, ints_take]; rfl, fun hb => ?_⟩
        simp only [News.ob, decide_eq_true_eq] at hb
        exact ⟨by trivial, by rw [ints_length]; omega, trivial⟩
      · cases h
    · cases h
  · cases h

def oldCells : Option PObj → List AV
  | none => []
  | some p => match p.toA with | .vec c _ _ => c | _ => []
theorem u8s_append (a b : List UInt8) : u8s (a ++ b) = u8s a ++ u8s b := by simp [u8s]
theorem ints_append (k : IntKind) (a b : List Int) : ints k (a ++ b) = ints k a ++ ints k b := by simp [ints]
theorem growP_sound {e : TypeId} {sz : Nat} {old : Option PObj} {w : News} {b : Bool} {o : PObj} (h : growP P e sz old w = some (b, o)) (hb : b = true) :
    o.toA = .vec (oldCells old ++ w.A) e sz ∧ w.ob = true ∧ (∀ p, old = some p → p.toA = .vec (oldCells old) e sz ∧ p.len = (oldCells old).length) := by
  unfold growP at h
  split at h
  · split at h
    · rename_i hs; have hs := beqT.1 hs; subst hs; cases h; exact ⟨rfl, hb, fun p e => by cases e⟩
    · cases h
  · split at h
    · rename_i hs; have hs := beqT.1 hs; subst hs
      simp only [Option.map_eq_some_iff, Prod.mk.injEq] at h
      obtain ⟨⟨b', l⟩, h1, h2, rfl⟩ := h
      simp only [← h2, Bool.and_eq_true] at hb
      exact ⟨by simp only [PObj.toA, oldCells, News.A, List.nil_append, bytesOfA_sound _ _ _ h1 hb.2], hb.1, fun p e => by cases e⟩
    · cases h
  · split at h
    · rename_i hs; simp only [Bool.and_eq_true, beqT, beq_iff_eq] at hs; obtain ⟨rfl, rfl⟩ := hs; cases h
      exact ⟨by simp only [PObj.toA, oldCells, News.A, u8s_append], hb, fun p e => by cases e; exact ⟨rfl, by simp [PObj.len, oldCells, PObj.toA, u8s_length]⟩⟩
    · cases h
  · split at h
    · rename_i hs; simp only [Bool.and_eq_true, beqT, beq_iff_eq] at hs; obtain ⟨rfl, rfl⟩ := hs
      simp only [Option.map_eq_some_iff, Prod.mk.injEq] at h
      obtain ⟨⟨b', l⟩, h1, h2, rfl⟩ := h
      simp only [← h2, Bool.and_eq_true] at hb
      exact ⟨by simp only [PObj.toA, oldCells, News.A, u8s_append, bytesOfA_sound _ _ _ h1 hb.2], hb.1, fun p e => by cases e; exact ⟨rfl, by simp [PObj.len, oldCells, PObj.toA, u8s_length]⟩⟩
    · cases h
  · split at h
    · rename_i hs; simp only [Bool.and_eq_true, beqT, beq_iff_eq] at hs; obtain ⟨rfl, rfl⟩ := hs; cases h; exact ⟨rfl, hb, fun p e => by cases e⟩
    · cases h
  · split at h
    · rename_i hs; have hs := beqT.1 hs; subst hs
      simp only [Option.map_eq_some_iff, Prod.mk.injEq] at h
      obtain ⟨l, h1, h2, rfl⟩ := h
      subst h2
      exact ⟨by simp only [PObj.toA, oldCells, News.A, List.nil_append, intsOfA_sound _ _ h1], hb, fun p e => by cases e⟩
    · cases h
  · split at h
    · rename_i hs; simp only [Bool.and_eq_true, beqT, beq_iff_eq] at hs; obtain ⟨⟨rfl, rfl⟩, rfl⟩ := hs; cases h
      exact ⟨by simp only [PObj.toA, oldCells, News.A, ints_append], hb, fun p e => by cases e; exact ⟨rfl, by simp [PObj.len, oldCells, PObj.toA, ints_length]⟩⟩
    · cases h
  · split at h
    · rename_i hs; simp only [Bool.and_eq_true, beqT, beq_iff_eq] at hs; obtain ⟨rfl, rfl⟩ := hs
      simp only [Option.map_eq_some_iff, Prod.mk.injEq] at h
      obtain ⟨l, h1, h2, rfl⟩ := h
      subst h2
      exact ⟨by simp only [PObj.toA, oldCells, News.A, ints_append, intsOfA_sound _ _ h1], hb, fun p e => by cases e; exact ⟨rfl, by simp [PObj.len, oldCells, PObj.toA, ints_length]⟩⟩
    · cases h
  · cases h; exact ⟨rfl, hb, fun p e => by cases e⟩
  · split at h
    · rename_i hs; simp only [Bool.and_eq_true, beq_iff_eq] at hs; obtain ⟨rfl, rfl⟩ := hs; cases h
      exact ⟨rfl, hb, fun p e => by cases e; exact ⟨rfl, rfl⟩⟩
    · cases h
  · cases h

theorem room_sound {m bytes : Nat} (h : roomB m bytes = true) : 2 * m * bytes ≤ 281474976710656 ∧ 2 * m < 9223372036854775808 := by simpa [roomB] using h
theorem sealR_0 {h : Hint} (hv : h.view = 0) (r : Res) : sealR h r = r := by simp [sealR, hv]

theorem append_yes {c : Call} {x : AV} {mem : List (Option PObj)} {e : TypeId} {ie : TypeInfo} {w : News} {b : Bool} {o : PObj} (hc : c.callee = .builtin .append) (he : (c.argTypes[0]?).bind P.underlying = some (.slice e)) (hi : P.info? e = some ie) (hw : newsP ie.size x mem = some w) (hg : growP P e ie.size none w = some (b, o)) (h0 : 0 < w.n) :
    AltOK P (.call c) [.nilslice, x] mem (.ok (b && roomB w.n ie.bytes) { nm := [frn mem], obj := some [o.toA] } (nameP x mem) [o]) := by
  intro hb
  refine ⟨rfl, fun F cs r hf hcs hr => ?_⟩
  simp only [Bool.and_eq_true] at hb
  obtain ⟨hb1, hb2⟩ := hb
  obtain ⟨r1, r2⟩ := room_sound hb2
  obtain ⟨go, gw, _⟩ := growP_sound hg hb1
  simp only [foot, hc, AV.name, List.nil_append, AV.isVec, Bool.false_eq_true, if_false, Option.some.injEq] at hf
  subst hf
  simp only [act, hc, Option.map_eq_some_iff] at hr
  obtain ⟨r', hr, rfl⟩ := hr
  simp only [appendA, he] at hr
  split at hr
  · rename_i tx k e1 e2 e3
    cases e1; cases e3
    split at hr
    · cases hr
    · simp only [hi] at hr
      split at hr
      · rename_i ie' z e4 e5
        cases e4
        split at hr
        · cases hr
        · split at hr
          · rename_i ob n new hel
            obtain ⟨n1, n2, n3⟩ := newsP_sound hw hcs hel
            cases hr
            subst n1; subst n2
            refine ⟨?_, fun e => absurd rfl e, rfl⟩
            simp only [sealR, grow]
            refine allP_append.2 ⟨allP_append.2 ⟨n3 gw, h0, r1, r2, trivial⟩, ?_, trivial⟩
            rw [go]; rfl
          · cases hr
      · cases hr
  · rename_i e1 e2 e3
    cases e3
  · cases hr

theorem append_no {c : Call} {x : AV} {mem : List (Option PObj)} {e : TypeId} {ie : TypeInfo} {w : News} (hc : c.callee = .builtin .append) (he : (c.argTypes[0]?).bind P.underlying = some (.slice e)) (hi : P.info? e = some ie) (hw : newsP ie.size x mem = some w) (h0 : w.n = 0) :
    AltOK P (.call c) [.nilslice, x] mem (.ok w.ob {} (nameP x mem) []) := by
  intro hb
  refine ⟨rfl, fun F cs r hf hcs hr => ?_⟩
  simp only [foot, hc, AV.name, List.nil_append, AV.isVec, Bool.false_eq_true, if_false, Option.some.injEq] at hf
  subst hf
  simp only [act, hc, Option.map_eq_some_iff] at hr
  obtain ⟨r', hr, rfl⟩ := hr
  simp only [appendA, he] at hr
  split at hr
  · rename_i e1 e2 e3
    cases e3
  · rename_i tx e1 e2 e3
    cases e1
    split at hr
    · cases hr
    · simp only [hi] at hr
      split at hr
      · rename_i ob n new hel
        obtain ⟨n1, n2, n3⟩ := newsP_sound hw hcs hel
        cases hr
        exact ⟨allP_append.2 ⟨n3 hb, n1.trans h0, trivial⟩, fun e => absurd rfl e, rfl⟩
      · cases hr
  · cases hr

theorem append_vec {c : Call} {x : AV} {mem : List (Option PObj)} {e : TypeId} {ie : TypeInfo} {w : News} {b : Bool} {nm len : Nat} {old o : PObj} (hc : c.callee = .builtin .append) (he : (c.argTypes[0]?).bind P.underlying = some (.slice e)) (hi : P.info? e = some ie) (hw : newsP ie.size x mem = some w) (hl : lookP mem nm = some old) (hg : growP P e ie.size (some old) w = some (b, o)) :
    AltOK P (.call c) [.vec nm len, x] mem (.ok (b && decide (old.len = len * ie.size) && roomB (len + w.n) ie.bytes) { nm := [frn mem], obj := some [o.toA] } (.raw .dead :: nameP x mem) [o]) := by
  intro hb
  refine ⟨rfl, fun F cs r hf hcs hr => ?_⟩
  simp only [Bool.and_eq_true, decide_eq_true_eq] at hb
  obtain ⟨⟨hb1, hb3⟩, hb2⟩ := hb
  obtain ⟨r1, r2⟩ := room_sound hb2
  obtain ⟨go, gw, gold⟩ := growP_sound hg hb1
  obtain ⟨gold, glen⟩ := gold _ rfl
  simp only [foot, hc, AV.name, AV.isVec, if_true, Option.some.injEq] at hf
  subst hf
  obtain ⟨a1, a2, k1, k2, rfl⟩ := objs_append _ _ _ hcs
  have := objs_one k1 hl
  subst this
  simp only [act, hc, Option.map_eq_some_iff] at hr
  obtain ⟨r', hr, rfl⟩ := hr
  simp only [appendA, he] at hr
  split at hr
  · rename_i tx k e1 e2 e3
    cases e1; cases e3
    split at hr
    · cases hr
    · simp only [hi] at hr
      split at hr
      · rename_i ie' z e4 e5
        cases e4
        split at hr
        · cases hr
        · simp only [gold, List.singleton_append, bne_self_eq_false, Bool.false_eq_true, if_false, beq_self_eq_true, if_true] at hr
          split at hr
          · rename_i ob n new hel
            obtain ⟨n1, n2, n3⟩ := newsP_sound hw k2 hel
            cases hr
            subst n1; subst n2
            refine ⟨?_, fun _ => ?_, rfl⟩
            · simp only [sealR, grow]
              refine allP_append.2 ⟨allP_append.2 ⟨n3 gw, ?_, r1, r2, trivial⟩, ?_, trivial⟩
              · rw [← hb3, glen]
              · rw [go]
            · simp only [sealR, grow, List.map_cons]
              rw [objs_nameP k2]; rfl
          · cases hr
      · cases hr
  · rename_i e1 e2 e3
    cases e3
  · cases hr

theorem append_slice {c : Call} {x : AV} {mem : List (Option PObj)} {e : TypeId} {ie : TypeInfo} {ob : Bool} {n : Nat} {cx oc : List AV} {nm off len cap o0 : Nat} {o : AObj} (hc : c.callee = .builtin .append) (he : (c.argTypes[0]?).bind P.underlying = some (.slice e)) (hi : P.info? e = some ie) (hw : newsP ie.size x mem = some (.cells ob n cx)) (hl : lookP mem nm = some (.raw o)) (hk : o.known = some (o0, oc)) :
    AltOK P (.call c) [.slice nm off len cap, x] mem (.ok (ob && Nat.ble o0 off && Nat.ble (off - o0 + len * ie.size) oc.length && Nat.beq len cap && Nat.blt 0 n && roomB (len + n) ie.bytes) { nm := [frn mem] } (.raw o :: nameP x mem) [.raw (.vec ((oc.drop (off - o0)).take (len * ie.size) ++ cx) e ie.size)]) := by
  intro hb
  refine ⟨rfl, fun F cs r hf hcs hr => ?_⟩
  simp only [Bool.and_eq_true, bleT, beqT, bltT] at hb
  obtain ⟨⟨⟨⟨⟨b1, b2⟩, b3⟩, b4⟩, b5⟩, b6⟩ := hb
  obtain ⟨r1, r2⟩ := room_sound b6
  simp only [foot, hc, AV.name, AV.isVec, Bool.false_eq_true, if_false, Option.some.injEq] at hf
  subst hf
  obtain ⟨a1, a2, k1, k2, rfl⟩ := objs_append _ _ _ hcs
  have := objs_one k1 hl
  subst this
  simp only [act, hc, Option.map_eq_some_iff] at hr
  obtain ⟨r', hr, rfl⟩ := hr
  simp only [appendA, he] at hr
  split at hr
  · rename_i tx k e1 e2 e3
    cases e1; cases e3
    split at hr
    · cases hr
    · simp only [hi] at hr
      split at hr
      · rename_i ie' z e4 e5
        cases e4
        split at hr
        · cases hr
        · simp only [PObj.toA, List.singleton_append, hk] at hr
          split at hr
          · rename_i o0' oc' ob' n' new h1 hel
            cases h1
            obtain ⟨n1, n2, n3⟩ := newsP_sound hw k2 hel
            cases hr
            simp only [News.n] at n1
            simp only [News.A] at n2
            subst n1; subst n2
            refine ⟨?_, fun e => absurd rfl e, rfl⟩
            simp only [sealR, grow]
            exact allP_append.2 ⟨n3 b1, b2, b3, b4, b5, r1, r2, trivial⟩
          · cases hr
      · cases hr
  · rename_i e1 e2 e3
    cases e3
  · cases hr

theorem appendP_sound {c : Call} {s x : AV} {mem : List (Option PObj)} {a : Alt} (hc : c.callee = .builtin .append) (h : appendP P c s x mem = some a) : AltOK P (.call c) [s, x] mem a := by
  unfold appendP at h
  split at h
  · rename_i e he
    split at h
    · rename_i ie hi
      split at h
      · rename_i w hw
        split at h
        · split at h
          · rename_i b o hg
            cases h
            split
            · rename_i ob n cx
              split
              · exact append_no hc he hi hw rfl
              · exact append_yes hc he hi hw hg (Nat.pos_of_ne_zero (by assumption))
            · exact ⟨fun hb => append_yes hc he hi hw hg (of_decide_eq_true hb), fun hb => append_no hc he hi hw (by simpa using hb)⟩
          · cases h
        · split at h
          · rename_i old hl
            split at h
            · rename_i b o hg
              cases h
              exact append_vec hc he hi hw hl hg
            · cases h
          · cases h
        · split at h
          · rename_i o hl
            split at h
            · rename_i o0 oc ob n cx hk
              cases h
              exact append_slice hc he hi hw hl hk
            · cases h
          · cases h
        · cases h
      · cases h
    · cases h
  · cases h

end Go.Proofs.YtpdhfopfjoinnaaDoor.Sx
