/- The evaluator, part C: all operations. -/
import Derived.Test.YtpdhfopfjoinnaaDoorPxB
set_option linter.unusedVariables false
set_option linter.unusedSimpArgs false
namespace Go.Proofs.YtpdhfopfjoinnaaDoor.Sx
open Go
variable {P : Program}

theorem take_one (l : List AV) (a : Nat) (h : a ≤ l.length) : True := trivial
theorem storeP_sound {t : TypeId} {x0 y0 : Operand} {nm off : Nat} {v : AV} {mem : List (Option PObj)} {a : Alt} (h : storeP P t nm off v mem = some a) : AltOK P (.store t x0 y0) [.ptr nm off, v] mem a := by
  unfold storeP at h
  have key : ∀ (F : Foot) (hh : Hint), foot hh (.store t x0 y0) [.ptr nm off, v] = some F → F = ⟨[nm], [nm], []⟩ := fun F hh hf => by simpa [foot] using hf.symm
  split at h
  · rename_i o v' hl
    split at h
    · rename_i o0 cs0 hk
      split at h
      · rename_i o1 hs
        cases h
        intro hc
        refine ⟨rfl, fun F cs r hf hcs hr => ?_⟩
        obtain rfl := key F _ hf
        have hcs' := objs_one hcs hl
        subst hcs'
        simp only [Bool.and_eq_true, bleT, beqT] at hc
        simp only [act, PObj.toA, storeA, hk, hs] at hr
        split at hr
        · cases hr
        · cases hr
          exact ⟨⟨hc.1, hc.2, trivial⟩, fun _ => rfl, rfl⟩
      · cases h
    · cases h
  · rename_i k l e k' n hl
    split at h
    · rename_i hk
      simp only [Bool.and_eq_true, beqT, beq_iff_eq] at hk
      obtain ⟨rfl, hk⟩ := hk
      cases h
      intro hc
      refine ⟨rfl, fun F cs r hf hcs hr => ?_⟩
      obtain rfl := key F _ hf
      have hcs' := objs_one hcs hl
      subst hcs'
      simp only [decide_eq_true_eq] at hc
      simp only [act, PObj.toA, storeA, AObj.known, AObj.setCells] at hr
      split at hr
      · cases hr
      · cases hr
        refine ⟨⟨by rw [hk]; rfl, by rw [ints_length, hk]; omega, ?_, trivial⟩, fun _ => rfl, rfl⟩
        rw [hk, ← ints_set]
        show AObj.vec (List.take off (ints k' l) ++ [AV.int k' n] ++ List.drop (off + 1) (ints k' l)) e 1 = _
        rw [set_eq (by rw [ints_length]; exact hc)]
    · cases h
  · rename_i k l e k' n hl
    split at h
    · rename_i hk
      simp only [Bool.and_eq_true, beqT, beq_iff_eq] at hk
      obtain ⟨rfl, hk⟩ := hk
      cases h
      intro hc
      refine ⟨rfl, fun F cs r hf hcs hr => ?_⟩
      obtain rfl := key F _ hf
      have hcs' := objs_one hcs hl
      subst hcs'
      simp only [decide_eq_true_eq] at hc
      simp only [act, PObj.toA, storeA, AObj.known, AObj.setCells] at hr
      split at hr
      · cases hr
      · cases hr
        refine ⟨⟨by rw [hk]; rfl, by rw [ints_length, hk]; omega, ?_, trivial⟩, fun _ => rfl, rfl⟩
        rw [hk, ← ints_set]
        show AObj.cells (List.take off (ints k' l) ++ [AV.int k' n] ++ List.drop (off + 1) (ints k' l)) e = _
        rw [set_eq (by rw [ints_length]; exact hc)]
    · cases h
  · rename_i l e k' n hl
    split at h
    · rename_i hk
      simp only [Bool.and_eq_true, beqT, beq_iff_eq] at hk
      obtain ⟨rfl, hk⟩ := hk
      cases h
      intro hc
      refine ⟨rfl, fun F cs r hf hcs hr => ?_⟩
      obtain rfl := key F _ hf
      have hcs' := objs_one hcs hl
      subst hcs'
      simp only [Bool.and_eq_true, decide_eq_true_eq] at hc
      simp only [act, PObj.toA, storeA, AObj.known, AObj.setCells] at hr
      split at hr
      · cases hr
      · cases hr
        refine ⟨⟨by rw [hk]; rfl, by rw [u8s_length, hk]; omega, ?_, trivial⟩, fun _ => rfl, rfl⟩
        rw [hk]
        show AObj.vec (List.take off (u8s l) ++ [AV.int .u8 n] ++ List.drop (off + 1) (u8s l)) e 1 = _
        rw [set_eq (by rw [u8s_length]; exact hc.1)]
        simp only [u8s, List.map_set]
        rw [toByte_toNat hc.2]
    · cases h
  · rename_i l e k' n hl
    split at h
    · rename_i hk
      simp only [Bool.and_eq_true, beqT, beq_iff_eq] at hk
      obtain ⟨rfl, hk⟩ := hk
      cases h
      intro hc
      refine ⟨rfl, fun F cs r hf hcs hr => ?_⟩
      obtain rfl := key F _ hf
      have hcs' := objs_one hcs hl
      subst hcs'
      simp only [Bool.and_eq_true, decide_eq_true_eq] at hc
      simp only [act, PObj.toA, storeA, AObj.known, AObj.setCells] at hr
      split at hr
      · cases hr
      · cases hr
        refine ⟨⟨by rw [hk]; rfl, by rw [u8s_length, hk]; omega, ?_, trivial⟩, fun _ => rfl, rfl⟩
        rw [hk]
        show AObj.cells (List.take off (u8s l) ++ [AV.int .u8 n] ++ List.drop (off + 1) (u8s l)) e = _
        rw [set_eq (by rw [u8s_length]; exact hc.1)]
        simp only [u8s, List.map_set]
        rw [toByte_toNat hc.2]
    · cases h
  · cases h

theorem stringP_sound {src dst e : TypeId} {x0 : Operand} {x : AV} {mem : List (Option PObj)} {a : Alt} (h1 : P.underlying src = some (.slice e)) (h2 : P.underlying dst = some .string) (h3 : P.underlying e = some (.int .u8)) (h : stringP x mem = some a) : AltOK P (.convert src dst x0) [x] mem a := by
  unfold stringP at h
  split at h
  · rename_i nm len
    split at h
    · rename_i l ty hl
      cases h
      intro hc
      refine ⟨rfl, fun F cs r hf hcs hr => ?_⟩
      simp only [foot, AV.name, Option.some.injEq] at hf
      subst hf
      have := objs_one hcs hl
      subst this
      simp only [decide_eq_true_eq] at hc
      simp only [act, h1, h2, h3, PObj.toA, AV.isDsl, elemsA, AObj.known] at hr
      cases hr
      refine ⟨⟨by trivial, by rw [u8s_length]; omega, ?_, trivial⟩, fun e => absurd rfl e, rfl⟩
      rw [Nat.mul_one, u8s_take]
    · cases h
  · rename_i nm off len cap
    split at h
    · rename_i l ty hl
      cases h
      intro hc
      refine ⟨rfl, fun F cs r hf hcs hr => ?_⟩
      simp only [foot, AV.name, Option.some.injEq] at hf
      subst hf
      have := objs_one hcs hl
      subst this
      simp only [decide_eq_true_eq] at hc
      simp only [act, h1, h2, h3, PObj.toA, AV.isDsl, elemsA, AObj.known] at hr
      cases hr
      refine ⟨⟨Nat.zero_le _, by rw [u8s_length]; omega, ?_, trivial⟩, fun e => absurd rfl e, rfl⟩
      rw [Nat.mul_one, Nat.sub_zero, u8s_drop]
    · rename_i o hl
      split at h
      · rename_i o0 c hk
        split at h
        · rename_i b l hb
          cases h
          intro hc
          refine ⟨rfl, fun F cs r hf hcs hr => ?_⟩
          simp only [foot, AV.name, Option.some.injEq] at hf
          subst hf
          have := objs_one hcs hl
          subst this
          simp only [Bool.and_eq_true, bleT] at hc
          obtain ⟨⟨c1, c2⟩, c3⟩ := hc
          simp only [act, h1, h2, h3, PObj.toA, AV.isDsl, elemsA, hk] at hr
          cases hr
          exact ⟨⟨c2, c3, bytesOfA_sound _ _ _ hb c1, trivial⟩, fun e => absurd rfl e, rfl⟩
        · cases h
      · cases h
    · cases h
  · cases h

theorem convP_sound {src dst : TypeId} {x0 : Operand} {x : AV} {mem : List (Option PObj)} {a : Alt} (h : convP P src dst x mem = some a) : AltOK P (.convert src dst x0) [x] mem a := by
  unfold convP at h
  split at h
  · rename_i d e s h1 h2
    split at h
    · rename_i h3
      cases h
      intro hc
      refine ⟨rfl, fun F cs r hf hcs hr => ?_⟩
      simp only [foot, Option.some.injEq] at hf
      subst hf
      simp only [objs, Option.some.injEq] at hcs
      subst hcs
      simp only [act, h1, h2, h3] at hr
      cases hr
      exact ⟨trivial, fun e => absurd rfl e, rfl⟩
    · cases h
  · rename_i e h1 h2
    split at h
    · rename_i h3
      rw [okP_eq h]
      intro hc
      refine ⟨rfl, fun F cs r hf hcs hr => ?_⟩
      simp only [foot, AV.name, Option.some.injEq] at hf
      subst hf
      simp only [objs, Option.some.injEq] at hcs
      subst hcs
      simp only [act, h1, h2, h3] at hr
      cases hr
      exact ⟨trivial, fun e => absurd rfl e, rfl⟩
    · cases h
  · rename_i e h1 h2 _
    split at h
    · rename_i h3
      exact stringP_sound h1 h2 h3 h
    · cases h
  · rename_i t nm off h1 h2
    split at h
    · rename_i c ty hl
      cases h
      intro hc
      refine ⟨rfl, fun F cs r hf hcs hr => ?_⟩
      simp only [foot, AV.name, Option.some.injEq] at hf
      subst hf
      have := objs_one hcs hl
      subst this
      simp only [bltT] at hc
      simp only [act, h1, h2, PObj.toA] at hr
      split at hr
      · split at hr
        · cases hr
          exact ⟨⟨hc, trivial⟩, fun e => absurd rfl e, rfl⟩
        · cases hr
      · cases hr
    · cases h
  · rename_i u nm off h1 h2
    split at h
    · rename_i c ty hl
      cases h
      intro hc
      refine ⟨rfl, fun F cs r hf hcs hr => ?_⟩
      simp only [foot, AV.name, Option.some.injEq] at hf
      subst hf
      have := objs_one hcs hl
      subst this
      simp only [act, h1, h2, PObj.toA] at hr
      split at hr
      · cases hr
        exact ⟨⟨hc, trivial⟩, fun e => absurd rfl e, rfl⟩
      · cases hr
    · cases h
  · rename_i d k k' n h1 h2
    rw [okP_eq h]
    intro hc
    refine ⟨rfl, fun F cs r hf hcs hr => ?_⟩
    simp only [foot, AV.name, Option.some.injEq] at hf
    subst hf
    simp only [objs, Option.some.injEq] at hcs
    subst hcs
    simp only [act, h1, h2] at hr
    obtain ⟨ob, v, q1, rfl⟩ := ok1_spec hr
    have := convA_obl q1; subst this
    exact ⟨trivial, fun e => absurd rfl e, rfl⟩
  · rename_i d s h1 h2
    rw [okP_eq h]
    intro hc
    refine ⟨rfl, fun F cs r hf hcs hr => ?_⟩
    simp only [foot, Option.some.injEq] at hf
    subst hf
    simp only [objs, Option.some.injEq] at hcs
    subst hcs
    simp only [act, h1, h2] at hr
    obtain ⟨ob, v, q1, rfl⟩ := ok1_spec hr
    have := convA_obl q1; subst this
    exact ⟨trivial, fun e => absurd rfl e, rfl⟩
  · rename_i d k n h1 h2
    rw [okP_eq h]
    intro hc
    refine ⟨rfl, fun F cs r hf hcs hr => ?_⟩
    simp only [foot, AV.name, Option.some.injEq] at hf
    subst hf
    simp only [objs, Option.some.injEq] at hcs
    subst hcs
    simp only [act, h1, h2] at hr
    obtain ⟨ob, v, q1, rfl⟩ := ok1_spec hr
    have := convA_obl q1; subst this
    exact ⟨trivial, fun e => absurd rfl e, rfl⟩
  · cases h

theorem nextP_sound {x0 : Operand} {nm : Nat} {mem : List (Option PObj)} {a : Alt} (h : nextP nm mem = some a) : AltOK P (.next x0 true) [.ptr nm 0] mem a := by
  unfold nextP at h
  split at h
  · rename_i s pos hl
    cases h
    constructor
    · intro hb _
      refine ⟨rfl, fun F cs r hf hcs hr => ?_⟩
      simp only [foot, Option.some.injEq] at hf
      subst hf
      have := objs_one hcs hl
      subst this
      simp only [act, PObj.toA] at hr
      cases hr
      exact ⟨⟨by trivial, of_decide_eq_true hb, by trivial, by trivial, by trivial, trivial⟩, fun _ => rfl, rfl⟩
    · intro hb _
      refine ⟨rfl, fun F cs r hf hcs hr => ?_⟩
      simp only [foot, Option.some.injEq] at hf
      subst hf
      have := objs_one hcs hl
      subst this
      simp only [act, PObj.toA] at hr
      cases hr
      exact ⟨⟨Nat.le_of_not_lt (of_decide_eq_false hb), trivial⟩, fun _ => rfl, rfl⟩
  · cases h

theorem objs_nil {m : List (Option AObj)} {cs : List AObj} (h : objs m [] = some cs) : cs = [] := by simpa [objs] using h.symm

/-- What the executor tells of an operation without conditions. -/
theorem plain_ok {o : Op} {vals : List AV} {mem : List (Option PObj)} {chk : Bool} (h : ∀ F cs r, foot {} o vals = some F → objs (memA mem) F.rd = some cs → act P {} o vals cs = some r → chk = true → AllP r.obl ∧ F.ws = [] ∧ r.new = []) : AltOK P o vals mem (.ok chk {} [] []) := by
  intro hc
  refine ⟨rfl, fun F cs r hf hcs hr => ?_⟩
  obtain ⟨a, b, c⟩ := h F cs r hf hcs hr hc
  exact ⟨a, fun e => absurd b e, c⟩

theorem pact_sound {o : Op} {vals : List AV} {mem : List (Option PObj)} {a : Alt} (h : pact P o vals mem = some a) : AltOK P o vals mem a := by
  unfold pact at h
  split at h
  · -- move
    rw [okP_eq h]
    refine plain_ok fun F cs r hf hcs hr _ => ?_
    simp only [foot, footV, Option.some.injEq] at hf; subst hf
    simp only [act, moveA] at hr; cases hr
    exact ⟨trivial, rfl, rfl⟩
  · rw [okP_eq h]
    refine plain_ok fun F cs r hf hcs hr _ => ?_
    simp only [foot, footV, Option.some.injEq] at hf; subst hf
    simp only [act, moveA] at hr; cases hr
    exact ⟨trivial, rfl, rfl⟩
  · -- pick
    rename_i v1 v2 v3
    rw [okP_eq h]
    refine plain_ok fun F cs r hf hcs hr _ => ?_
    simp only [foot, Option.some.injEq] at hf; subst hf
    cases v1 <;> simp only [act] at hr <;> cases hr
    exact ⟨trivial, rfl, rfl⟩
  · -- alloc
    rename_i t
    simp only [Option.map_eq_some_iff] at h
    obtain ⟨z, hz, rfl⟩ := h
    intro _
    refine ⟨rfl, fun F cs r hf hcs hr => ?_⟩
    simp only [foot, Option.some.injEq] at hf; subst hf
    simp only [act, hz] at hr
    split at hr
    · cases hr; exact ⟨trivial, fun e => absurd rfl e, rfl⟩
    · cases hr
  · -- box
    rename_i t x v
    cases h
    intro _
    refine ⟨rfl, fun F cs r hf hcs hr => ?_⟩
    simp only [foot, Option.some.injEq] at hf; subst hf
    simp only [act] at hr
    split at hr
    · cases hr; exact ⟨trivial, fun e => absurd rfl e, rfl⟩
    · cases hr
  · -- build
    rename_i t ps
    rw [okP_eq h]
    refine plain_ok fun F cs r hf hcs hr hc => ?_
    have hF : F = .no := by
      cases vals with
      | nil => simp only [foot, Option.some.injEq] at hf; exact hf.symm
      | cons a vs => simp only [foot, Option.some.injEq] at hf; exact hf.symm
    subst hF
    simp only [act] at hr
    split at hr
    · rename_i ob c hb
      split at hr
      · cases hr; exact ⟨build_sound hb hc, rfl, rfl⟩
      · cases hr
    · cases hr
  · -- buildSlice
    rename_i t len ps
    split at h
    · rename_i e hu
      split at h
      · rename_i ie z hi hz
        split at h
        · rename_i ob c hf0
          cases h
          intro hc
          refine ⟨rfl, fun F cs r hf hcs hr => ?_⟩
          have hF : F = ⟨[], [], [frn mem]⟩ := by
            cases vals with
            | nil => simp only [foot, Option.some.injEq] at hf; exact hf.symm
            | cons a vs => simp only [foot, Option.some.injEq] at hf; exact hf.symm
          subst hF
          simp only [act, hu, hi, hz] at hr
          split at hr
          · simp only [hf0] at hr
            cases hr
            exact ⟨(fillB_sound _ _ _ _ hf0 hc).1, fun e => absurd rfl e, rfl⟩
          · cases hr
        · cases h
      · cases h
    · cases h
  · -- makeSlice
    rename_i t x1 x2 k1 len k2 cap
    split at h
    · rename_i e hu
      split at h
      · rename_i ie z hi hz
        have fl : ∀ (k : IntKind) (n : Int), (List.replicate cap.toNat (AV.int k n).cells).flatten = ints k (List.replicate cap.toNat n) := fun k n => by
          simp [AV.cells, ints, List.flatten_replicate_singleton, List.map_replicate]
        split at h
        · cases h
          intro hc
          refine ⟨rfl, fun F cs r hf hcs hr => ?_⟩
          simp only [foot, Option.some.injEq] at hf; subst hf
          have hc := of_decide_eq_true hc
          simp only [act, hu, hi, hz] at hr
          split at hr
          · cases hr
            refine ⟨⟨hc.1, hc.2.1, hc.2.2.1, hc.2.2.2, ?_, trivial⟩, fun e => absurd rfl e, rfl⟩
            rw [fl]; simp [PObj.toA, ints, u8s, List.map_replicate]
          · cases hr
        · cases h
          intro hc
          refine ⟨rfl, fun F cs r hf hcs hr => ?_⟩
          simp only [foot, Option.some.injEq] at hf; subst hf
          have hc := of_decide_eq_true hc
          simp only [act, hu, hi, hz] at hr
          split at hr
          · cases hr
            refine ⟨⟨hc.1, hc.2.1, hc.2.2.1, hc.2.2.2, ?_, trivial⟩, fun e => absurd rfl e, rfl⟩
            rw [fl]; rfl
          · cases hr
        · cases h
          intro hc
          refine ⟨rfl, fun F cs r hf hcs hr => ?_⟩
          simp only [foot, Option.some.injEq] at hf; subst hf
          have hc := of_decide_eq_true hc
          simp only [act, hu, hi, hz] at hr
          split at hr
          · cases hr
            exact ⟨⟨hc.1, hc.2.1, hc.2.2.1, hc.2.2.2, trivial⟩, fun e => absurd rfl e, rfl⟩
          · cases hr
      · cases h
    · cases h
  · exact loadP_sound h
  · exact loadGP_sound h
  · exact storeP_sound h
  · -- nilCheck
    rename_i x v
    rw [okP_eq h]
    refine plain_ok fun F cs r hf hcs hr _ => ?_
    simp only [foot, Option.some.injEq] at hf; subst hf
    cases v <;> simp only [act] at hr <;> cases hr <;> exact ⟨trivial, rfl, rfl⟩
  · -- binOp
    rename_i op t x1 x2 yt x y
    rw [okP_eq h]
    refine plain_ok fun F cs r hf hcs hr hc => ?_
    simp only [foot, Option.some.injEq] at hf; subst hf
    simp only [act] at hr
    rw [if_neg (by simp)] at hr
    split at hr
    · cases hr; exact ⟨trivial, rfl, rfl⟩
    · cases hr; exact ⟨trivial, rfl, rfl⟩
    · obtain ⟨ob, v, q1, rfl⟩ := ok1_spec hr
      exact ⟨binP_sound q1 hc, rfl, rfl⟩
  · -- unOp
    rw [okP_eq h]
    refine plain_ok fun F cs r hf hcs hr hc => ?_
    simp only [foot, Option.some.injEq] at hf; subst hf
    simp only [act] at hr
    obtain ⟨ob, v, q1, rfl⟩ := ok1_spec hr
    have := unA_obl q1; subst this
    exact ⟨trivial, rfl, rfl⟩
  · exact convP_sound h
  · -- makeInterface
    rename_i t x v
    rw [okP_eq h]
    refine plain_ok fun F cs r hf hcs hr hc => ?_
    simp only [foot, Option.some.injEq] at hf; subst hf
    simp only [act] at hr
    split at hr
    · cases hr
    · split at hr
      · cases hr; exact ⟨trivial, rfl, rfl⟩
      · cases hr
    · cases hr
  · -- makeFunc
    rename_i f x y
    rw [okP_eq h]
    refine plain_ok fun F cs r hf hcs hr hc => ?_
    have hF : F = .no := by
      cases vals with
      | nil => simp only [foot, Option.some.injEq] at hf; exact hf.symm
      | cons a vs => simp only [foot, Option.some.injEq] at hf; exact hf.symm
    subst hF
    cases f <;> simp only [act] at hr <;> try (cases hr; done)
    split at hr
    · cases hr; exact ⟨trivial, rfl, rfl⟩
    · cases hr
  · exact sliceP_sound h
  · -- fieldAddr
    rename_i t x f v
    rw [okP_eq h]
    refine plain_ok fun F cs r hf hcs hr hc => ?_
    simp only [foot, Option.some.injEq] at hf; subst hf
    cases v <;> simp only [act] at hr <;> try (cases hr; done)
    all_goals
      split at hr
      · split at hr
        · split at hr
          · cases hr; exact ⟨trivial, rfl, rfl⟩
          · cases hr
        · cases hr
      · cases hr
  · -- field
    rename_i t x f c
    split at h
    · rename_i fs hu
      split at h
      · rename_i fd hfd
        split at h
        · rename_i d hd
          rw [okP_eq h]
          refine plain_ok fun F cs r hf hcs hr hc => ?_
          simp only [foot, Option.some.injEq] at hf; subst hf
          simp only [act, hu, hfd, hd] at hr
          split at hr
          · rename_i ha
            rw [if_pos ha, bleT] at hc
            cases hr; exact ⟨⟨hc, trivial⟩, rfl, rfl⟩
          · simp only [Option.map_eq_some_iff] at hr
            obtain ⟨v, _, rfl⟩ := hr
            exact ⟨trivial, rfl, rfl⟩
        · cases h
      · cases h
    · cases h
  · -- indexAddr
    rename_i t x1 x2 x k i
    split at h
    · rename_i xa _ _ n e hu
      rw [okP_eq h]
      refine plain_ok fun F cs r hf hcs hr hc => ?_
      simp only [foot, Option.some.injEq] at hf; subst hf
      have hc := of_decide_eq_true hc
      cases xa <;> simp only [act, hu] at hr <;> try (cases hr; done)
      all_goals
        split at hr
        · cases hr; exact ⟨⟨hc.1, hc.2, trivial⟩, rfl, rfl⟩
        · cases hr
    · rename_i e nm off len cap hu
      rw [okP_eq h]
      refine plain_ok fun F cs r hf hcs hr hc => ?_
      simp only [foot, Option.some.injEq] at hf; subst hf
      have hc := of_decide_eq_true hc
      simp only [act, hu] at hr
      split at hr
      · cases hr; exact ⟨⟨hc.1, hc.2, trivial⟩, rfl, rfl⟩
      · cases hr
    · rename_i e nm len hu
      rw [okP_eq h]
      refine plain_ok fun F cs r hf hcs hr hc => ?_
      simp only [foot, Option.some.injEq] at hf; subst hf
      have hc := of_decide_eq_true hc
      simp only [act, hu] at hr
      split at hr
      · cases hr; exact ⟨⟨hc.1, hc.2, trivial⟩, rfl, rfl⟩
      · cases hr
    · cases h
  · -- index
    rename_i t x1 x2 x k i
    split at h
    · rename_i s hu
      cases h
      intro hc
      refine ⟨rfl, fun F cs r hf hcs hr => ?_⟩
      simp only [foot, Option.some.injEq] at hf; subst hf
      have hc := of_decide_eq_true hc
      simp only [act, hu] at hr
      cases hr
      exact ⟨⟨hc.1, strGet hc.2, trivial⟩, fun e => absurd rfl e, rfl⟩
    · rename_i n e c hu
      split at h
      · rename_i d hd
        rw [okP_eq h]
        refine plain_ok fun F cs r hf hcs hr hc => ?_
        simp only [foot, Option.some.injEq] at hf; subst hf
        simp only [Bool.and_eq_true] at hc
        obtain ⟨hc1, hc2⟩ := hc
        have hc1 := of_decide_eq_true hc1
        simp only [act, hu, hd] at hr
        split at hr
        · rename_i ha
          rw [if_pos ha, bleT] at hc2
          cases hr; exact ⟨⟨hc1.1, hc1.2, hc2, trivial⟩, rfl, rfl⟩
        · simp only [Option.map_eq_some_iff] at hr
          obtain ⟨v, _, rfl⟩ := hr
          exact ⟨⟨hc1.1, hc1.2, trivial⟩, rfl, rfl⟩
      · cases h
    · cases h
  · -- extract
    rename_i x i v
    rw [okP_eq h]
    refine plain_ok fun F cs r hf hcs hr hc => ?_
    simp only [foot, Option.some.injEq] at hf; subst hf
    cases v <;> simp only [act] at hr <;> try (cases hr; done)
    simp only [Option.map_eq_some_iff] at hr
    obtain ⟨v, _, rfl⟩ := hr
    exact ⟨trivial, rfl, rfl⟩
  · -- range
    rename_i t x s
    cases h
    intro _
    refine ⟨rfl, fun F cs r hf hcs hr => ?_⟩
    simp only [foot, Option.some.injEq] at hf; subst hf
    simp only [act] at hr
    split at hr
    · rename_i hnm
      cases hnm
      cases hr; exact ⟨trivial, fun e => absurd rfl e, rfl⟩
    · cases hr
  · exact nextP_sound h
  · -- calls
    rename_i c
    split at h
    · rename_i v hc
      rw [okP_eq h]
      refine plain_ok fun F cs r hf hcs hr _ => ?_
      simp only [foot, hc, Option.some.injEq] at hf; subst hf
      simp only [act, hc] at hr
      split at hr
      · rename_i e2
        cases e2
        simp only [Option.map_eq_some_iff] at hr
        obtain ⟨v, _, rfl⟩ := hr
        exact ⟨trivial, rfl, rfl⟩
      · cases hr
    · rename_i v w hc
      rw [okP_eq h]
      refine plain_ok fun F cs r hf hcs hr _ => ?_
      simp only [foot, hc, Option.some.injEq] at hf; subst hf
      simp only [act, hc, Option.map_eq_some_iff] at hr
      obtain ⟨v, _, rfl⟩ := hr
      exact ⟨trivial, rfl, rfl⟩
    · rename_i v w hc
      rw [okP_eq h]
      refine plain_ok fun F cs r hf hcs hr _ => ?_
      simp only [foot, hc, Option.some.injEq] at hf; subst hf
      simp only [act, hc, Option.map_eq_some_iff] at hr
      obtain ⟨v, _, rfl⟩ := hr
      exact ⟨trivial, rfl, rfl⟩
    · rename_i s x hc
      exact appendP_sound hc h
    · rename_i v hc
      rw [okP_eq h]
      refine plain_ok fun F cs r hf hcs hr _ => ?_
      simp only [foot, hc, Option.some.injEq] at hf; subst hf
      simp only [act, hc] at hr
      split at hr
      · rename_i e2
        cases e2
        simp only [Option.map_eq_some_iff] at hr
        obtain ⟨v, _, rfl⟩ := hr
        exact ⟨trivial, rfl, rfl⟩
      · cases hr
    · rename_i s hc
      cases h
      intro _
      refine ⟨rfl, fun F cs r hf hcs hr => ?_⟩
      simp only [foot, hc, AV.name, List.append_nil, Option.some.injEq] at hf; subst hf
      simp only [act, hc] at hr
      split at hr
      · rename_i e2
        cases e2
        split at hr
        · cases hr
          exact ⟨trivial, fun _ => objs_nameP hcs, rfl⟩
        · cases hr
      · cases hr
    · rename_i hc
      rw [okP_eq h]
      refine plain_ok fun F cs r hf hcs hr _ => ?_
      simp only [foot, hc, AV.name, Option.some.injEq] at hf; subst hf
      simp only [act, hc, objs_nil hcs, sliceDataA] at hr
      cases hr
      exact ⟨trivial, rfl, rfl⟩
    · rename_i nm len hc
      split at h
      · rename_i cs0 t sz hl
        cases h
        intro hb
        refine ⟨rfl, fun F cs r hf hcs hr => ?_⟩
        simp only [foot, hc, AV.name, Option.some.injEq] at hf; subst hf
        have := objs_one hcs hl
        subst this
        simp only [act, hc, sliceDataA, PObj.toA] at hr
        cases hr
        exact ⟨⟨bltT.1 hb, trivial⟩, fun e => absurd rfl e, rfl⟩
      · rename_i l t hl
        cases h
        intro hb
        refine ⟨rfl, fun F cs r hf hcs hr => ?_⟩
        simp only [foot, hc, AV.name, Option.some.injEq] at hf; subst hf
        have := objs_one hcs hl
        subst this
        simp only [act, hc, sliceDataA, PObj.toA] at hr
        cases hr
        exact ⟨⟨by rw [u8s_length]; exact of_decide_eq_true hb, trivial⟩, fun e => absurd rfl e, rfl⟩
      · cases h
    · rename_i n hc
      rw [okP_eq h]
      refine plain_ok fun F cs r hf hcs hr hb => ?_
      simp only [foot, hc, AV.name, Option.some.injEq] at hf; subst hf
      simp only [act, hc, objs_nil hcs, unsafeStrA] at hr
      split at hr
      · rename_i e2 e3 e4
        cases e2
        cases hr
        exact ⟨⟨by simpa using hb, trivial⟩, rfl, rfl⟩
      · rename_i e2 e3 e4; cases e2
      · cases hr
    · rename_i nm n hc
      split at h
      · rename_i l t hl
        cases h
        intro hb
        refine ⟨rfl, fun F cs r hf hcs hr => ?_⟩
        simp only [foot, hc, AV.name, Option.some.injEq] at hf; subst hf
        have := objs_one hcs hl
        subst this
        simp only [Bool.and_eq_true, beq_iff_eq, Bool.not_eq_true', List.isEmpty_eq_false_iff, decide_eq_true_eq] at hb
        obtain ⟨⟨b1, b2⟩, b3⟩ := hb
        simp only [act, hc, unsafeStrA, PObj.toA] at hr
        split at hr
        · rename_i e2 e3 e4; cases e2
        · rename_i e2 e3 e4
          cases e2; cases e3
          split at hr
          · split at hr
            · cases hr
              exact ⟨⟨rfl, b1, b2, b3, trivial⟩, fun _ => rfl, rfl⟩
            · cases hr
          · cases hr
        · cases hr
      · cases h
    · cases h
  · cases h

end Go.Proofs.YtpdhfopfjoinnaaDoor.Sx
