/- The symbolic executor, part J: every operation but a call of a function is sound. -/
import Derived.Test.YtpdhfopfjoinnaaDoorSxI
import Derived.Lib.ConvBytes
import Derived.Laws.BytesString
set_option linter.unusedSimpArgs false
set_option linter.unusedVariables false
namespace Go.Proofs.YtpdhfopfjoinnaaDoor.Sx
open Go

variable {P : Program} {E : Env} {w : World}

theorem Eff.fresh {w' : World} {rd ws : List Nat} {k : Nat} {c : Cap} {upd : List AObj} {o : AObj} (hold : ∀ j : Nat, j < w.heap.size → w'.heap[j]? = w.heap[j]?) (hg : w.heap.size ≤ w'.heap.size) (hos : w'.os = w.os) (ht : w'.tape = w.tape) (hout : w'.output = w.output)
    (hk : E k = none) (ho : ObjR (E.set k (w.heap.size, c)) w' w.heap.size c o)
    (hu : ws ≠ [] → ∀ (i n : Nat) (o : AObj), rd[i]? = some n → upd[i]? = some o → ∃ b c, E n = some (b, c) ∧ ObjR E w b c o) :
    Eff E (E.set k (w.heap.size, c)) w w' ⟨rd, ws, [k]⟩ upd [o] :=
  { le := .set hk
    only := fun n hn => Env.set_other E _ (by simpa using hn)
    wrote := fun e i n o hr hup => by
      obtain ⟨b, c, he, hob⟩ := hu (by intro h0; rw [h0] at e; cases e) i n o hr hup
      refine ⟨b, c, he, ?_⟩
      cases hl : o.live with
      | true => exact (hob.block fun h1 h2 => hold _ (hob.lt h1 h2)).mono (.set hk)
      | false => cases o <;> simp [AObj.live] at hl; trivial
    made := fun i n o' h1 h2 => by
      cases i with
      | zero => simp at h1 h2; subst h1; subst h2; exact ⟨_, _, Env.set_same E _ _, ho, fun _ => .inl (Nat.le_refl _)⟩
      | succ i => simp at h1
    keep := fun k hk _ => hold k hk
    newApart := fun i j n m o1 o2 b c b' c' h1 h2 _ _ _ _ _ _ hne => by
      cases i with
      | zero => cases j with
        | zero => exact absurd rfl hne
        | succ j => simp at h2
      | succ i => simp at h1
    grow := hg, os := hos, tape := ht, output := hout }

theorem denL_u8s (s : List UInt8) : denL E (u8s s) = some (s.map fun b => Value.int .u8 b.toNat) := by
  induction s with
  | nil => rfl
  | cons b s ih => simp only [u8s, List.map_cons]; exact denL_cons.2 ⟨_, _, rfl, ih, rfl⟩
theorem denC_u8s (s : List UInt8) : denC E (u8s s) (s.map fun b => Value.int .u8 b.toNat) := ⟨denL_u8s s, by simp [allOne, Value.oneCell']⟩

theorem good_bytes {o : Oper} {ρ : Operand → Value} {src dst e : TypeId} {p : Operand} {d : TypeDesc} {s : List UInt8} {k : Nat} (ho : o.op = .convert src dst p) (hp : den E (.str s) = some (ρ p)) (hs : P.underlying src = some d) (hd : P.underlying dst = some (.slice e))
    (he : P.underlying e = some (.int .u8)) (hk : E k = none) : Good E w ⟨[], [], [k]⟩ [] [.vec (u8s s) e 1] (.vec k s.length) ((execOp ρ o).run P w) := by
  have hp' : ρ p = .string ⟨s.toArray⟩ := by simpa [den] using hp.symm
  refine ⟨.slice (some ⟨w.heap.size, 0, none⟩) s.length (grownCap w s.length 0 e), Lib.bytesWorld w e ⟨s.toArray⟩, E.set k (w.heap.size, { n := grownCap w s.length 0 e }), .inl ?_, vec_made rfl rfl (by have := grownCap_ge w s.length 0 e; omega), .fresh (fun j hj => Lib.bytesWorld_at_old w e _ j hj) (by rw [Lib.bytesWorld_size]; omega) ?_ ?_ ?_ hk ?_ (fun e => absurd rfl e)⟩
  · simp only [execOp, ho, Sem.run_bind, hp', Lib.run_convert_string_bytes w src dst e _ hs hd he, Result.andThen_ok, Sem.run_pure]
    rfl
  · rfl
  · rfl
  · rfl
  · have hsz : (Lib.bytesCells w e ⟨s.toArray⟩) = ((s.map fun b => Value.int .u8 b.toNat) ++ List.replicate (grownCap w s.length 0 e - s.length) (Value.int .u8 0)).toArray := by
      simp [Lib.bytesCells, ByteArray.size]
    have hge := grownCap_ge w s.length 0 e
    refine ⟨s.map fun b => Value.int .u8 b.toNat, List.replicate (grownCap w s.length 0 e - s.length) (Value.int .u8 0), denC_u8s s, ⟨((Lib.bytesCells w e ⟨s.toArray⟩).size, (Lib.bytesCells w e ⟨s.toArray⟩).size + 1), ?_, .inr ?_⟩, ?_, rfl, rfl⟩
    · rw [Lib.bytesWorld_at_new, ← hsz]
    · simp [hsz]
    · simp; omega

theorem foldl_bytes : ∀ (s : List UInt8) (acc : ByteArray), ((s.map fun b => (b.toNat : Int)).foldl (fun (r : ByteArray) n => r.push (UInt8.ofNat n.toNat)) acc) = ⟨acc.data ++ s.toArray⟩
  | [], acc => by simp
  | b :: s, acc => by
    simp only [List.map_cons, List.foldl_cons]
    rw [foldl_bytes s]
    apply ByteArray.ext
    simp

theorem good_string {o : Oper} {ρ : Operand → Value} {src dst e : TypeId} {p : Operand} {x : AV} {ob : AObj} {F : Foot} {oo : List Prop} {n : Nat} {c : List AV} {s : List UInt8} (ho : o.op = .convert src dst p) (hx : den E x = some (ρ p)) (hs : P.underlying src = some (.slice e)) (hd : P.underlying dst = some .string)
    (he : P.underlying e = some (.int .u8)) (hF : F = ⟨x.name, [], []⟩) (hp : Pre E w F [ob]) (hel : elemsA 1 x [ob] = some (oo, n, c)) (hob : AllP oo) (hc : c = u8s s) (hnd : x.isDsl = false) : Good E w F [ob] [] (.str s) ((execOp ρ o).run P w) := by
  obtain ⟨xs, hxs, hl, hrun⟩ := elemsA_run (w := w) hel hob hx (fun i nm o' h1 h2 => hp.objs i nm o' (by rw [hF]; exact h1) h2)
  have hsl : ∃ a l cc, ρ p = .slice (some a) l cc ∧ n = l := by
    unfold elemsA at hel
    split at hel
    · rename_i h0; exact absurd h0 (by simp)
    · rename_i h0; exact absurd h0 (by simp)
    · obtain ⟨b, c', hb, e⟩ := slice_den hx
      split at hel
      · simp only [Option.some.injEq, Prod.mk.injEq] at hel; exact ⟨_, _, _, e, hel.2.1.symm⟩
      · cases hel
    · obtain ⟨b, c', hb, e⟩ := vec_den hx
      split at hel
      · simp only [Option.some.injEq, Prod.mk.injEq] at hel; exact ⟨_, _, _, e, hel.2.1.symm⟩
      · cases hel
    · simp [AV.isDsl] at hnd
    · cases hel
  subst hc
  obtain ⟨_, hr⟩ := hrun w rfl
  have hxe : xs = s.map fun b => Value.int .u8 b.toNat := by
    have := hxs.1; rw [denL_u8s] at this; exact (Option.some.inj this).symm
  refine Good.pure (by rw [hF]; rfl) (by rw [hF]) (x := .string ⟨s.toArray⟩) ?_ rfl
  obtain ⟨a, l, cc, e, rfl⟩ := hsl
  rw [e] at hr
  simp only [Builtin.firstCells, Nat.mul_one] at hr
  have := run_bytesToString (P := P) w a n cc (s.map fun b => (b.toNat : Int)) (by rw [hr, hxe]; simp [List.map_map]; try rfl)
  rw [foldl_bytes] at this
  simp only [execOp, ho, Sem.run_bind, e, run_convert_bytes_string w src dst _ _ _ _ hs he hd, this, Result.andThen_ok, Sem.run_pure]
  congr 3
  apply ByteArray.ext; simp

theorem operands_slice {t : TypeId} {x : Operand} {lo hi mx : Option Operand} : (Op.slice t x lo hi mx).operands.toList = x :: (lo.toArray ++ hi.toArray ++ mx.toArray).toList := by
  simp [Op.operands]

theorem ite_addr {b off m l sz : Nat} : (if m = l then (⟨b, off, none⟩ : Addr) else (⟨b, off, none⟩ : Addr).add (l * sz)) = ⟨b, if m = l then off else off + l * sz, none⟩ := by
  split
  · rfl
  · rw [Addr.add_none]

theorem take_extract (s : List UInt8) (l u : Nat) : (ByteArray.mk s.toArray).extract l u = ⟨((s.drop l).take (u - l)).toArray⟩ := by
  apply ByteArray.ext
  simp only [ByteArray.data_extract]
  simp [List.extract_eq_take_drop, List.extract_toArray]

end Go.Proofs.YtpdhfopfjoinnaaDoor.Sx
