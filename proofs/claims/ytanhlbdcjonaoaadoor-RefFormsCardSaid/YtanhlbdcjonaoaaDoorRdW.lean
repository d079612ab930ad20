/- Layer 2: names between apostrophes. -/
import Derived.Test.YtanhlbdcjonaoaaDoorRdV
set_option linter.unusedVariables false
set_option linter.unusedSimpArgs false
namespace Go.Proofs.YtanhlbdcjonaoaaDoor
open Go Sx

theorem lv60_ok : LvOK Tryd.prog lv60 := by
  intro f fn body hf hb K x hx id e hid he t
  by_cases h : f = 60
  · subst h
    obtain rfl : fn = Tryd.f60 := (Option.some.inj (Tryd.func60.symm.trans hf)).symm
    have hbody : body = bodyOf Tryd.f60 := by unfold bodyOf; rw [hb]; rfl
    subst hbody
    have hid' : id = 13 := by
      by_cases e13 : id = 13
      · exact e13
      · exfalso
        have : (lv60 60).ent id = none := by
          show (match id with | 13 => some e60 | _ => none) = none
          split
          · exact absurd rfl e13
          · rfl
        rw [this] at he; cases he
    subst hid'
    have h1 : (loopBodies (bodyOf Tryd.f60)).all (fun c => !(headReg c == some 13) || true) = true := by kernel_rfl
    have hx' : x = (loopBodies (bodyOf Tryd.f60)).headD .skip := by
      have hh : ∃ a b, loopBodies (bodyOf Tryd.f60) = (loopBodies (bodyOf Tryd.f60)).headD .skip :: b ∧ a = b ∧ (b.all fun c => !(headReg c == some 13)) = true := ⟨(loopBodies (bodyOf Tryd.f60)).tail, (loopBodies (bodyOf Tryd.f60)).tail, by kernel_rfl, rfl, by kernel_rfl⟩
      obtain ⟨a, b, hh, _, hb2⟩ := hh
      rw [hh] at hx
      rcases List.mem_cons.1 hx with hx | hx
      · exact hx
      · have := List.all_eq_true.1 hb2 x hx
        rw [hid] at this; simp at this
    have he' : e60 = e := Option.some.inj he
    subst he'
    rw [hx']
    clear hx hx' hid he hb hf h1
    unfold e60
    split
    · rename_i l p r rm
      split
      · rename_i n i r2 hd
        refine ⟨fun g1 => ⟨fun g2 => ⟨fun g3 => ?_, fun _ => trivial⟩, fun _ => trivial⟩, fun _ => trivial⟩
        obtain ⟨rfl, rfl, rfl, hl⟩ := of_decide_eq_true g3
        have hr := dropN_eq _ _ _ hd
        rw [hr, onlyN_eq _ _ g1, nonesB_eq _ _ g2]
        exact loop60 l hl
      · trivial
    · trivial
  · exfalso
    have : (lv60 f).ent id = none := by
      unfold lv60
      split
      · exact absurd rfl h
      · rfl
    rw [this] at he; cases he

def eRepl : Ent := fun args pre => match args, pre with
  | [.str l, .str [39], .str [39, 39], .int .i64 (-1)], [] => .chk (decide (l.length ≤ 1000000)) (.ret (.str (dblS l)) [])
  | _, _ => .fail
def endA (l : List UInt8) : List UInt8 := (goQ l (l.count 39) [] 0).1
def endP (l : List UInt8) : Nat := (goQ l (l.count 39) [] 0).2
def endR (l : List UInt8) : List UInt8 := List.take (l.length - ((endP l : Nat) : Int).toNat) (List.drop ((endP l : Nat) : Int).toNat l)
def needT (l : List UInt8) : Int := IntKind.i64.wrap ((l.length : Int) + IntKind.i64.wrap (((l.count 39 : Nat) : Int) * IntKind.i64.wrap (((2 : Nat) : Int) - ((1 : Nat) : Int))))
theorem repl_ok : EntOK Tryd.prog 60 eRepl := fun args pre => by
  unfold eRepl
  split
  · rename_i l
    have e : Comes tabQ lv60 60 [.str l, .str [39], .str [39, 39], .int .i64 (-1)] []
      (.br (((l.count 39 : Nat) : Int) == 0) (.ret (.str l) []) (.br (decide (needT l < 0)) .fail (.br (decide (IntKind.i64.wrap (0 - 0) < needT l)) (.br (decide (0 ≤ IntKind.i64.wrap (IntKind.i64.wrap (2 * 0) + needT l) ∧ IntKind.i64.wrap (IntKind.i64.wrap (2 * 0) + needT l) ≤ 281474976710656))
        (.br (decide ((0 : Int) = 0 ∧ (0 : Int) = 0 ∧ ((l.count 39 : Nat) : Int) = ((l.count 39 : Nat) : Int) ∧ l.length ≤ 1000000)) (.br (decide (0 ≤ ((endP l : Nat) : Int) ∧ ((endP l : Nat) : Int).toNat ≤ l.length)) (.br (roomB (endA l) (endA l).length (endR l).length)
          (.br (decide (0 < (endA l ++ endR l).length)) (.br ((((endA l).length + (endR l).length : Nat) : Int) == ((endA l ++ endR l).length : Int) && !(endA l ++ endR l).isEmpty && decide ((endA l ++ endR l).length < 9223372036854775808)) (.ret (.str (endA l ++ endR l)) []) .fail) .fail) .fail) .fail) .fail) .fail) .fail))) := by unfold Comes; kernel_rfl
    refine of_run (ans_comes tabQ_ok e lv60_ok) fun x h => ?_
    obtain ⟨hl, h⟩ := chk_run h
    have hl := of_decide_eq_true hl
    rw [← h]
    simp only [Ans.run]
    by_cases h0 : l.count 39 = 0
    · rw [bcT (b := ((l.count 39 : Nat) : Int) == 0) (by rw [h0]; rfl), dbl_none _ h0]
    · have hcl : l.count 39 ≤ l.length := List.count_le_length
      have hg := goQ_end l (l.count 39) [] 0 (Nat.zero_le _) rfl
      have hP : endP l ≤ l.length := hg.2.1
      have hA : (endA l).length ≤ 2 * l.length := by have := hg.2.2; simp only [List.length_nil] at this; unfold endA; omega
      have hR : endR l = l.drop (endP l) := by
        unfold endR; rw [Int.toNat_natCast]; exact List.take_of_length_le (by rw [List.length_drop]; exact Nat.le_refl _)
      have hD : endA l ++ endR l = dblS l := by rw [hR]; have := hg.1; rw [List.nil_append, List.drop_zero] at this; exact this
      have hn : needT l = ((l.length + l.count 39 : Nat) : Int) := by
        unfold needT
        rw [i64_in (n := ((2 : Nat) : Int) - ((1 : Nat) : Int)) (by omega) (by omega), show ((l.count 39 : Nat) : Int) * (((2 : Nat) : Int) - ((1 : Nat) : Int)) = ((l.count 39 : Nat) : Int) by omega, i64_in (n := ((l.count 39 : Nat) : Int)) (by omega) (by omega), i64_in (by omega) (by omega)]
        push_cast; rfl
      have w0 : IntKind.i64.wrap (0 - 0) = 0 := rfl
      have w1 : IntKind.i64.wrap (IntKind.i64.wrap (2 * 0) + needT l) = needT l := by
        rw [show IntKind.i64.wrap (2 * 0) = 0 from rfl, Int.zero_add, hn, i64_in (by omega) (by omega)]
      have hlen : (endA l ++ endR l).length = (endA l).length + (endR l).length := List.length_append
      have hRl : (endR l).length ≤ l.length := by rw [hR, List.length_drop]; omega
      have hpos : 0 < (endA l ++ endR l).length := by
        rw [hD]
        have : l ≠ [] := fun e => by rw [e] at h0; simp at h0
        cases l with
        | nil => exact absurd rfl this
        | cons c r => unfold dblS; split <;> simp
      have hne : (endA l ++ endR l).isEmpty = false := by
        cases hh : (endA l ++ endR l) with
        | nil => rw [hh] at hpos; simp at hpos
        | cons a b => rfl
      rw [bcF (b := ((l.count 39 : Nat) : Int) == 0) (beq_eq_false_iff_ne.2 (by omega)), w0, w1, hn, bcF (b := decide (((l.length + l.count 39 : Nat) : Int) < 0)) (decide_eq_false (by omega)),
        bcT (b := decide (0 < ((l.length + l.count 39 : Nat) : Int))) (decide_eq_true (by omega)), bcT (b := decide (0 ≤ ((l.length + l.count 39 : Nat) : Int) ∧ _)) (decide_eq_true (by omega)),
        bcT (b := decide (True ∧ _)) (decide_eq_true ⟨trivial, trivial, trivial, hl⟩), bcT (b := decide (0 ≤ ((endP l : Nat) : Int) ∧ _)) (decide_eq_true (by omega)),
        bcT (b := roomB (endA l) (endA l).length (endR l).length) (by
          unfold roomB
          rw [Bool.true_and, Bool.and_eq_true, decide_eq_true_eq, decide_eq_true_eq]
          exact ⟨by show (endA l).length = (endA l).length * 1; omega, by omega⟩),
        bcT (b := decide (0 < (endA l ++ endR l).length)) (decide_eq_true hpos), bcT (b := _ && _ && _) (by rw [hne, hlen, beq_self_eq_true, decide_eq_true (by omega)]; rfl), hD]
  · trivial
end Go.Proofs.YtanhlbdcjonaoaaDoor
