
/-
  octet's Reader by its state, plainly and in memory: what is left, or none behind an error. For every package that reads by it.
-/
import Derived.Test.YtcncoppnkodhmabWRead3
import Derived.Test.YtcncoppnkodhmabWRound
namespace Go.Proofs.Ytcncoppnkodhmab.rdS
open Go.RowKit

abbrev L := List UInt8
abbrev St := Option L

def numS (st : St) (M : Nat) : Nat × St := match st with
  | none => (0, none)
  | some l => match numRead l M with
    | none => (0, none)
    | some (n, r) => (n, some r)
def textS (st : St) (M : Nat) : L × St := match st with
  | none => ([], none)
  | some l => match textRead l M with
    | none => ([], none)
    | some (t, r) => (t, some r)
def flagS (st : St) : Bool × St := match st with
  | none => (false, none)
  | some l => match flagRead l with
    | none => (false, none)
    | some (t, r) => (t, some r)
/-- End's answer -/
def endS (st : St) : Int := match st with
  | some [] => 0
  | _ => 2

theorem lay_arr (t : L) : (⟨t.toArray⟩ : ByteArray).size = t.length := rfl
theorem numS_le (st : St) (M : Nat) : (numS st M).1 ≤ M := by
  cases st with
  | none => exact Nat.zero_le _
  | some l =>
    unfold numS
    simp only
    cases hn : numRead l M with
    | none => exact Nat.zero_le _
    | some q => exact (numRead_len (n := q.1) (r := q.2) hn).2
theorem numS_laid {m M : Nat} (h : m ≤ M) (hm : m < 2 ^ 64) (x : L) : numS (some (octN m ++ x)) M = (m, some x) := by
  unfold numS
  simp only
  rw [numRead_laid _ _ _ hm, if_pos h]
theorem textS_laid {s : ByteArray} {M : Nat} (h : s.size ≤ M) (hs : s.size < 2 ^ 64) (x : L) : textS (some (octT s ++ x)) M = (s.data.toList, some x) := by
  unfold textS
  simp only
  rw [textRead_laid _ _ _ hs, if_pos h]
theorem flagS_laid (y : Bool) (x : L) : flagS (some (octF y ++ x)) = (y, some x) := by
  unfold flagS
  simp only
  rw [flagRead_laid]

/-- what was read stands there, ahead of what is left -/
theorem numS_back {st : St} {M n : Nat} {r : L} (h : numS st M = (n, some r)) : st = some (octN n ++ r) ∧ n < 2 ^ 64 ∧ n ≤ M := by
  cases st with
  | none => cases h
  | some l =>
    unfold numS at h
    simp only at h
    cases hr : numRead l M with
    | none => rw [hr] at h; simp at h
    | some p =>
      obtain ⟨n', r'⟩ := p
      rw [hr] at h
      simp only [Prod.mk.injEq, Option.some.injEq] at h
      obtain ⟨rfl, rfl⟩ := h
      obtain ⟨hl, hb⟩ := numRead_back hr
      exact ⟨by rw [hl], hb, (numRead_len hr).2⟩
theorem textS_back {st : St} {M : Nat} {t r : L} (h : textS st M = (t, some r)) : st = some (octT ⟨t.toArray⟩ ++ r) ∧ t.length ≤ M := by
  cases st with
  | none => cases h
  | some l =>
    unfold textS at h
    simp only at h
    cases hr : textRead l M with
    | none => rw [hr] at h; simp at h
    | some p =>
      obtain ⟨t', r'⟩ := p
      rw [hr] at h
      simp only [Prod.mk.injEq, Option.some.injEq] at h
      obtain ⟨rfl, rfl⟩ := h
      obtain ⟨hl, ht⟩ := textRead_back hr
      refine ⟨?_, ht⟩
      rw [hl]
      unfold octT
      rw [lay_arr]
theorem flagS_back {st : St} {y : Bool} {r : L} (h : flagS st = (y, some r)) : st = some (octF y ++ r) := by
  cases st with
  | none => cases h
  | some l =>
    unfold flagS at h
    simp only at h
    cases hr : flagRead l with
    | none => rw [hr] at h; simp at h
    | some p =>
      obtain ⟨t', r'⟩ := p
      rw [hr] at h
      simp only [Prod.mk.injEq, Option.some.injEq] at h
      obtain ⟨rfl, rfl⟩ := h
      rw [flagRead_back hr]

def stLen (st : St) : Prop := ∀ l, st = some l → l.length ≤ 281474976710656
theorem numS_len {st : St} {M : Nat} (h : stLen st) : stLen (numS st M).2 := by
  intro r hr
  cases hq : numS st M with
  | mk n s =>
    rw [hq] at hr
    simp only at hr
    subst hr
    have h1 := (numS_back hq).1
    have := h _ h1
    rw [List.length_append] at this
    omega
theorem textS_len {st : St} {M : Nat} (h : stLen st) : stLen (textS st M).2 := by
  intro r hr
  cases hq : textS st M with
  | mk n s =>
    rw [hq] at hr
    simp only at hr
    subst hr
    have h1 := (textS_back hq).1
    have := h _ h1
    rw [List.length_append] at this
    omega
theorem flagS_len {st : St} (h : stLen st) : stLen (flagS st).2 := by
  intro r hr
  cases hq : flagS st with
  | mk n s =>
    rw [hq] at hr
    simp only at hr
    subst hr
    have h1 := flagS_back hq
    have := h _ h1
    rw [List.length_append] at this
    omega
theorem textS_short (st : St) (M : Nat) : (textS st M).1.length ≤ M := by
  cases st with
  | none => exact Nat.zero_le _
  | some l =>
    unfold textS
    simp only
    cases hn : textRead l M with
    | none => exact Nat.zero_le _
    | some q => exact (textRead_back (t := q.1) (r := q.2) hn).2

def RS (w : World) (b : Nat) : St → Prop
  | some l => Rd w b ⟨l.toArray⟩ false
  | none => Rd w b ⟨#[]⟩ true

/-- from w to w': the reader goes to a state, and but for new blocks nothing else turns -/
def GS (w : World) (b : Nat) (st : St) (w' : World) : Prop := RS w' b st ∧ w.grownBy w' (some b)

theorem RS.lt {w : World} {b : Nat} {st : St} (h : RS w b st) : b < w.heap.size := by
  cases st with
  | some l => exact Rd.lt h
  | none => exact Rd.lt h
theorem RS.keep {w w' : World} {b : Nat} {st : St} (h : RS w b st) (hb : w'.heap[b]? = w.heap[b]?) : RS w' b st := by
  cases st with
  | some l => exact hb.trans h
  | none => exact hb.trans h
theorem GS.refl {w : World} {b : Nat} {st : St} (h : RS w b st) : GS w b st w := ⟨h, World.grownBy.refl w _⟩
theorem GS.trans {w w1 w2 : World} {b : Nat} {st st' : St} (h : GS w b st w1) (k : GS w1 b st' w2) : GS w b st' w2 := ⟨k.1, grown_trans h.2 k.2 (.inl rfl)⟩
theorem GS.below {w w1 w2 : World} {b : Nat} {st : St} (h : GS w b st w1) (k : Below w1.heap.size w1 w2) : GS w b st w2 :=
  ⟨h.1.keep (k.block b h.1.lt), ⟨k.os.trans h.2.os, k.tape.trans h.2.tape, k.output.trans h.2.output, Nat.le_trans h.2.size k.size, fun j hj hne => (k.block j (Nat.lt_of_lt_of_le hj h.2.size)).trans (h.2.block j hj hne)⟩⟩
theorem GS.frame {w w' : World} {b B : Nat} {st : St} (h : GS w b st w') (hB : B ≤ w.heap.size) (hb : B ≤ b) : Below B w w' :=
  (Below.refl B w).grown h.2 hB fun k hk => by simp at hk; omega
/-- what stands elsewhere -/
theorem GS.other {w w' : World} {b g : Nat} {st : St} (h : GS w b st w') (hg : g < w.heap.size) (hne : g ≠ b) : w'.heap[g]? = w.heap[g]? :=
  h.2.block g hg (fun e => hne (Option.some.inj e))

theorem num_s (b : Nat) (st : St) (most : Int) (M : Nat) (hm : most = (M : Int)) (hM : M ≤ 9223372036854775807) (w : World) (h : RS w b st) :
    Calls Try.prog 23 #[.pointer (some ⟨b, 0, none⟩), .int .i64 most] w fun e w' => e = .returned (.int .i64 ((numS st M).1 : Int)) ∧ GS w b (numS st M).2 w' := by
  subst hm
  cases st with
  | none =>
    refine (num_fail b _ w h).mono ?_
    rintro e w' ⟨rfl, hg⟩
    exact ⟨rfl, hg.1, hg.2⟩
  | some l =>
    refine (num_read b false l (M : Int) (by omega) w h).mono ?_
    rw [Int.toNat_natCast]
    rintro e w' (⟨ho, rfl, hg⟩ | ⟨n, r, ho, rfl, hg⟩)
    · unfold numS
      simp only
      rw [ho]
      exact ⟨rfl, hg.1, hg.2⟩
    · unfold numS
      simp only
      rw [ho]
      exact ⟨rfl, hg.1, hg.2⟩

theorem text_s (b : Nat) (st : St) (hl : stLen st) (most : Int) (M : Nat) (hm : most = (M : Int)) (hM : M ≤ 9223372036854775807) (w : World) (h : RS w b st) :
    Calls Try.prog 24 #[.pointer (some ⟨b, 0, none⟩), .int .i64 most] w fun e w' => e = .returned (.string ⟨(textS st M).1.toArray⟩) ∧ GS w b (textS st M).2 w' := by
  subst hm
  cases st with
  | none =>
    refine (text_fail b _ w h).mono ?_
    rintro e w' ⟨rfl, hg⟩
    exact ⟨rfl, hg.1, hg.2⟩
  | some l =>
    refine (text_read b false l (hl l rfl) (M : Int) (by omega) w h).mono ?_
    rw [Int.toNat_natCast]
    rintro e w' (⟨ho, rfl, hg⟩ | ⟨t, r, ho, rfl, hg⟩)
    · unfold textS
      simp only
      rw [ho]
      exact ⟨rfl, hg.1, hg.2⟩
    · unfold textS
      simp only
      rw [ho]
      exact ⟨rfl, hg.1, hg.2⟩

theorem end_s (b : Nat) (st : St) (w : World) (h : RS w b st) :
    Calls Try.prog 25 #[.pointer (some ⟨b, 0, none⟩)] w fun e w' => e = .returned (.int .i64 (endS st)) ∧ w = w' := by
  match st, h with
  | none, h => exact end_bad b _ w h
  | some [], h => exact end_done b w h
  | some (c :: r), h => exact end_left b c r false w h

end Go.Proofs.Ytcncoppnkodhmab.rdS
