/-
  Keys that rise: where a key is among them, plainly; nothing of the program.
-/
import Derived.Test.YtcebnoapgceodaaKeys
import Derived.Test.YtcebnoapgceodaaShelf
import Derived.Lib.Hide
import Derived.WalkKit
namespace Go.Proofs.Ytcebnoapgceodaa

theorem cmpB_eq : ∀ (a b : L8), Lib.compareBytes a b = cmpL a b
  | [], [] => by simp [Lib.compareBytes, cmpL]
  | [], y :: b => by simp [Lib.compareBytes, cmpL]
  | x :: a, [] => by simp [Lib.compareBytes, cmpL]
  | x :: a, y :: b => by
    rw [Lib.compareBytes, cmpB_eq a b]
    unfold cmpL
    simp only [lt_cons, UInt8.lt_iff_toNat_lt]
    by_cases h1 : x.toNat < y.toNat
    · simp [h1]
    · by_cases h2 : y.toNat < x.toNat
      · have h3 : ¬ x.toNat = y.toNat := by omega
        simp [h1, h2, h3]
      · have h3 : x.toNat = y.toNat := by omega
        simp [h3]

theorem cmpL_below {a b : L8} : cmpL a b < 0 ↔ a < b := by
  constructor
  · intro h
    rcases cmpL_three a b with e | e | e
    · by_cases hab : a < b
      · exact hab
      · unfold cmpL at e
        rw [if_neg hab] at e
        split at e <;> omega
    · omega
    · omega
  · intro h
    rw [cmpL_lt h]
    omega

theorem cmpB_zero {a b : ByteArray} : cmpL a.data.toList b.data.toList = 0 ↔ a = b := by
  rw [cmpL_zero]
  exact ⟨fun h => ByteArray.ext (Array.toList_inj.1 h), fun h => by rw [h]⟩

/-- a key below another one -/
def Lt (a b : ByteArray) : Prop := a.data.toList < b.data.toList
instance (a b : ByteArray) : Decidable (Lt a b) := by unfold Lt; infer_instance

theorem Lt.trans {a b c : ByteArray} (h : Lt a b) (k : Lt b c) : Lt a c := List.lt_trans h k
theorem Lt.irrefl (a : ByteArray) : ¬ Lt a a := fun h => List.lt_irrefl _ h
theorem key_tri (a b : ByteArray) : Lt a b ∨ a = b ∨ Lt b a := by
  by_cases h1 : Lt a b
  · exact .inl h1
  · by_cases h2 : Lt b a
    · exact .inr (.inr h2)
    · refine .inr (.inl ?_)
      have := List.le_antisymm (List.not_lt.1 h2) (List.not_lt.1 h1)
      exact ByteArray.ext (Array.toList_inj.1 this)
theorem not_lt_of {a b : ByteArray} (h : Lt a b) : ¬ Lt b a := fun k => Lt.irrefl a (h.trans k)

/-- keys that rise -/
def RiseB (ks : List ByteArray) : Prop := ks.Pairwise Lt
/-- how many are below a key; whether it is there -/
def atB (ks : List ByteArray) (k : ByteArray) : Nat := ks.countP fun x => decide (Lt x k)
def isB (ks : List ByteArray) (k : ByteArray) : Bool := ks.any fun x => decide (x = k)
theorem isB_iff {ks : List ByteArray} {k : ByteArray} : isB ks k = true ↔ k ∈ ks := by
  unfold isB
  rw [List.any_eq_true]
  exact ⟨fun ⟨x, hx, e⟩ => (of_decide_eq_true e) ▸ hx, fun h => ⟨k, h, decide_eq_true rfl⟩⟩

theorem atB_le (ks : List ByteArray) (k : ByteArray) : atB ks k ≤ ks.length := List.countP_le_length

theorem atB_append (a b : List ByteArray) (k : ByteArray) : atB (a ++ b) k = atB a k + atB b k := by unfold atB; rw [List.countP_append]

theorem atB_all {ks : List ByteArray} {k : ByteArray} (h : ∀ x ∈ ks, Lt x k) : atB ks k = ks.length := by
  unfold atB
  rw [List.countP_eq_length]
  intro x hx
  exact decide_eq_true (h x hx)
theorem atB_none {ks : List ByteArray} {k : ByteArray} (h : ∀ x ∈ ks, ¬ Lt x k) : atB ks k = 0 := by
  unfold atB
  rw [List.countP_eq_zero]
  intro x hx
  simp [h x hx]

/-- what stands ahead of that place is what is less -/
theorem atB_lt : ∀ {ks : List ByteArray} {k : ByteArray}, RiseB ks → ∀ i (h : i < ks.length), Lt ks[i] k ↔ i < atB ks k
  | [], _, _, i, h => by simp at h
  | x :: l, k, hr, i, hi => by
    have hr2 := List.pairwise_cons.1 hr
    have e : atB (x :: l) k = (if Lt x k then 1 else 0) + atB l k := by
      unfold atB
      rw [List.countP_cons]
      by_cases h : Lt x k <;> simp [h] <;> omega
    by_cases h : Lt x k
    · rw [e, if_pos h]
      match i, hi with
      | 0, _ => exact ⟨fun _ => by omega, fun _ => h⟩
      | i + 1, hi =>
        have := atB_lt (k := k) hr2.2 i (by simpa using hi)
        simp only [List.getElem_cons_succ]
        rw [this]
        omega
    · have hz : atB l k = 0 := atB_none fun y hy hl => h ((hr2.1 y hy).trans hl)
      rw [e, if_neg h, hz]
      refine ⟨fun h1 => absurd ?_ h, fun h1 => by omega⟩
      match i, hi with
      | 0, _ => exact h1
      | i + 1, hi => exact (hr2.1 _ (List.getElem_mem (by simpa using hi))).trans h1

/-- the key stands at that place, if it is there -/
theorem isB_at {ks : List ByteArray} {k : ByteArray} (hr : RiseB ks) : isB ks k = if h : atB ks k < ks.length then decide (ks[atB ks k] = k) else false := by
  by_cases hm : isB ks k = true
  · rw [hm]
    have hm := isB_iff.1 hm
    obtain ⟨i, hi, e⟩ := List.getElem_of_mem hm
    have h1 : atB ks k = i := by
      have h2 : ¬ i < atB ks k := fun h => Lt.irrefl k (by have := (atB_lt hr i hi).2 h; rw [e] at this; exact this)
      by_cases h3 : atB ks k < i
      · exfalso
        have h4 := List.pairwise_iff_getElem.1 hr (atB ks k) i (by omega) hi h3
        rw [e] at h4
        have := (atB_lt hr (atB ks k) (by omega)).1 h4
        omega
      · omega
    rw [dif_pos (by omega)]
    symm
    refine decide_eq_true ?_
    have h5 : ∀ m (hm : m < ks.length), m = i → ks[m] = k := fun m hm em => by subst em; exact e
    exact h5 _ _ h1
  · rw [show isB ks k = false by simpa using hm]
    have hm : ¬ k ∈ ks := fun h => hm (isB_iff.2 h)
    by_cases h : atB ks k < ks.length
    · rw [dif_pos h]
      symm
      refine decide_eq_false fun e => hm ?_
      rw [← e]
      exact List.getElem_mem h
    · rw [dif_neg h]

end Go.Proofs.Ytcebnoapgceodaa
