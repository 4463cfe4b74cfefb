/-
  ClaimAlone, plainly.
-/
import Derived.Test.YtciknhilbemgdaaClSt
namespace Go.Proofs.Ytciknhilbemgdaa.claimAlone
open Go.RowKit Go.Proofs.Ytciknhilbemgdaa.cl

/-- behind i rounds: who is where is a or b; the first i keys are taken -/
def Al (a b : Int) (ps : List ByteArray) (i : Nat) (gs : G) : Prop :=
  (∀ k z, getG k gs = some z → z = a ∨ z = b) ∧ (∀ j (h : j < ps.length), j < i → ∃ z, getG ps[j].data.toList gs = some z) ∧ (∀ p ∈ gs, p.1.length ≤ 100) ∧ gs.length ≤ i

theorem mem_put {k : L8} {z : Int} {gs : G} {p : L8 × Int} (h : p ∈ putG k z gs) : p = (k, z) ∨ p ∈ gs := by
  unfold putG at h
  rcases mem_ins.1 h with h | h
  · exact .inl h
  · exact .inr (List.mem_filter.1 h).1

theorem al_take {a b : Int} {ps : List ByteArray} {i : Nat} {gs : G} (h : Al a b ps i gs) (hi : i < ps.length) (hs : ps[i].size ≤ 100) {who : Int} (hw : who = a ∨ who = b) : Al a b ps (i + 1) (takeG gs who ps[i].data.toList) := by
  obtain ⟨h1, h2, h3, h4⟩ := h
  unfold takeG
  by_cases ho : otherG gs who ps[i].data.toList = true
  · rw [if_pos ho]
    refine ⟨h1, fun j hj hji => ?_, h3, by omega⟩
    by_cases e : j = i
    · subst e
      unfold otherG at ho
      cases hg : getG ps[j].data.toList gs with
      | some z => exact ⟨z, rfl⟩
      | none => rw [hg] at ho; cases ho
    · exact h2 j hj (by omega)
  · rw [if_neg ho]
    refine ⟨fun k z hk => ?_, fun j hj hji => ?_, fun p hp => ?_, ?_⟩
    · rw [get_put] at hk
      by_cases e : k = ps[i].data.toList
      · rw [if_pos e] at hk
        injection hk with hk
        rw [← hk]; exact hw
      · rw [if_neg e] at hk
        exact h1 k z hk
    · rw [get_put]
      by_cases e : ps[j].data.toList = ps[i].data.toList
      · rw [if_pos e]; exact ⟨_, rfl⟩
      · rw [if_neg e]
        exact h2 j hj (by
          have : j ≠ i := fun e2 => e (by subst e2; rfl)
          omega)
    · rcases mem_put hp with rfl | hp
      · show ps[i].data.toList.length ≤ 100
        rw [Array.length_toList]
        exact hs
      · exact h3 p hp
    · have := len_put ps[i].data.toList who gs
      omega

theorem other_of {gs : G} {k : L8} {z : Int} (h : getG k gs = some z) (n : Int) : otherG gs n k = (z != n) := by
  unfold otherG
  rw [h]
theorem al_free {a b : Int} {ps : List ByteArray} {i : Nat} {gs : G} (hr : RiseG gs) (h : Al a b ps i gs) : ∀ k z, getG k (freeG gs a) = some z → z = b := by
  intro k z hk
  have hm := (mem_get (rise_filter _ hr)).2 hk
  obtain ⟨h5, h6⟩ := List.mem_filter.1 (show (k, z) ∈ gs.filter _ from hm)
  have h7 := h.1 k z ((mem_get hr).1 h5)
  have h8 : z ≠ a := by simpa using h6
  rcases h7 with h7 | h7
  · exact absurd h7 h8
  · exact h7
theorem free_le (gs : G) (a : Int) : (freeG gs a).length ≤ gs.length := List.length_filter_le _ _

/-- behind Free: all is b's -/
def Bl (b : Int) (i : Nat) (gs : G) : Prop := (∀ k z, getG k gs = some z → z = b) ∧ gs.length ≤ i
theorem bl_other {b : Int} {i : Nat} {gs : G} (h : Bl b i gs) (k : L8) : otherG gs b k = false := by
  unfold otherG
  cases hg : getG k gs with
  | none => rfl
  | some z => rw [h.1 k z hg]; simp
theorem bl_take {b : Int} {i : Nat} {gs : G} (h : Bl b i gs) (k : L8) : Bl b (i + 1) (takeG gs b k) := by
  unfold takeG
  rw [bl_other h, if_neg (by simp)]
  refine ⟨fun j z hj => ?_, by have := len_put k b gs; have := h.2; omega⟩
  rw [get_put] at hj
  by_cases e : j = k
  · rw [if_pos e] at hj
    injection hj with hj
    exact hj.symm
  · rw [if_neg e] at hj
    exact h.1 j z hj
theorem bl_of {a b : Int} {i : Nat} {gs : G} (hr : RiseG gs) (h : Bl b i gs) (hab : a ≠ b) : ofG gs a = [] := by
  refine List.eq_nil_iff_forall_not_mem.2 fun k hk => ?_
  exact hab (h.1 k a ((mem_of hr).1 hk))

end Go.Proofs.Ytciknhilbemgdaa.claimAlone
