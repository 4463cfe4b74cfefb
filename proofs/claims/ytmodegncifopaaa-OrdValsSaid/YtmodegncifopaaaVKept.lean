/-
  What OfMap keeps: names that rise.
-/
import Derived.Test.YtmodegncifopaaaVOfMap0
namespace Go.Proofs.Ytmodegncifopaaa
open Go.Sort

theorem lastsTo_at (D : Array FC) : ∀ i, ∀ x ∈ lastsTo D i, ∃ (k : Nat) (h : k < D.size), k < i ∧ x = D[k] ∧ (k + 1 = D.size ∨ ∃ h2 : k + 1 < D.size, (D[k + 1]).nm ≠ (D[k]).nm)
  | 0, x, h => by cases h
  | i + 1, x, h => by
    rw [lastsTo] at h
    split at h
    · rename_i hi
      split at h
      · rename_i hk
        rcases List.mem_append.1 h with h | h
        · obtain ⟨k, h1, h2, h3⟩ := lastsTo_at D i x h
          exact ⟨k, h1, by omega, h3⟩
        · exact ⟨i, hi, by omega, List.mem_singleton.1 h, hk⟩
      · obtain ⟨k, h1, h2, h3⟩ := lastsTo_at D i x h
        exact ⟨k, h1, by omega, h3⟩
    · obtain ⟨k, h1, h2, h3⟩ := lastsTo_at D i x h
      exact ⟨k, h1, by omega, h3⟩

theorem sortF_le (d : Array FC) {i j : Nat} (hi : i < (sortF d).size) (hj : j < (sortF d).size) (h : i ≤ j) : ¬ (sortF d)[j].nm.data.toList < (sortF d)[i].nm.data.toList := by
  by_cases e : i = j
  · subst e; exact lt_irr _
  · have hs := sortF_size d
    have h1 := (insertionSort_holds (lt := ltOf FC.cf) cf_swo d 0 d.size (Nat.zero_le _) (Nat.le_refl _)).2 i j (Nat.zero_le _) (by omega) (by omega)
    have h2 : ltOf FC.cf (sortF d)[j]! (sortF d)[i]! = false := h1
    rw [getElem!_pos _ j hj, getElem!_pos _ i hi] at h2
    intro h3
    unfold ltOf FC.cf at h2
    rw [cmpL_lt h3] at h2
    cases h2

def riseFC (x y : FC) : Prop := x.nm.data.toList < y.nm.data.toList

theorem lasts_rise (d : Array FC) : ∀ i, i ≤ (sortF d).size → (lastsTo (sortF d) i).Pairwise riseFC
  | 0, _ => List.Pairwise.nil
  | i + 1, hi => by
    have ih := lasts_rise d i (by omega)
    rw [lastsTo, dif_pos (by omega)]
    split
    · refine List.pairwise_append.2 ⟨ih, List.pairwise_singleton _ _, fun x hx y hy => ?_⟩
      obtain rfl : y = (sortF d)[i] := List.mem_singleton.1 hy
      obtain ⟨k, hk, hki, rfl, hlast | ⟨h2, hne⟩⟩ := lastsTo_at _ _ x hx
      · omega
      · have h3 := sortF_le d (i := k) (j := k + 1) hk h2 (by omega)
        have h4 := sortF_le d (i := k + 1) (j := i) h2 (by omega) (by omega)
        have h5 : (sortF d)[k].nm.data.toList < (sortF d)[k + 1].nm.data.toList := by
          rcases lt_tri (sortF d)[k].nm.data.toList (sortF d)[k + 1].nm.data.toList with g | g | g
          · exact g
          · exact absurd (ByteArray.ext (Array.toList_inj.1 g)).symm hne
          · exact absurd g h3
        show (sortF d)[k].nm.data.toList < (sortF d)[i].nm.data.toList
        rcases lt_tri (sortF d)[k + 1].nm.data.toList (sortF d)[i].nm.data.toList with g | g | g
        · exact List.lt_trans h5 g
        · rw [← g]; exact h5
        · exact absurd g h4
    · exact ih

theorem kept_rise (d : Array FC) : (keptF d).Pairwise riseFC := lasts_rise d d.size (by rw [sortF_size]; exact Nat.le_refl _)

theorem kept_mem {d : Array FC} {x : FC} (h : x ∈ keptF d) : x ∈ d := sortF_mem (lastsTo_mem _ _ x h)

theorem kept_length (d : Array FC) : (keptF d).length ≤ d.size := lastsTo_length _ _

/-- so a map of what is kept is right, where the values are -/
theorem kept_right (d : Array FC) (r : Int) (h : ∀ x ∈ d, x.v.right r = true) : rightF none ((keptF d).map FC.fd) r = true := by
  refine rightF_iff.2 fun i hi => ?_
  have hi' : i < (keptF d).length := by simpa using hi
  simp only [List.getElem_map]
  refine ⟨h _ (kept_mem (List.getElem_mem hi')), ?_⟩
  by_cases h0 : 0 < i
  · rw [dif_pos h0]
    exact decide_eq_true (List.pairwise_iff_getElem.1 (kept_rise d) (i - 1) i (by omega) hi' (by omega))
  · rw [dif_neg h0]
    rfl

end Go.Proofs.Ytmodegncifopaaa
