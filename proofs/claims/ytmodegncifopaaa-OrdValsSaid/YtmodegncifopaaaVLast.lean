/-
  What OfMap keeps: of each name the last one that came.
-/
import Derived.Test.YtmodegncifopaaaVKept
namespace Go.Proofs.Ytmodegncifopaaa
open Go.Sort

theorem swap_filter {α : Type} (p : α → Bool) : ∀ (l : List α) (j : Nat) (x y : α), l[j]? = some x → l[j + 1]? = some y → (p x = true → p y = true → False) → ((l.set (j + 1) x).set j y).filter p = l.filter p
  | [], _, _, _, h, _, _ => by simp at h
  | [_], 0, _, _, _, h, _ => by simp at h
  | a :: b :: l, 0, x, y, h1, h2, h => by
    obtain rfl : a = x := by simpa using h1
    obtain rfl : b = y := by simpa using h2
    simp only [List.set_cons_succ, List.set_cons_zero, List.filter_cons]
    cases h3 : p a <;> cases h4 : p b
    · rfl
    · rfl
    · rfl
    · exact absurd h4 (fun h4 => h h3 h4)
  | a :: l, j + 1, x, y, h1, h2, h => by
    have ih := swap_filter p l j x y (by simpa using h1) (by simpa using h2) h
    simp only [List.set_cons_succ, List.filter_cons, ih]

section
variable {α : Type} [Inhabited α] (lt : α → α → Bool) (p : α → Bool) (hp : ∀ x y, p x = true → p y = true → lt x y = false)
include hp

theorem swp_filter (d : Array α) (j : Nat) (hj : j + 1 < d.size) (h : lt d[j + 1]! d[j]! = true) : (swp d (j + 1) j).toList.filter p = d.toList.filter p := by
  unfold swp
  rw [getElem!_pos d (j + 1) hj, getElem!_pos d j (by omega)] at *
  rw [Array.toList_setIfInBounds, Array.toList_setIfInBounds]
  refine swap_filter p _ j _ _ (by simp) (by simp [hj]) fun h1 h2 => ?_
  rw [hp _ _ h2 h1] at h
  cases h

theorem inner_filter (a : Nat) : ∀ (j : Nat) (d : Array α), j < d.size → (insInner lt a j d).toList.filter p = d.toList.filter p
  | 0, _, _ => rfl
  | j + 1, d, hj => by
    rw [insInner]
    split
    · rename_i h
      have h' : lt d[j + 1]! d[j]! = true := by
        have := (Bool.and_eq_true _ _).mp h
        exact this.2
      rw [inner_filter a j (swp d (j + 1) j) (by simp [swp]; omega)]
      exact swp_filter lt p hp d j hj h'
    · rfl

omit hp in
theorem inner_size (a : Nat) : ∀ (j : Nat) (d : Array α), (insInner lt a j d).size = d.size
  | 0, _ => rfl
  | j + 1, d => by
    rw [insInner]
    split
    · rw [inner_size a j]; simp [swp]
    · rfl

theorem outer_filter (a b : Nat) : ∀ (n i : Nat) (d : Array α), b - i = n → b ≤ d.size → (insOuter lt a b i d).toList.filter p = d.toList.filter p
  | n, i, d, hn, hb => by
    rw [insOuter]
    split
    · rename_i h
      match n, hn with
      | 0, hn => omega
      | n + 1, hn =>
        rw [outer_filter a b n (i + 1) _ (by omega) (by rw [inner_size lt]; exact hb)]
        exact inner_filter lt p hp a i d (by omega)
    · rfl
end

def byName (n : ByteArray) (x : FC) : Bool := decide (x.nm = n)

/-- the sort is stable: of one name the fields stay in their order -/
theorem sortF_filter (d : Array FC) (n : ByteArray) : (sortF d).toList.filter (byName n) = d.toList.filter (byName n) := by
  refine outer_filter (ltOf FC.cf) (byName n) (fun x y hx hy => ?_) 0 d.size _ 1 d rfl (Nat.le_refl _)
  have hx' : x.nm = n := of_decide_eq_true hx
  have hy' : y.nm = n := of_decide_eq_true hy
  have h := cf_swo.irrefl x
  unfold ltOf FC.cf at h ⊢
  rw [hx'] at h ⊢
  rw [hy']
  exact h

theorem lastsTo_in (D : Array FC) (k : Nat) (hk : k < D.size) (hl : k + 1 = D.size ∨ ∃ h2 : k + 1 < D.size, (D[k + 1]).nm ≠ (D[k]).nm) : ∀ i, k < i → D[k] ∈ lastsTo D i
  | 0, h => absurd h (Nat.not_lt_zero _)
  | i + 1, h => by
    rw [lastsTo]
    by_cases e : k = i
    · subst e
      rw [dif_pos hk, if_pos hl]
      exact List.mem_append.2 (.inr (List.mem_singleton.2 rfl))
    · have ih := lastsTo_in D k hk hl i (by omega)
      split
      · split
        · exact List.mem_append.2 (.inl ih)
        · exact ih
      · exact ih

theorem last_from (D : Array FC) : ∀ n i (hi : i < D.size), D.size - i = n → ∃ y ∈ lastsTo D D.size, y.nm = D[i].nm
  | 0, i, hi, hn => by omega
  | n + 1, i, hi, hn => by
    by_cases h1 : i + 1 = D.size
    · exact ⟨_, lastsTo_in D i hi (.inl h1) _ hi, rfl⟩
    · have h2 : i + 1 < D.size := by omega
      by_cases h3 : (D[i + 1]).nm = (D[i]).nm
      · obtain ⟨y, hy, e⟩ := last_from D n (i + 1) h2 (by omega)
        exact ⟨y, hy, e.trans h3⟩
      · exact ⟨_, lastsTo_in D i hi (.inr ⟨h2, h3⟩) _ hi, rfl⟩

/-- every name that came is kept -/
theorem kept_has {d : Array FC} {x : FC} (h : x ∈ d) : ∃ y ∈ keptF d, y.nm = x.nm := by
  have h1 : x ∈ sortF d := Array.mem_toList_iff.1 ((sortF_perm d).mem_iff.2 (Array.mem_toList_iff.2 h))
  obtain ⟨i, hi, rfl⟩ := Array.getElem_of_mem h1
  obtain ⟨y, hy, e⟩ := last_from (sortF d) _ i hi rfl
  rw [sortF_size] at hy
  exact ⟨y, hy, e⟩

/-- and of each name the last one that came -/
theorem kept_last {d : Array FC} {x : FC} (h : x ∈ keptF d) : (d.toList.filter (byName x.nm)).getLast? = some x := by
  obtain ⟨k, hk, _, rfl, hl⟩ := lastsTo_at _ _ x h
  rw [← sortF_filter, ← List.take_append_drop (k + 1) (sortF d).toList, List.filter_append]
  have hk' : k < (sortF d).toList.length := by simpa using hk
  have e1 : (sortF d).toList.take (k + 1) = (sortF d).toList.take k ++ [(sortF d)[k]] := by
    rw [List.take_add_one, List.getElem?_eq_getElem hk', Array.getElem_toList]; rfl
  have e2 : ((sortF d).toList.drop (k + 1)).filter (byName (sortF d)[k].nm) = [] := by
    refine List.filter_eq_nil_iff.2 fun y hy hn => ?_
    obtain ⟨i, hi, rfl⟩ := List.getElem_of_mem hy
    have hi' : i < (sortF d).size - (k + 1) := by simpa using hi
    have hn' : ((sortF d).toList.drop (k + 1))[i].nm = (sortF d)[k].nm := of_decide_eq_true hn
    rw [List.getElem_drop, Array.getElem_toList] at hn'
    rcases hl with hl | ⟨h2, hne⟩
    · omega
    · have h3 := sortF_le d (i := k) (j := k + 1) hk h2 (by omega)
      have h4 := sortF_le d (i := k + 1) (j := k + 1 + i) h2 (by omega) (by omega)
      rw [hn'] at h4
      rcases lt_tri (sortF d)[k].nm.data.toList (sortF d)[k + 1].nm.data.toList with g | g | g
      · exact h4 g
      · exact hne (ByteArray.ext (Array.toList_inj.1 g)).symm
      · exact h3 g
  rw [e2, List.append_nil, e1, List.filter_append]
  have e3 : [(sortF d)[k]].filter (byName (sortF d)[k].nm) = [(sortF d)[k]] := by simp [byName]
  rw [e3, List.getLast?_concat]

end Go.Proofs.Ytmodegncifopaaa
