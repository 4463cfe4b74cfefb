/-
  tree: what place tells of all keys (trees of int).
-/
import Derived.Test.YtkohmiegkebmeaaTTreeI
namespace Go.Proofs.Ytkohmiegkebmeaa.tI
open Go.RowKit

theorem GoodT.right : ∀ {A B : List (List KV)}, GoodT (A ++ B) → GoodT B
  | [], _, h => h
  | _ :: A, _, h => GoodT.right (A := A) h.tail

theorem first_least {l : List KV} {C : List (List KV)} (h : GoodT (l :: C)) : ∀ p ∈ (l :: C).flatten, firstOf l = p.1 ∨ Lt (firstOf l) p.1 := by
  intro p hp
  have hne := h.1 l List.mem_cons_self
  cases l with
  | nil => exact absurd rfl hne
  | cons x r =>
    have h2 := h.2
    unfold RiseB keysOf at h2
    rw [List.flatten_cons, List.cons_append, List.map_cons] at h2
    rw [List.flatten_cons, List.cons_append] at hp
    rcases List.mem_cons.1 hp with rfl | hp
    · exact .inl rfl
    · exact .inr ((List.pairwise_cons.1 h2).1 _ (List.mem_map.2 ⟨p, hp, rfl⟩))

theorem first_below {l : List KV} {C : List (List KV)} (h : GoodT (l :: C)) : ∀ p ∈ C.flatten, Lt (firstOf l) p.1 := by
  intro p hp
  have h2 := h.2
  unfold RiseB at h2
  rw [List.flatten_cons, keysOf_append] at h2
  exact (List.pairwise_append.1 h2).2.2 _ (first_mem (h.1 l List.mem_cons_self)) _ (List.mem_map.2 ⟨p, hp, rfl⟩)

theorem first_above {A : List (List KV)} {l : List KV} {C : List (List KV)} (h : GoodT (A ++ l :: C)) : ∀ p ∈ A.flatten, Lt p.1 (firstOf l) := by
  intro p hp
  have h2 := h.2
  unfold RiseB at h2
  rw [List.flatten_append, keysOf_append] at h2
  refine (List.pairwise_append.1 h2).2.2 _ (List.mem_map.2 ⟨p, hp, rfl⟩) _ ?_
  rw [List.flatten_cons, keysOf_append]
  exact List.mem_append_left _ (first_mem (h.1 l (by simp)))

theorem place_spec {ls : List (List KV)} (hg : GoodT ls) (hne : ls ≠ []) (key : ByteArray) :
    ∃ A l C, ls = A ++ l :: C ∧ placeT ls key = (A.length, atB (keysOf l) key, isB (keysOf l) key) ∧ (∀ p ∈ A.flatten, Lt p.1 key) ∧ (∀ p ∈ C.flatten, Lt key p.1) := by
  have hlt := leafOf_lt hg hne key
  have hfl : (firsts ls).length = ls.length := by unfold firsts; simp
  have hfi : ∀ m (h : m < ls.length) (h2 : m < (firsts ls).length), (firsts ls)[m] = firstOf ls[m] := fun m h h2 => by simp [firsts]
  have hle := atB_le (firsts ls) key
  have hdef : leafOf ls key = if isB (firsts ls) key then atB (firsts ls) key else atB (firsts ls) key - 1 := rfl
  have hpl : placeT ls key = (leafOf ls key, atB (keysOf (ls[leafOf ls key])) key, isB (keysOf (ls[leafOf ls key])) key) := by
    unfold placeT
    rw [if_neg hne, List.getD_eq_getElem?_getD, List.getElem?_eq_getElem hlt]
    rfl
  obtain ⟨i, hi⟩ : ∃ i, i = leafOf ls key := ⟨_, rfl⟩
  simp only [← hi] at hlt hpl hdef
  have hls : ls = ls.take i ++ ls[i] :: ls.drop (i + 1) := by rw [← List.drop_eq_getElem_cons hlt, List.take_append_drop]
  have hg2 : GoodT (ls.take i ++ ls[i] :: ls.drop (i + 1)) := by rw [← hls]; exact hg
  have hal : (ls.take i).length = i := by rw [List.length_take]; omega
  refine ⟨ls.take i, ls[i], ls.drop (i + 1), hls, by rw [hal]; exact hpl, ?_, ?_⟩
  · intro p hp
    have h1 := first_above hg2 p hp
    by_cases hb : isB (firsts ls) key = true
    · rw [if_pos hb] at hdef
      have hx := isB_at (k := key) hg.firsts
      rw [hb] at hx
      split at hx
      · rename_i h
        have h2 : ∀ m (hm : m < (firsts ls).length), m = i → (firsts ls)[m] = firstOf ls[i] := fun m hm e => by subst e; exact hfi _ _ _
        have h3 := of_decide_eq_true hx.symm
        rw [h2 _ h hdef.symm] at h3
        rw [← h3]
        exact h1
      · cases hx
    · rw [if_neg hb] at hdef
      by_cases h0 : atB (firsts ls) key = 0
      · have : i = 0 := by omega
        subst this
        simp at hp
      · have h2 := (atB_lt (k := key) hg.firsts i (by omega)).2 (by omega)
        rw [hfi i hlt] at h2
        exact h1.trans h2
  · intro p hp
    have hgr := hg2.right
    by_cases hb : isB (firsts ls) key = true
    · have h1 := first_below hgr p hp
      rw [if_pos hb] at hdef
      have hx := isB_at (k := key) hg.firsts
      rw [hb] at hx
      split at hx
      · rename_i h
        have h2 : ∀ m (hm : m < (firsts ls).length), m = i → (firsts ls)[m] = firstOf ls[i] := fun m hm e => by subst e; exact hfi _ _ _
        have h3 := of_decide_eq_true hx.symm
        rw [h2 _ h hdef.symm] at h3
        rw [← h3]
        exact h1
      · cases hx
    · rw [if_neg hb] at hdef
      have hno : ∀ m (hm : m < ls.length), ¬ m < atB (firsts ls) key → Lt key (firstOf ls[m]) := fun m hm h => by
        have h2 := hfi m hm (by omega)
        rcases key_tri key (firstOf ls[m]) with k | k | k
        · exact k
        · exfalso
          refine hb (isB_iff.2 ?_)
          rw [k, ← h2]
          exact List.getElem_mem _
        · exfalso
          rw [← h2] at k
          exact h ((atB_lt (k := key) hg.firsts m (by omega)).1 k)
      by_cases h0 : atB (firsts ls) key = 0
      · exact (hno i hlt (by omega)).trans (first_below hgr p hp)
      · have hne2 : i + 1 < ls.length := by
          rcases Nat.lt_or_ge (i + 1) ls.length with h | h
          · exact h
          · rw [List.drop_of_length_le h] at hp
            simp at hp
        have hd := List.drop_eq_getElem_cons hne2
        rw [hd] at hp hgr
        have h4 := hno (i + 1) hne2 (by omega)
        rcases first_least hgr.tail p hp with e | e
        · rw [← e]; exact h4
        · exact h4.trans e

theorem leaf_split {l : List KV} (hr : RiseB (keysOf l)) (key : ByteArray) :
    atB (keysOf l) key ≤ l.length ∧ (∀ p ∈ l.take (atB (keysOf l) key), Lt p.1 key) ∧
    (isB (keysOf l) key = true → ∃ (h : atB (keysOf l) key < l.length), (l[atB (keysOf l) key]).1 = key ∧ ∀ p ∈ l.drop (atB (keysOf l) key + 1), Lt key p.1) ∧
    (isB (keysOf l) key = false → ∀ p ∈ l.drop (atB (keysOf l) key), Lt key p.1) := by
  have hkl : (keysOf l).length = l.length := by unfold keysOf; simp
  have hk : ∀ m (h : m < l.length) (h2 : m < (keysOf l).length), (keysOf l)[m] = (l[m]).1 := fun m h h2 => by simp [keysOf]
  have hle := atB_le (keysOf l) key
  refine ⟨by omega, fun p hp => ?_, fun hb => ?_, fun hb p hp => ?_⟩
  · obtain ⟨m, hm, rfl⟩ := List.getElem_of_mem hp
    rw [List.length_take] at hm
    rw [List.getElem_take, ← hk m (by omega) (by omega)]
    exact (atB_lt hr m (by omega)).2 (by omega)
  · have hx := isB_at (k := key) hr
    rw [hb] at hx
    split at hx
    · rename_i h
      have h3 := of_decide_eq_true hx.symm
      have h4 := h3
      rw [hk _ (by omega)] at h3
      refine ⟨by omega, h3, fun p hp => ?_⟩
      obtain ⟨m, hm, rfl⟩ := List.getElem_of_mem hp
      rw [List.length_drop] at hm
      rw [List.getElem_drop, ← hk _ (by omega) (by omega)]
      have := List.pairwise_iff_getElem.1 hr (atB (keysOf l) key) (atB (keysOf l) key + 1 + m) h (by omega) (by omega)
      rw [h4] at this
      exact this
    · cases hx
  · obtain ⟨m, hm, rfl⟩ := List.getElem_of_mem hp
    rw [List.length_drop] at hm
    rw [List.getElem_drop]
    have h2 := hk (atB (keysOf l) key + m) (by omega) (by omega)
    rcases key_tri key (l[atB (keysOf l) key + m]).1 with k | k | k
    · exact k
    · exfalso
      have : isB (keysOf l) key = true := isB_iff.2 (by rw [k, ← h2]; exact List.getElem_mem _)
      rw [hb] at this
      cases this
    · exfalso
      rw [← h2] at k
      have := (atB_lt (k := key) hr _ (by omega)).1 k
      omega

/-! the operations on all keys as one list -/
def getK (m : List KV) (key : ByteArray) : Option Value := (m.find? fun p => decide (p.1 = key)).map Prod.snd
def putK (m : List KV) (key : ByteArray) (v : Value) : List KV := m.filter (fun p => decide (Lt p.1 key)) ++ (key, v) :: m.filter (fun p => decide (Lt key p.1))
def dropK (m : List KV) (key : ByteArray) : List KV := m.filter fun p => decide (p.1 ≠ key)

theorem lt_ne {a b : ByteArray} (h : Lt a b) : a ≠ b := fun e => Lt.irrefl a (by rw [← e] at h; exact h)

/-- all keys, cut at one that is there -/
theorem ops_is {X Y : List KV} {key : ByteArray} {v : Value} (hX : ∀ p ∈ X, Lt p.1 key) (hY : ∀ p ∈ Y, Lt key p.1) :
    getK (X ++ (key, v) :: Y) key = some v ∧ (∀ u, putK (X ++ (key, v) :: Y) key u = X ++ (key, u) :: Y) ∧ dropK (X ++ (key, v) :: Y) key = X ++ Y := by
  refine ⟨?_, fun u => ?_, ?_⟩
  · unfold getK
    rw [List.find?_append, List.find?_eq_none.2 (fun p hp => by simp [lt_ne (hX p hp)])]
    simp
  · unfold putK
    rw [List.filter_append, List.filter_append, List.filter_cons_of_neg (by simp [Lt.irrefl]), List.filter_cons_of_neg (by simp [Lt.irrefl]),
      List.filter_eq_self.2 (fun p hp => decide_eq_true (hX p hp)), List.filter_eq_nil_iff.2 (fun p hp => by simp [not_lt_of (hY p hp)]),
      List.filter_eq_nil_iff.2 (fun p hp => by simp [not_lt_of (hX p hp)]), List.filter_eq_self.2 (fun p hp => decide_eq_true (hY p hp))]
    simp
  · unfold dropK
    rw [List.filter_append, List.filter_cons_of_neg (by simp), List.filter_eq_self.2 (fun p hp => decide_eq_true (lt_ne (hX p hp))), List.filter_eq_self.2 (fun p hp => decide_eq_true (Ne.symm (lt_ne (hY p hp))))]

/-- all keys, cut where one would come to be -/
theorem ops_no {X Y : List KV} {key : ByteArray} (hX : ∀ p ∈ X, Lt p.1 key) (hY : ∀ p ∈ Y, Lt key p.1) :
    getK (X ++ Y) key = none ∧ (∀ u, putK (X ++ Y) key u = X ++ (key, u) :: Y) ∧ dropK (X ++ Y) key = X ++ Y := by
  refine ⟨?_, fun u => ?_, ?_⟩
  · unfold getK
    rw [List.find?_eq_none.2 (fun p hp => ?_)]
    · rfl
    · rcases List.mem_append.1 hp with hp | hp
      · simp [lt_ne (hX p hp)]
      · simp [Ne.symm (lt_ne (hY p hp))]
  · unfold putK
    rw [List.filter_append, List.filter_append,
      List.filter_eq_self.2 (fun p hp => decide_eq_true (hX p hp)), List.filter_eq_nil_iff.2 (fun p hp => by simp [not_lt_of (hY p hp)]),
      List.filter_eq_nil_iff.2 (fun p hp => by simp [not_lt_of (hX p hp)]), List.filter_eq_self.2 (fun p hp => decide_eq_true (hY p hp))]
    simp
  · unfold dropK
    rw [List.filter_append, List.filter_eq_self.2 (fun p hp => decide_eq_true (lt_ne (hX p hp))), List.filter_eq_self.2 (fun p hp => decide_eq_true (Ne.symm (lt_ne (hY p hp))))]

end Go.Proofs.Ytkohmiegkebmeaa.tI
