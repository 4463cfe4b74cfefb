/-
  tree: a Go map of texts beside a tree: the same keys with the same values, plainly (trees of chains).
-/
import Derived.Test.YtcebnoapgceodaaTM1
import Derived.Test.YtcebnoapgceodaaDMap
namespace Go.Proofs.Ytcebnoapgceodaa.tC
open Go.RowKit

theorem before_iff : ∀ a b : List UInt8, bytesBefore a b = true ↔ a < b
  | [], [] => by simp [bytesBefore]
  | [], y :: b => by simp [bytesBefore]
  | x :: a, [] => by simp [bytesBefore]
  | x :: a, y :: b => by
    have ih := before_iff a b
    rw [List.cons_lt_cons_iff]
    unfold bytesBefore
    rw [← ih]
    simp only [Bool.or_eq_true, Bool.and_eq_true, decide_eq_true_eq, beq_iff_eq]

def toF (m : List KV) : FL := m.map fun p => (p.1.data.toList, p.2)

theorem key_eq (a b : ByteArray) : (a.data.toList == b.data.toList) = decide (a = b) := by
  by_cases h : a = b
  · subst h; simp
  · rw [decide_eq_false h]
    refine Bool.eq_false_iff.2 fun e => h ?_
    exact ByteArray.ext (Array.toList_inj.1 (eq_of_beq e))

theorem get_map (m : List KV) (key : ByteArray) : getS key.data.toList (toF m) = getK m key := by
  induction m with
  | nil => rfl
  | cons p r ih =>
    unfold getS getK toF at ih ⊢
    rw [List.map_cons, List.find?_cons, List.find?_cons, key_eq]
    cases decide (p.1 = key) with
    | true => rfl
    | false => exact ih

theorem del_none {m : List KV} {key : ByteArray} (h : ∀ p ∈ m, Lt key p.1) : delS key.data.toList (toF m) = toF m := by
  unfold delS
  refine List.filter_eq_self.2 fun x hx => ?_
  obtain ⟨p, hp, rfl⟩ := List.mem_map.1 hx
  dsimp only
  rw [key_eq]
  simp [Ne.symm (lt_ne (h p hp))]

theorem ins_first {m : List KV} {key : ByteArray} {v : Value} (h : ∀ p ∈ m, Lt key p.1) : insS (key.data.toList, v) (toF m) = (key.data.toList, v) :: toF m := by
  cases m with
  | nil => rfl
  | cons p r =>
    unfold toF
    rw [List.map_cons, insS, if_pos]
    exact (before_iff _ _).2 (h p List.mem_cons_self)

theorem put_map : ∀ {m : List KV}, RiseB (keysOf m) → ∀ (key : ByteArray) (v : Value), putS key.data.toList v (toF m) = toF (putK m key v)
  | [], _, key, v => rfl
  | p :: r, hr, key, v => by
    have h2 := List.pairwise_cons.1 (show (p.1 :: keysOf r).Pairwise Lt from hr)
    have hgt : ∀ q ∈ r, Lt p.1 q.1 := fun q hq => h2.1 _ (List.mem_map.2 ⟨q, hq, rfl⟩)
    have ih := put_map (m := r) h2.2 key v
    have e0 : toF (p :: r) = (p.1.data.toList, p.2) :: toF r := rfl
    rcases key_tri p.1 key with h | h | h
    · have e1 : putK (p :: r) key v = p :: putK r key v := by
        unfold putK
        rw [List.filter_cons_of_pos (by simp [h]), List.filter_cons_of_neg (by simp [not_lt_of h])]
        rfl
      have e2 : delS key.data.toList (toF (p :: r)) = (p.1.data.toList, p.2) :: delS key.data.toList (toF r) := by
        unfold delS
        rw [e0, List.filter_cons_of_pos]
        dsimp only
        rw [key_eq]
        simp [lt_ne h]
      have e3 : ¬ bytesBefore key.data.toList p.1.data.toList = true := fun hb => not_lt_of h ((before_iff _ _).1 hb)
      unfold putS at ih ⊢
      rw [e1, e2, insS, if_neg e3, ih]
      rfl
    · subst h
      have e1 : putK (p :: r) p.1 v = (p.1, v) :: r := by
        have := (ops_is (X := []) (Y := r) (key := p.1) (v := p.2) (fun q hq => by cases hq) hgt).2.1 v
        simpa using this
      have e2 : delS p.1.data.toList (toF (p :: r)) = toF r := by
        have h9 := del_none (m := r) (key := p.1) hgt
        unfold delS at h9 ⊢
        rw [e0, List.filter_cons_of_neg, h9]
        dsimp only
        simp
      unfold putS
      rw [e1, e2, ins_first hgt]
      rfl
    · have hall : ∀ q ∈ p :: r, Lt key q.1 := fun q hq => by
        rcases List.mem_cons.1 hq with rfl | hq
        · exact h
        · exact h.trans (hgt q hq)
      have e1 : putK (p :: r) key v = (key, v) :: p :: r := by
        have := (ops_no (X := []) (Y := p :: r) (key := key) (fun q hq => by cases hq) hall).2.1 v
        simpa using this
      unfold putS
      rw [e1, del_none hall, ins_first hall]
      rfl

theorem entry_map {m : List KV} {x : ByteArray} {cv : Value} {kl : Lit} {y : DataW Value × List MemPlace} (hkey : keyOf Try.prog 9 (.string x) = some kl) (hR : RV cv = some y) (hat : ∀ zd, (dm (toF m)).atKey kl zd = y.1) :
    kl = .string x.data.toList ∧ x.size ≤ maxLen ∧ getK m x = some cv := by
  obtain ⟨s, e1, rfl, hs⟩ := Go.WideMaps.string_of_keyOf Try.underlying9 hkey
  obtain rfl : x = s := by injection e1
  obtain rfl : (.held cv, []) = y := Option.some.inj hR
  refine ⟨rfl, hs, ?_⟩
  have h1 := hat .nil
  rw [dm_at, get_map] at h1
  cases hg : getK m x with
  | none => rw [hg] at h1; cases h1
  | some p =>
    rw [hg] at h1
    rw [DataW.held.inj h1]

theorem getK_mem {m : List KV} {x : ByteArray} {cv : Value} (h : getK m x = some cv) : (x, cv) ∈ m := by
  unfold getK at h
  obtain ⟨p, hp, e⟩ := Option.map_eq_some_iff.1 h
  have h1 := List.mem_of_find?_eq_some hp
  have h2 := List.find?_some hp
  have h3 : p.1 = x := of_decide_eq_true h2
  rw [← h3, ← e]
  exact h1

theorem toF_length_map (m : List KV) : Maps.size (dm (toF m)) = m.length := by unfold toF dm; rw [Maps.size_eq]; simp
theorem toF_length (m : List KV) : (toF m).length = m.length := by unfold toF; simp

end Go.Proofs.Ytcebnoapgceodaa.tC
