/-
  tree: the keys from one on, plainly; what is read of a tree, its blocks told (trees of chains).
-/
import Derived.Test.YtcebnoapgceodaaTM1
import Derived.RangeFuncNested
import Derived.RangeFuncBound
namespace Go.Proofs.Ytcebnoapgceodaa.tC
open Go.RowKit

/-- the keys from one on -/
def fromK (m : List KV) (key : ByteArray) : List KV := m.filter fun p => !decide (Lt p.1 key)

theorem from_cut {ls : List (List KV)} (hg : GoodT ls) (hne : ls ≠ []) (key : ByteArray) :
    ∃ A l C, ls = A ++ l :: C ∧ (placeT ls key).1 = A.length ∧ (placeT ls key).2.1 ≤ l.length ∧ fromK ls.flatten key = (l.drop (placeT ls key).2.1 :: C).flatten := by
  obtain ⟨A, l, C, hls, hpl, hA, hC⟩ := place_spec hg hne key
  have hl := hg.leaf l (by rw [hls]; simp)
  obtain ⟨h1, h2, h3, h4⟩ := leaf_split hl key
  refine ⟨A, l, C, hls, by rw [hpl], by rw [hpl]; exact h1, ?_⟩
  rw [hpl]
  have e1 : A.flatten.filter (fun p => !decide (Lt p.1 key)) = [] := List.filter_eq_nil_iff.2 fun p hp => by simp [hA p hp]
  have e2 : C.flatten.filter (fun p => !decide (Lt p.1 key)) = C.flatten := List.filter_eq_self.2 fun p hp => by simp [not_lt_of (hC p hp)]
  have e3 : (l.take (atB (keysOf l) key)).filter (fun p => !decide (Lt p.1 key)) = [] := List.filter_eq_nil_iff.2 fun p hp => by simp [h2 p hp]
  have e4 : (l.drop (atB (keysOf l) key)).filter (fun p => !decide (Lt p.1 key)) = l.drop (atB (keysOf l) key) := List.filter_eq_self.2 fun p hp => by
    by_cases hb : isB (keysOf l) key = true
    · obtain ⟨h, hk, hr⟩ := h3 hb
      rw [List.drop_eq_getElem_cons h] at hp
      rcases List.mem_cons.1 hp with rfl | hp
      · rw [hk]; simp [Lt.irrefl]
      · simp [not_lt_of (hr p hp)]
    · simp [not_lt_of (h4 (by simpa using hb) p hp)]
  unfold fromK
  rw [hls, List.flatten_append, List.flatten_cons, List.filter_append, List.filter_append, e1, e2]
  conv => lhs; rw [← List.take_append_drop (atB (keysOf l) key) l]
  rw [List.filter_append, e3, e4]
  simp

/-- what is read of a tree, its blocks told -/
theorem TreeAt.readsB [hd : Inhabited Hd] {B : Nat → Prop} {W : World} {t : Nat} {ls : List (List KV)} (h : TreeAt B W t ls) (hne : ls ≠ []) :
    ∃ rg lc, (B t ∧ Box W t 105 #[hx0, hx1, .slice (some ⟨rg, 0, none⟩) ls.length lc, .int .i64 (total ls)]) ∧ B rg ∧ rg < W.heap.size ∧ ls.length ≤ lc ∧ lc ≤ maxLen ∧ ∀ i (h : i < ls.length), ∃ g c, W.cell? ⟨rg, i, none⟩ = some (.slice (some ⟨g, 0, none⟩) (ls[i]).length c) ∧ B g ∧ g < W.heap.size ∧ ((ls[i]).length ≤ c ∧ c ≤ maxLen) ∧
      ∀ j (hj : j < (ls[i]).length), W.cell? ⟨g, j * 2, none⟩ = some (.string ((ls[i])[j]).1) ∧ W.cell? ⟨g, j * 2 + 1, none⟩ = some ((ls[i])[j]).2 := by
  obtain ⟨hB0, hg, _, rv, ss, _, hb, hr, hro, hl, _⟩ := h
  obtain ⟨la, lc, rfl, hc1, hc2⟩ := hr.form
  obtain ⟨rg, rfl, hB, hlt, hcells⟩ := hr.at_ (List.length_pos_iff.2 hne)
  refine ⟨rg, lc, ⟨hB0, hb⟩, hro rg rfl, hlt, hc1, hc2, fun i hi => ?_⟩
  obtain ⟨s, e, hrow, hsB⟩ := hl.get i hi
  obtain ⟨a, c, rfl, hc3, hc4⟩ := hrow.form
  obtain ⟨g, rfl, hB2, hlt2, hcells2⟩ := hrow.at_ (List.length_pos_iff.2 (hg.1 _ (List.getElem_mem hi)))
  exact ⟨g, c, hcells _ _ e, hsB g rfl, hlt2, ⟨hc3, hc4⟩, fun j hj => ⟨hcells2 _ _ (ecells_at _ j hj).1, hcells2 _ _ (ecells_at _ j hj).2⟩⟩

/-- what is kept between two rounds: the blocks of a tree that there were -/
def KpB (B : Nat → Prop) (n0 : Nat) (W W' : World) : Prop := W.heap.size ≤ W'.heap.size ∧ ∀ q, B q → q < n0 → W'.heap[q]? = W.heap[q]?
theorem KpB.refl (B : Nat → Prop) (n0 : Nat) (W : World) : KpB B n0 W W := ⟨Nat.le_refl _, fun _ _ _ => rfl⟩
theorem KpB.trans {B : Nat → Prop} {n0 : Nat} {A C D : World} (h : KpB B n0 A C) (k : KpB B n0 C D) : KpB B n0 A D := ⟨Nat.le_trans h.1 k.1, fun q h1 h2 => (k.2 q h1 h2).trans (h.2 q h1 h2)⟩
theorem KpB.below {B : Nat → Prop} {n0 m : Nat} {A C : World} (h : Below m A C) (hm : n0 ≤ m) : KpB B n0 A C := ⟨h.size, fun q _ h2 => h.block q (Nat.lt_of_lt_of_le h2 hm)⟩
theorem KpB.turn {B : Nat → Prop} {n0 : Nat} {w : World} (hn : n0 ≤ w.heap.size) (W : World) (l : Nat) (o o' : Obj) (hl : w.heap.size ≤ l) (_ : W.heap[l]? = some o) (_ : o.isCells = false) (_ : o.isWalk = false) : KpB B n0 W (W.putObj l o') :=
  ⟨(grownBy_putObj' W l o').size, fun q _ h2 => World.putObj_heap_other (by omega)⟩
theorem KpB.cell {B : Nat → Prop} {n0 : Nat} {W W' : World} (h : KpB B n0 W W') {q i : Nat} (h1 : B q) (h2 : q < n0) : W'.cell? ⟨q, i, none⟩ = W.cell? ⟨q, i, none⟩ := World.cell?_of_block (a := ⟨q, i, none⟩) (h.2 q h1 h2)

end Go.Proofs.Ytcebnoapgceodaa.tC
