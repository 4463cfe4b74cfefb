/-
  tree: a leaf, the row of leaves, the size, each turned by itself (trees of int).
-/
import Derived.Test.YtkohmiegkebmeaaTGetI
namespace Go.Proofs.Ytkohmiegkebmeaa.tI
open Go.RowKit

/-- what is no block of B's is as it was -/
def Ext (B : Nat → Prop) (W W' : World) : Prop := W'.os = W.os ∧ W'.tape = W.tape ∧ W'.output = W.output ∧ W.heap.size ≤ W'.heap.size ∧ ∀ q, q < W.heap.size → ¬ B q → W'.heap[q]? = W.heap[q]?
/-- B's blocks, and the new ones -/
def Nu (B : Nat → Prop) (n : Nat) : Nat → Prop := fun q => B q ∨ n ≤ q
theorem Ext.refl (B : Nat → Prop) (W : World) : Ext B W W := ⟨rfl, rfl, rfl, Nat.le_refl _, fun _ _ _ => rfl⟩
theorem Ext.trans {B : Nat → Prop} {W W1 W2 : World} (h : Ext B W W1) (k : Ext (Nu B W.heap.size) W1 W2) : Ext B W W2 := by
  obtain ⟨h1, h2, h3, h4, h5⟩ := h
  obtain ⟨k1, k2, k3, k4, k5⟩ := k
  refine ⟨k1.trans h1, k2.trans h2, k3.trans h3, Nat.le_trans h4 k4, fun q hq hB => (k5 q (Nat.lt_of_lt_of_le hq h4) ?_).trans (h5 q hq hB)⟩
  rintro (h | h)
  · exact hB h
  · omega
theorem Ext.below {B : Nat → Prop} {W W' : World} (h : Below W.heap.size W W') : Ext B W W' := ⟨h.os, h.tape, h.output, h.size, fun q hq _ => h.block q hq⟩

theorem rowk_box {E K B n : Nat} {w : World} {v : Value} {cs : List Value} (h : RowK E K B w v n cs) {g : Nat} (hg : v.ownBlock = some g) : ∃ arr, Box w g E arr := by
  rcases h.1.2 with ⟨rfl, _⟩ | ⟨g', cap, cur, rfl, _, e3, _⟩
  · cases hg
  · have : g' = g := by simpa [Value.ownBlock] using hg
    subst this
    exact ⟨cur, e3⟩
theorem box_ne {w : World} {g g' t t' : Nat} {a a' : Array Value} (h : Box w g t a) (h' : Box w g' t' a') (ht : t ≠ t') : g ≠ g' := by
  rintro rfl
  unfold Box at h h'
  rw [h] at h'
  injection h' with h'
  injection h' with _ h2 _
  exact ht h2
theorem rowk_one {E K B n : Nat} {w : World} {v : Value} {cs : List Value} (h : RowK E K B w v n cs) : v.oneCell' = true := by
  obtain ⟨a, c, rfl, _⟩ := h.form
  rfl

theorem leaf_types {B : Nat → Prop} {W : World} : ∀ {ss : List Value} {ls : List (List KV)}, LeavesAt B W ss ls → ∀ s ∈ ss, ∀ q, s.ownBlock = some q → (∃ arr, Box W q 67 arr) ∧ B q
  | [], [], _, _, hs => by cases hs
  | _ :: _, _ :: _, h, s, hs => by
    rcases List.mem_cons.1 hs with rfl | hs
    · exact fun q hq => ⟨rowk_box h.1.1 hq, h.1.2 q hq⟩
    · exact leaf_types h.2 s hs
  | [], _ :: _, h, _, _ => h.elim
  | _ :: _, [], h, _, _ => h.elim

/-- one leaf turned, and stored in the row -/
theorem TreeOpen.setLeaf {B : Nat → Prop} {W : World} {t rg lc sz : Nat} {a c : List Value} {s : Value} {A C : List (List KV)} {l : List KV} (h : TreeOpen B W t (.slice (some ⟨rg, 0, none⟩) (A ++ l :: C).length lc) (a ++ s :: c) (A ++ l :: C) sz) (ha : a.length = A.length)
    {w' : World} {s' : Value} {l' : List KV} (hrow : RowK 67 2 0 w' s' l'.length (ecells l')) (hu : Up W s w' s') :
    TreeOpen (Nu B W.heap.size) (w'.setCell ⟨rg, A.length, none⟩ s') t (.slice (some ⟨rg, 0, none⟩) (A ++ l :: C).length lc) (a ++ s' :: c) (A ++ l' :: C) sz ∧ Ext B W (w'.setCell ⟨rg, A.length, none⟩ s') := by
  obtain ⟨h1, hb, hr, ho, hl, hd⟩ := h
  obtain ⟨cur, hbx, hcz, _, hn, hm, hcq⟩ := hr.parts
  obtain ⟨a', c', e, e2, hla, hlc⟩ := hl.cut
  obtain ⟨rfl, rfl⟩ : a' = a ∧ c' = s :: c := by
    have := List.append_inj e (by omega)
    exact ⟨this.1.symm, this.2.symm⟩
  obtain ⟨hs, hlc⟩ := hlc
  have hB : B rg := ho rg rfl
  have hrt : rg ≠ t := box_ne hbx hb (by decide)
  have hty : ∀ x ∈ a' ++ s :: c, ∀ q, x.ownBlock = some q → q ≠ rg ∧ q ≠ t := fun x hx q hq => by
    obtain ⟨⟨arr, hbq⟩, _⟩ := leaf_types hl x hx q hq
    exact ⟨box_ne hbq hbx (by decide), box_ne hbq hb (by decide)⟩
  have hsr : s.ownBlock ≠ some rg := fun e => (hty s (by simp) rg e).1 rfl
  have hblk : ∀ q, q < W.heap.size → s.ownBlock ≠ some q → q ≠ rg → (w'.setCell ⟨rg, A.length, none⟩ s').heap[q]? = W.heap[q]? := fun q hq h2 h3 =>
    (Below.heap_setCell w' ⟨rg, A.length, none⟩ s' q h3).trans (hu.1.block q hq fun e => h2 e.symm)
  have hrl := hbx.lt
  have hbr : Box w' rg 65 cur := (hu.1.block rg hrl fun e => hsr e.symm).trans hbx
  have hd2 := (List.pairwise_middle (fun h => Ap.symm h)).1 hd
  have hd3 := List.pairwise_cons.1 hd2
  have hs' : ∀ q, s'.ownBlock = some q → q ≠ rg ∧ (Nu B W.heap.size q) ∧ (s.ownBlock = some q ∨ W.heap.size ≤ q) := fun q hq => by
    rcases hu.2 with k | k
    · rw [hq] at k
      exact ⟨(hty s (by simp) q k.symm).1, .inl (hs.2 q k.symm), .inl k.symm⟩
    · have := k q hq
      exact ⟨by omega, .inr this, .inr this⟩
  have hlen : (A ++ l :: C).length = A.length + 1 + C.length := by simp; omega
  have hlen2 : (A ++ l' :: C).length = (A ++ l :: C).length := by simp
  refine ⟨⟨.inl h1, ?_, ?_, fun q hq => .inl (ho q hq), ?_, ?_⟩, ?_⟩
  · exact (hblk t hb.lt (fun e => (hty s (by simp) t e).2 rfl) (Ne.symm hrt)).trans hb
  · rw [hlen2]
    refine RowK.mk (hbr.setSame A.length s') (by simpa using hcz) (Nat.zero_le _) hn hm (by have := hr.len; simp at this ⊢; omega) (fun q hq => ?_) (fun u hu2 => ?_)
    · by_cases hqa : q = A.length
      · subst hqa
        rw [Array.getElem?_setIfInBounds_self_of_lt (by omega), List.getElem?_append_right (by omega), e2, Nat.sub_self]
        rfl
      · rw [Array.getElem?_setIfInBounds_ne (Ne.symm hqa), hcq q hq]
        by_cases hqb : q < a'.length
        · rw [List.getElem?_append_left hqb, List.getElem?_append_left hqb]
        · rw [List.getElem?_append_right (by omega), List.getElem?_append_right (by omega)]
          obtain ⟨m, hm⟩ : ∃ m, q - a'.length = m + 1 := ⟨q - a'.length - 1, by omega⟩
          rw [hm]
          rfl
    · rcases List.mem_append.1 hu2 with h | h
      · exact hr.2 u (List.mem_append_left _ h)
      · rcases List.mem_cons.1 h with rfl | h
        · exact rowk_one hrow
        · exact hr.2 u (by simp [h])
  · refine LeavesAt.join (hla.keep fun x hx q hq hB hlt => ⟨hblk q hlt (fun e => (hd3.1 x (List.mem_append_left _ hx)) q e hq) (hty x (by simp [hx]) q hq).1, .inl hB⟩) ⟨⟨?_, fun q hq => (hs' q hq).2.1⟩, hlc.keep fun x hx q hq hB hlt => ⟨hblk q hlt (fun e => (hd3.1 x (List.mem_append_right _ hx)) q e hq) (hty x (by simp [hx]) q hq).1, .inl hB⟩⟩
    exact hrow.keep fun q hq => ⟨Below.heap_setCell w' ⟨rg, A.length, none⟩ s' q (hs' q hq).1, Nat.zero_le _⟩
  · refine (List.pairwise_middle (fun h => Ap.symm h)).2 (List.pairwise_cons.2 ⟨fun x hx q hq hq2 => ?_, hd3.2⟩)
    have hxm : x ∈ a' ++ s :: c := by
      rcases List.mem_append.1 hx with h | h
      · exact List.mem_append_left _ h
      · exact List.mem_append_right _ (List.mem_cons_of_mem _ h)
    rcases (hs' q hq).2.2 with k | k
    · exact hd3.1 x hx q k hq2
    · obtain ⟨⟨arr, hbq⟩, _⟩ := leaf_types hl x hxm q hq2
      have := hbq.lt
      omega
  · have hbel := Below.setCell (B := 0) (Below.refl 0 w') (p := ⟨rg, A.length, none⟩) (Nat.zero_le _) s'
    refine ⟨hbel.os.trans hu.1.os, hbel.tape.trans hu.1.tape, hbel.output.trans hu.1.output, Nat.le_trans hu.1.size hbel.size, fun q hq hnB => hblk q hq (fun e => hnB (hs.2 q e)) (fun e => hnB (by rw [e]; exact hB))⟩

/-- the size -/
theorem TreeOpen.setSize {B : Nat → Prop} {W : World} {t sz : Nat} {rv : Value} {ss : List Value} {ls : List (List KV)} (h : TreeOpen B W t rv ss ls sz) (sz' : Nat) :
    TreeOpen B (W.setCell ⟨t, 1, none⟩ (.int .i64 sz')) t rv ss ls sz' ∧ Ext B W (W.setCell ⟨t, 1, none⟩ (.int .i64 sz')) := by
  obtain ⟨h1, hb, hr, ho, hl, hd⟩ := h
  have hblk : ∀ q, q ≠ t → (W.setCell ⟨t, 1, none⟩ (.int .i64 sz')).heap[q]? = W.heap[q]? := fun q hq => Below.heap_setCell W ⟨t, 1, none⟩ _ q hq
  have hbel := Below.setCell (B := 0) (Below.refl 0 W) (p := ⟨t, 1, none⟩) (Nat.zero_le _) (.int .i64 sz')
  refine ⟨⟨h1, ?_, hr.keep fun q hq => ⟨hblk q ?_, Nat.zero_le _⟩, ho, hl.keep fun s hs q hq hB _ => ⟨hblk q ?_, hB⟩, hd⟩, hbel.os, hbel.tape, hbel.output, hbel.size, fun q hq hnB => hblk q fun e => hnB (by rw [e]; exact h1)⟩
  · have := hb.setSame 1 (.int .i64 sz')
    simpa using this
  · obtain ⟨arr, hq2⟩ := rowk_box hr hq
    exact box_ne hq2 hb (by decide)
  · obtain ⟨⟨arr, hq2⟩, _⟩ := leaf_types hl s hs q hq
    exact box_ne hq2 hb (by decide)

/-- another row of leaves -/
theorem TreeOpen.setRow {B : Nat → Prop} {W : World} {t sz : Nat} {rv : Value} {ss : List Value} {ls : List (List KV)} (h : TreeOpen B W t rv ss ls sz)
    {w' : World} {rv' : Value} {ss' : List Value} {ls' : List (List KV)} (hrow : RowK 65 1 0 w' rv' ls'.length ss') (hu : Up W rv w' rv') (hl' : LeavesAt B W ss' ls') (hd' : ss'.Pairwise Ap) :
    TreeOpen (Nu B W.heap.size) (w'.setCell ⟨t, 0, none⟩ rv') t rv' ss' ls' sz ∧ Ext B W (w'.setCell ⟨t, 0, none⟩ rv') := by
  obtain ⟨h1, hb, hr, ho, hl, hd⟩ := h
  have hrt : rv.ownBlock ≠ some t := fun e => by
    obtain ⟨arr, hq2⟩ := rowk_box hr e
    exact box_ne hq2 hb (by decide) rfl
  have hbt : Box w' t 47 #[rv, .int .i64 sz] := (hu.1.block t hb.lt fun e => hrt e.symm).trans hb
  have hblk : ∀ q, q < W.heap.size → rv.ownBlock ≠ some q → q ≠ t → (w'.setCell ⟨t, 0, none⟩ rv').heap[q]? = W.heap[q]? := fun q hq h2 h3 =>
    (Below.heap_setCell w' ⟨t, 0, none⟩ rv' q h3).trans (hu.1.block q hq fun e => h2 e.symm)
  have hbel := Below.setCell (B := 0) (Below.refl 0 w') (p := ⟨t, 0, none⟩) (Nat.zero_le _) rv'
  refine ⟨⟨.inl h1, ?_, hrow.keep fun q hq => ⟨Below.heap_setCell w' ⟨t, 0, none⟩ rv' q ?_, Nat.zero_le _⟩, fun q hq => ?_, hl'.keep fun s hs q hq hB hlt => ⟨hblk q hlt (fun e => ?_) ?_, .inl hB⟩, hd'⟩, hbel.os.trans hu.1.os, hbel.tape.trans hu.1.tape, hbel.output.trans hu.1.output, Nat.le_trans hu.1.size hbel.size, fun q hq hnB => hblk q hq (fun e => hnB (ho q e)) (fun e => hnB (by rw [e]; exact h1))⟩
  · have := hbt.setSame 0 rv'
    simpa using this
  · obtain ⟨arr, hq2⟩ := rowk_box hrow hq
    exact box_ne hq2 hbt (by decide)
  · rcases hu.2 with k | k
    · rw [hq] at k
      exact .inl (ho q k.symm)
    · exact .inr (k q hq)
  · obtain ⟨⟨arr, hq2⟩, _⟩ := leaf_types hl' s hs q hq
    obtain ⟨arr2, hq3⟩ := rowk_box hr e
    exact box_ne hq2 hq3 (by decide) rfl
  · obtain ⟨⟨arr, hq2⟩, _⟩ := leaf_types hl' s hs q hq
    exact box_ne hq2 hb (by decide)

end Go.Proofs.Ytkohmiegkebmeaa.tI
