/-
  tree: split (trees of int).
-/
import Derived.Test.YtkohmiegkebmeaaTOpenI
import Derived.Test.YtkohmiegkebmeaaTInsIR
import Derived.Test.YtkohmiegkebmeaaTDelIE
import Derived.Test.YtkohmiegkebmeaaTClnI
namespace Go.Proofs.Ytkohmiegkebmeaa.tI
open Go.RowKit

set_option linter.unusedVariables false

theorem TreeOpen.mono {B B' : Nat → Prop} {W : World} {t sz : Nat} {rv : Value} {ss : List Value} {ls : List (List KV)} (h : TreeOpen B W t rv ss ls sz) (hk : ∀ q, B q → B' q) : TreeOpen B' W t rv ss ls sz := h.keep fun q hq _ => ⟨rfl, hk q hq⟩

def SplitP (B : Nat → Prop) (W : World) (t : Nat) (ls : List (List KV)) (sz : Nat) (e : Ending) (W' : World) : Prop :=
  e = .returned (.tuple #[]) ∧ Ext B W W' ∧ ∃ rv ss ls', TreeOpen (Nu B W.heap.size) W' t rv ss ls' sz ∧ ls'.flatten = ls.flatten ∧ ∀ x ∈ ls', x ≠ []

/-- what is read of an open tree -/
theorem TreeOpen.at_ {B : Nat → Prop} {W : World} {t rg lc sz : Nat} {a c : List Value} {s : Value} {A C : List (List KV)} {l : List KV} (h : TreeOpen B W t (.slice (some ⟨rg, 0, none⟩) (A ++ l :: C).length lc) (a ++ s :: c) (A ++ l :: C) sz) (ha : a.length = A.length) :
    W.cell? ⟨t, 0, none⟩ = some (.slice (some ⟨rg, 0, none⟩) (A ++ l :: C).length lc) ∧ W.cell? ⟨t, 1, none⟩ = some (.int .i64 sz) ∧ W.cell? ⟨rg, A.length, none⟩ = some s ∧ LeafAt B W s l ∧ (A ++ l :: C).length ≤ lc ∧ lc ≤ maxLen ∧ rg < W.heap.size ∧ t < W.heap.size := by
  obtain ⟨h1, hb, hr, ho, hl, hd⟩ := h
  obtain ⟨_, _, e, hc1, hc2⟩ := hr.form
  injection e with _ _ e
  subst e
  obtain ⟨g, e, _, hlt, hcells⟩ := hr.at_ (by simp; omega)
  injection e with e
  injection e with e
  subst e
  refine ⟨by have := hb.cell 0; simpa using this, by have := hb.cell 1; simpa using this, hcells _ _ ?_, ?_, hc1, hc2, hlt, hb.lt⟩
  · rw [← ha, List.getElem?_append_right (Nat.le_refl _), Nat.sub_self]
    rfl
  · obtain ⟨a', c', e, e2, hla, hlc⟩ := hl.cut
    obtain ⟨rfl, rfl⟩ : a' = a ∧ c' = s :: c := by
      have := List.append_inj e (by omega)
      exact ⟨this.1.symm, this.2.symm⟩
    exact hlc.1

theorem ecells_take (l : List KV) (i : Nat) : (ecells l).take (i * 2) = ecells (l.take i) := by
  conv => lhs; rw [← List.take_append_drop i l, ecells_append]
  by_cases h : i ≤ l.length
  · rw [List.take_append_of_le_length (by rw [ecells_length, List.length_take]; omega), List.take_of_length_le (by rw [ecells_length, List.length_take]; omega)]
  · rw [List.drop_of_length_le (by omega)]
    rw [show ecells ([] : List KV) = [] from rfl, List.append_nil, List.take_of_length_le (by rw [ecells_length, List.length_take]; omega)]
theorem ecells_drop (l : List KV) (i : Nat) : (ecells l).drop (i * 2) = ecells (l.drop i) := by
  conv => lhs; rw [← List.take_append_drop i l, ecells_append]
  by_cases h : i ≤ l.length
  · rw [List.drop_append_of_le_length (by rw [ecells_length, List.length_take]; omega), List.drop_of_length_le (by rw [ecells_length, List.length_take]; omega), List.nil_append]
  · rw [List.drop_of_length_le (i := i) (by omega)]
    rw [show ecells ([] : List KV) = [] from rfl, List.append_nil, List.drop_of_length_le (by rw [ecells_length, List.length_take]; omega)]

set_option maxHeartbeats 1000000 in
set_option maxRecDepth 100000 in
theorem split_no {B : Nat → Prop} {W : World} {t rg lc sz g k : Nat} {a c : List Value} {A C : List (List KV)} {l : List KV} (h : TreeOpen B W t (.slice (some ⟨rg, 0, none⟩) (A ++ l :: C).length lc) (a ++ .slice (some ⟨g, 0, none⟩) l.length k :: c) (A ++ l :: C) sz) (ha : a.length = A.length) (hne : ∀ x ∈ A ++ l :: C, x ≠ []) (hn9 : (A ++ l :: C).length ≤ 100000) (hs : l.length ≤ 64) :
    Calls Try.prog 27 #[.pointer (some ⟨t, 0, none⟩), .int .i64 A.length] W (SplitP B W t (A ++ l :: C) sz) := by
  obtain ⟨h1, _, h2, _, h4, h5, h6, h7⟩ := h.at_ ha
  have HF := Lib.hid (show SplitP B W t (A ++ l :: C) sz (.returned (.tuple #[])) W from ⟨rfl, Ext.refl _ _, _, _, _, h.mono fun q hq => .inl hq, rfl, hne⟩)
  have hi : A.length < (A ++ l :: C).length := by simp
  obtain ⟨i, hi2⟩ : ∃ i, i = A.length := ⟨_, rfl⟩
  obtain ⟨n, hn⟩ : ∃ n, n = (A ++ l :: C).length := ⟨_, rfl⟩
  obtain ⟨m, hm⟩ : ∃ m, m = l.length := ⟨_, rfl⟩
  rw [← hm] at h2 hs
  rw [← hn] at h1 h4 hn9 hi
  rw [← hi2] at h2 hi ⊢

  clear hm hn hi2 h ha hne
  go_enter Try.func27, Try.ntmps27
  go_wp2
  go_end0
  exact HF.out

theorem ap_mid {a c : List Value} {s s2 : Value} (h : (a ++ s :: c).Pairwise Ap) (h2 : ∀ x ∈ a ++ s :: c, Ap s2 x) : (a ++ s :: s2 :: c).Pairwise Ap := by
  have e : a ++ s :: s2 :: c = (a ++ [s]) ++ s2 :: c := by simp
  rw [e]
  refine (List.pairwise_middle (fun h => Ap.symm h)).2 (List.pairwise_cons.2 ⟨fun x hx => h2 x (by simpa using hx), ?_⟩)
  have e2 : a ++ [s] ++ c = a ++ s :: c := by simp
  rw [e2]
  exact h

theorem Ext.mono {B B' : Nat → Prop} {W W' : World} (h : Ext B W W') (hk : ∀ q, B q → B' q) : Ext B' W W' := ⟨h.1, h.2.1, h.2.2.1, h.2.2.2.1, fun q hq hn => h.2.2.2.2 q hq fun e => hn (hk q e)⟩

/-- behind the clone of the upper half -/
theorem split_one {B : Nat → Prop} {W W1 : World} {t rg lc sz g k q : Nat} {a c : List Value} {A C : List (List KV)} {l : List KV} (h : TreeOpen B W t (.slice (some ⟨rg, 0, none⟩) (A ++ l :: C).length lc) (a ++ .slice (some ⟨g, 0, none⟩) l.length k :: c) (A ++ l :: C) sz) (ha : a.length = A.length) (hl9 : l.length ≤ 100000) (hq : q < l.length)
    (hb2 : Below W.heap.size W W1) :
    TreeOpen B W1.drew t (.slice (some ⟨rg, 0, none⟩) (A ++ l :: C).length lc) (a ++ .slice (some ⟨g, 0, none⟩) l.length k :: c) (A ++ l :: C) sz ∧
    Calls Try.prog 28 #[.slice (some ⟨g, 0, none⟩) l.length k, .int .i64 q, .int .i64 l.length] W1.drew (tIEd.DelP W1.drew 0 (.slice (some ⟨g, 0, none⟩) l.length k) q (ecells (l.take q))) := by
  have h1 : TreeOpen B W1.drew t (.slice (some ⟨rg, 0, none⟩) (A ++ l :: C).length lc) (a ++ .slice (some ⟨g, 0, none⟩) l.length k :: c) (A ++ l :: C) sz := h.keep fun q hq hlt => ⟨hb2.block q hlt, hq⟩
  refine ⟨h1, ?_⟩
  obtain ⟨_, _, _, hL, _⟩ := h1.at_ ha
  have hd := tIEd.del_any (i := q) (j := l.length) hL.1 hl9 hq (Nat.le_refl _)
  rw [Nat.sub_self, Nat.add_zero] at hd
  have e : tIEd.delC (ecells l) q l.length = ecells (l.take q) := by
    unfold tIEd.delC
    rw [List.drop_of_length_le (by rw [ecells_length]; omega), List.append_nil, ecells_take]
  rw [e] at hd
  exact hd

/-- behind the lower half's -/
theorem split_two {B : Nat → Prop} {W W1 w2 : World} {t rg lc sz g k q : Nat} {a c : List Value} {A C : List (List KV)} {l : List KV} {s' v2 : Value} (h : TreeOpen B W t (.slice (some ⟨rg, 0, none⟩) (A ++ l :: C).length lc) (a ++ .slice (some ⟨g, 0, none⟩) l.length k :: c) (A ++ l :: C) sz) (ha : a.length = A.length) (hne : ∀ x ∈ A ++ l :: C, x ≠ []) (hn9 : (A ++ l :: C).length ≤ 90000)
    (hb2 : Below W.heap.size W W1) (hr2 : RowK 67 2 W.heap.size W1 v2 (l.length - q) (ecells (l.drop q))) (hq0 : 0 < q) (hq : q < l.length)
    (hrow : RowK 67 2 0 w2 s' q (ecells (l.take q))) (hu : Up W1.drew (.slice (some ⟨g, 0, none⟩) l.length k) w2 s') :
    (w2.cell? ⟨t, 0, none⟩ = some (.slice (some ⟨rg, 0, none⟩) (A ++ l :: C).length lc) ∧ w2.cell? ⟨rg, A.length, none⟩ = some (.slice (some ⟨g, 0, none⟩) l.length k) ∧ w2.frozen? ⟨rg, A.length, none⟩ = false) ∧
    (w2.setCell ⟨rg, A.length, none⟩ s').cell? ⟨t, 0, none⟩ = some (.slice (some ⟨rg, 0, none⟩) (A ++ l :: C).length lc) ∧
    Calls Try.prog 41 #[.slice (some ⟨rg, 0, none⟩) (A ++ l :: C).length lc, .int .i64 ((A.length + 1 : Nat)), .slice (some ⟨w2.heap.size, 0, none⟩) 1 1] ((w2.setCell ⟨rg, A.length, none⟩ s').alloc (.cells #[v2] 65)) fun e w5 =>
      ∃ va n vc, e = .returned (.slice va n vc) ∧ (w5.cell? ⟨t, 0, none⟩).isSome = true ∧ w5.frozen? ⟨t, 0, none⟩ = false ∧ SplitP B W t (A ++ l :: C) sz (.returned (.tuple #[])) (w5.setCell ⟨t, 0, none⟩ (.slice va n vc)) := by
  have h1 : TreeOpen B W1.drew t (.slice (some ⟨rg, 0, none⟩) (A ++ l :: C).length lc) (a ++ .slice (some ⟨g, 0, none⟩) l.length k :: c) (A ++ l :: C) sz := h.keep fun q hq hlt => ⟨hb2.block q hlt, hq⟩
  have hss : ∀ x ∈ a ++ .slice (some ⟨g, 0, none⟩) l.length k :: c, ∀ b, x.ownBlock = some b → (∃ arr, Box W b 67 arr) ∧ b < W.heap.size := fun x hx b hb => by
    obtain ⟨⟨arr, h⟩, _⟩ := leaf_types h.2.2.2.2.1 x hx b hb
    exact ⟨⟨arr, h⟩, h.lt⟩
  obtain ⟨_, _, _, _, _, _, hrg, htl⟩ := h.at_ ha
  have hgl := (hss (.slice (some ⟨g, 0, none⟩) l.length k) (by simp) g rfl).2
  obtain ⟨ag, hbg⟩ := (hss (.slice (some ⟨g, 0, none⟩) l.length k) (by simp) g rfl).1
  obtain ⟨ar, hbr⟩ := rowk_box h.2.2.1 (g := rg) rfl
  have hbt := h.2.1
  have hgr : g ≠ rg := box_ne hbg hbr (by decide)
  have hgt : g ≠ t := box_ne hbg hbt (by decide)
  have hrt : rg ≠ t := box_ne hbr hbt (by decide)
  have hblk : ∀ b, b < W1.heap.size → b ≠ g → w2.heap[b]? = W1.heap[b]? := fun b hb hne => hu.1.block b hb fun e => hne (by simpa [Value.ownBlock] using e)
  have hs1 := hb2.size
  have hs2 : W1.heap.size ≤ w2.heap.size := hu.1.size
  have hkeep : ∀ b, b < W.heap.size → b ≠ g → w2.heap[b]? = W.heap[b]? := fun b hb hne => (hblk b (by omega) hne).trans (hb2.block b hb)
  obtain ⟨c1, _, c2, _⟩ := h.at_ ha
  obtain ⟨hT3, hE3⟩ := h1.setLeaf ha (l' := l.take q) (by rw [List.length_take, Nat.min_eq_left (by omega)]; exact hrow) hu
  have hx : w2.cell? ⟨t, 0, none⟩ = some (.slice (some ⟨rg, 0, none⟩) (A ++ l :: C).length lc) := (World.cell?_of_block (a := ⟨t, 0, none⟩) (hkeep t htl (Ne.symm hgt))).trans c1
  have hy : w2.cell? ⟨rg, A.length, none⟩ = some (.slice (some ⟨g, 0, none⟩) l.length k) := (World.cell?_of_block (a := ⟨rg, A.length, none⟩) (hkeep rg hrg (Ne.symm hgr))).trans c2
  have hz : w2.frozen? ⟨rg, A.length, none⟩ = false := (World.frozen?_of_block (a := ⟨rg, A.length, none⟩) (hkeep rg hrg (Ne.symm hgr))).trans (hbr.free _)
  obtain ⟨W3, hW3⟩ : ∃ W3, W3 = w2.setCell ⟨rg, A.length, none⟩ s' := ⟨_, rfl⟩
  rw [← hW3] at hT3 hE3 ⊢
  have hz3 : W3.heap.size = w2.heap.size := by rw [hW3]; simp [World.setCell]
  have hf3 : ∀ b, b ≠ rg → W3.heap[b]? = w2.heap[b]? := fun b hb => by rw [hW3]; exact Below.heap_setCell w2 ⟨rg, A.length, none⟩ s' b hb
  refine ⟨⟨hx, hy, hz⟩, (World.cell?_of_block (a := ⟨t, 0, none⟩) (hf3 t (Ne.symm hrt))).trans hx, ?_⟩
  obtain ⟨D, hD⟩ : ∃ D : Nat → Prop, D = Nu B W.heap.size := ⟨_, rfl⟩
  have hDD : ∀ n q, W.heap.size ≤ n → Nu D n q → D q := fun n q hn h => by
    rw [hD] at h ⊢
    rcases h with h | h
    · exact h
    · exact .inr (by omega)
  have hBD : ∀ n q, W.heap.size ≤ n → Nu B n q → D q := fun n q hn h => by
    rw [hD]
    rcases h with h | h
    · exact .inl h
    · exact .inr (by omega)
  obtain ⟨W4, hW4⟩ : ∃ W4, W4 = W3.alloc (.cells #[v2] 65) := ⟨_, rfl⟩
  have hb4 : Below W3.heap.size W3 W4 := by rw [hW4]; exact (Below.refl _ W3).alloc (Nat.le_refl _) _
  have hbx4 : Box W4 w2.heap.size 65 [v2].toArray := by rw [hW4, ← hz3]; exact Box.new W3 _ _
  rw [← hW4]
  have hT4 : TreeOpen D W4 t (.slice (some ⟨rg, 0, none⟩) (A ++ l :: C).length lc) (a ++ s' :: c) (A ++ l.take q :: C) sz := hT3.keep fun q hq hlt => ⟨hb4.block q hlt, hBD _ q hs1 hq⟩
  have hv2 : LeafAt D W4 v2 (l.drop q) := by
    refine ⟨?_, fun b hb => ?_⟩
    · rw [List.length_drop]
      refine hr2.keep fun b hb => ⟨?_, Nat.zero_le _⟩
      obtain ⟨hb1, hb3⟩ := hr2.lt b hb
      exact (hb4.block b (by omega)).trans ((hf3 b (by omega)).trans (hblk b hb3 (by omega)))
    · rw [hD]
      exact .inr (hr2.lt b hb).1
  have hins := tIR.ins_any (i := A.length + 1) (vb := w2.heap.size) (es := [v2]) hT4.2.2.1 (by simp at hn9 ⊢; omega) (by simp) (Nat.zero_le _) (fun e => by
    have : rg = w2.heap.size := by simpa [Value.ownBlock] using e
    omega) rfl (fun u hu => by obtain rfl : u = v2 := by simpa using hu
                               exact rowk_one hr2) hbx4
  refine hins.mono ?_
  rintro e w5 ⟨v', rfl, hr5, hu5⟩
  have hal := ha
  have eC : tIR.insC (a ++ s' :: c) (A.length + 1) [v2] = a ++ s' :: v2 :: c := by
    unfold tIR.insC
    have e1 : a ++ s' :: c = (a ++ [s']) ++ c := by simp
    have e2 : (A.length + 1) * 1 = (a ++ [s']).length := by simp [ha]
    rw [e1, e2, List.take_left', List.drop_left']
    · simp
    · rfl
    · rfl
  rw [eC] at hr5
  obtain ⟨a', c', e, e2, hla, hlc⟩ := hT4.2.2.2.2.1.cut
  obtain ⟨rfl, rfl⟩ : a' = a ∧ c' = s' :: c := by
    have := List.append_inj e (by omega)
    exact ⟨this.1.symm, this.2.symm⟩
  have hss4 : ∀ x ∈ a' ++ s' :: c, Ap v2 x := fun x hx b hb hxb => by
    obtain ⟨hb1, hb3⟩ := hr2.lt b hb
    have hcase : x ∈ a' ++ .slice (some ⟨g, 0, none⟩) l.length k :: c ∨ x = s' := by
      simp at hx ⊢
      rcases hx with hx | hx | hx
      · exact .inl (.inl hx)
      · exact .inr hx
      · exact .inl (.inr (.inr hx))
    rcases hcase with hx | rfl
    · have := (hss x hx b hxb).2
      omega
    · rcases hu.2 with h9 | h9
      · rw [hxb] at h9
        have : b = g := by simpa [Value.ownBlock] using h9
        omega
      · have : W1.heap.size ≤ b := h9 b hxb
        omega
  obtain ⟨hT5, hE5⟩ := hT4.setRow (ss' := a' ++ s' :: v2 :: c) (ls' := A ++ l.take q :: l.drop q :: C) (by
    have e3 : (A ++ l.take q :: l.drop q :: C).length = (A ++ l.take q :: C).length + 1 := by simp; omega
    rw [e3]
    exact hr5) hu5 (hla.join ⟨hlc.1, hv2, hlc.2⟩) (ap_mid hT4.2.2.2.2.2 hss4)
  obtain ⟨va, vc, rfl, _⟩ := hr5.form
  have hbt4 := hT4.2.1
  have htr5 : some t ≠ (Value.slice (some ⟨rg, 0, none⟩) (A ++ l :: C).length lc).ownBlock := fun e => hrt (by simpa [Value.ownBlock] using e.symm)
  have hbt5 : Box w5 t 47 #[.slice (some ⟨rg, 0, none⟩) (A ++ l :: C).length lc, .int .i64 sz] := (hu5.1.block t hbt4.lt htr5).trans hbt4
  refine ⟨va, _, vc, rfl, by rw [hbt5.cell]; rfl, hbt5.free _, rfl, ?_, _, _, _, hT5.mono fun q hq => ?_, ?_, fun x hx => ?_⟩
  · have x1 : Ext B W W1.drew := Ext.below hb2.drew
    have x2 : Ext D W1.drew W3 := hE3.mono fun q hq => by rw [hD]; exact .inl hq
    have x3 : Ext D W3 W4 := Ext.below hb4
    have x5 := (x2.trans (x3.mono fun q hq => .inl hq)).trans (hE5.mono fun q hq => .inl hq)
    rw [hD] at x5
    exact x1.trans x5
  · have := hDD _ q (by have := hb4.size; omega) hq
    rw [hD] at this
    exact this
  · rw [List.flatten_append, List.flatten_append, List.flatten_cons, List.flatten_cons, List.flatten_cons, ← List.append_assoc (l.take q), List.take_append_drop]
  · rcases List.mem_append.1 hx with hx | hx
    · exact hne x (List.mem_append_left _ hx)
    · rcases List.mem_cons.1 hx with rfl | hx
      · intro e
        have := congrArg List.length e
        rw [List.length_take, Nat.min_eq_left (by omega), List.length_nil] at this
        omega
      · rcases List.mem_cons.1 hx with rfl | hx
        · intro e
          have := congrArg List.length e
          rw [List.length_drop, List.length_nil] at this
          omega
        · exact hne x (by simp [hx])

set_option maxHeartbeats 4000000 in
set_option maxRecDepth 100000 in
theorem split_yes {B : Nat → Prop} {W : World} {t rg lc sz g k : Nat} {a c : List Value} {A C : List (List KV)} {l : List KV} (h : TreeOpen B W t (.slice (some ⟨rg, 0, none⟩) (A ++ l :: C).length lc) (a ++ .slice (some ⟨g, 0, none⟩) l.length k :: c) (A ++ l :: C) sz) (ha : a.length = A.length) (hne : ∀ x ∈ A ++ l :: C, x ≠ []) (hn9 : (A ++ l :: C).length ≤ 90000) (hl9 : l.length ≤ 90000) (hs : 64 < l.length) :
    Calls Try.prog 27 #[.pointer (some ⟨t, 0, none⟩), .int .i64 A.length] W (SplitP B W t (A ++ l :: C) sz) := by
  obtain ⟨h1, _, h2, hLf, h4, h5, h6, h8⟩ := h.at_ ha
  have hi : A.length < (A ++ l :: C).length := by simp
  obtain ⟨q, hq⟩ : ∃ q, q = l.length / 2 := ⟨_, rfl⟩
  have hq0 : 0 < q := by omega
  have hql : q < l.length := by omega
  have hqI : (l.length : Int) / 2 = (q : Int) := by omega
  obtain ⟨_, _, e, hk1, hk2⟩ := hLf.1.form
  injection e with e0 _ e
  subst e0
  subst e
  obtain ⟨g', e, _, hgl, hcells⟩ := hLf.1.at_ (by omega)
  injection e with e
  injection e with e
  subst e
  have hC : Hid (Calls Try.prog 31 #[.slice (some ⟨g, q * 2, none⟩) (l.length - q) (k - q)] W (tIc.ClnP W (l.length - q) (ecells (l.drop q)))) := Lib.hid (tIc.clone_any (by omega) (by omega) hgl (by rw [ecells_length, List.length_drop]) (fun j u hj => by
    rw [← ecells_drop, List.getElem?_drop] at hj
    exact hcells _ _ hj) (fun u hu => by
    rw [← ecells_drop] at hu
    exact hLf.1.2 u (List.mem_of_mem_drop hu)))
  have hc1 : Hid (∀ W1, Below W.heap.size W W1 → W1.cell? ⟨t, 0, none⟩ = some (.slice (some ⟨rg, 0, none⟩) (A ++ l :: C).length lc)) := Lib.hid fun W1 hb => (hb.cell (p := ⟨t, 0, none⟩) h8).trans h1
  have hD : Hid (∀ W1 v2, Below W.heap.size W W1 → RowK 67 2 W.heap.size W1 v2 (l.length - q) (ecells (l.drop q)) → Calls Try.prog 28 #[.slice (some ⟨g, 0, none⟩) l.length k, .int .i64 q, .int .i64 l.length] W1.drew fun e w2 =>
      ∃ sa sn sc, e = .returned (.slice sa sn sc) ∧ (w2.cell? ⟨t, 0, none⟩ = some (.slice (some ⟨rg, 0, none⟩) (A ++ l :: C).length lc) ∧ w2.cell? ⟨rg, A.length, none⟩ = some (.slice (some ⟨g, 0, none⟩) l.length k) ∧ w2.frozen? ⟨rg, A.length, none⟩ = false) ∧
        (w2.setCell ⟨rg, A.length, none⟩ (.slice sa sn sc)).cell? ⟨t, 0, none⟩ = some (.slice (some ⟨rg, 0, none⟩) (A ++ l :: C).length lc) ∧
        Hid (Calls Try.prog 41 #[.slice (some ⟨rg, 0, none⟩) (A ++ l :: C).length lc, .int .i64 ((A.length : Int) + 1), .slice (some ⟨w2.heap.size, 0, none⟩) 1 1] ((w2.setCell ⟨rg, A.length, none⟩ (.slice sa sn sc)).alloc (.cells #[v2] 65)) fun e w5 =>
          ∃ va n vc, e = .returned (.slice va n vc) ∧ (w5.cell? ⟨t, 0, none⟩).isSome = true ∧ w5.frozen? ⟨t, 0, none⟩ = false ∧ SplitP B W t (A ++ l :: C) sz (.returned (.tuple #[])) (w5.setCell ⟨t, 0, none⟩ (.slice va n vc)))) := Lib.hid fun W1 v2 hb hr2 => by
    refine (split_one h ha (by omega) hql hb).2.mono ?_
    rintro e w2 ⟨s', rfl, hrow, hu⟩
    obtain ⟨x1, x2, x3⟩ := split_two h ha hne hn9 hb hr2 hq0 hql hrow hu
    obtain ⟨sa, sc, rfl, _⟩ := hrow.form
    exact ⟨sa, _, sc, rfl, x1, x2, Lib.hid x3⟩
  obtain ⟨P, hP⟩ : ∃ P, P = SplitP B W t (A ++ l :: C) sz := ⟨_, rfl⟩
  rw [← hP] at hD ⊢
  obtain ⟨E, hE⟩ : ∃ E, E = ecells (l.drop q) := ⟨_, rfl⟩
  rw [← hE] at hC hD
  obtain ⟨i, hi2⟩ : ∃ i, i = A.length := ⟨_, rfl⟩
  obtain ⟨n, hn⟩ : ∃ n, n = (A ++ l :: C).length := ⟨_, rfl⟩
  obtain ⟨m, hm⟩ : ∃ m, m = l.length := ⟨_, rfl⟩
  rw [← hi2, ← hn, ← hm] at hD
  rw [← hm] at hC
  rw [← hn] at hc1
  rw [← hn] at h1 h4 hn9 hi
  rw [← hi2] at h2 hi ⊢
  rw [← hm] at h2 hs hql hqI hl9 hk1
  have hkq : ¬ (k = q) := by omega
  have hk63 : k ≤ 9223372036854775807 := by unfold maxLen at hk2; omega
  have hw1 : IntKind.i64.wrap ((i : Int) + 1) = (i : Int) + 1 := by rw [IntKind.wrap_i64]; omega
  have hil : i < lc := by omega
  have hqm : q ≤ m := by omega
  have hmk : m ≤ k := by omega
  clear hm hn hi2 hP hE hq h ha hne hcells hLf
  go_enter Try.func27, Try.ntmps27
  go_wp2_with fail
  refine hC.out.mono ?_
  rintro e W1 ⟨v2, rfl, hr2, hb2⟩
  have hc0 := hc1.out W1 hb2
  have HD := Lib.hid (hD.out W1 v2 hb2 hr2)
  obtain ⟨va, vc, rfl, _, _⟩ := hr2.form
  clear hr2 hb2 hC hc1 hD
  go_wp2_with fail
  go_region_with ((go_at_call 28; refine HD.out.mono ?_; rintro e w2 ⟨sa, sn, sc, rfl, ⟨y0, y1, y2⟩, y3, hI⟩))
  all_goals
    go_wp2_with fail
    refine hI.out.mono ?_
    rintro e w5 ⟨wa, wn, wc, rfl, z1, z2, hF⟩
    obtain ⟨zz, hz⟩ := Option.isSome_iff_exists.1 z1
    have HF := Lib.hid hF
    clear hF hI HD z1
    go_wp2
    go_end0
    exact HF.out



end Go.Proofs.Ytkohmiegkebmeaa.tI
