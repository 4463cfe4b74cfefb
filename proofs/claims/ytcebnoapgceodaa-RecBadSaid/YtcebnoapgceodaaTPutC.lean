/-
  tree: Put (trees of chains).
-/
import Derived.Test.YtcebnoapgceodaaTM1
namespace Go.Proofs.Ytcebnoapgceodaa.tC
open Go.RowKit

set_option linter.unusedVariables false

theorem ecells_cons (p : KV) (r : List KV) : ecells (p :: r) = .string p.1 :: p.2 :: ecells r := by
  unfold ecells
  rw [List.flatMap_cons]
  rfl
theorem ecells_set : ∀ (l : List KV) (j : Nat) (v : Value) (h : j < l.length), (ecells l).set (j * 2 + 1) v = ecells (l.set j ((l[j]).1, v))
  | [], j, _, h => by simp at h
  | p :: r, 0, v, _ => by simp [ecells_cons]
  | p :: r, j + 1, v, h => by
    have := ecells_set r j v (by simpa using h)
    rw [show (j + 1) * 2 + 1 = j * 2 + 1 + 1 + 1 by omega]
    simp [ecells_cons, this]

/-- one value -/
theorem TreeOpen.setVal [hd : Inhabited Hd] {B : Nat → Prop} {W : World} {t rg lc sz g k j : Nat} {a c : List Value} {A C : List (List KV)} {l : List KV} {v : Value} (h : TreeOpen B W t (.slice (some ⟨rg, 0, none⟩) (A ++ l :: C).length lc) (a ++ .slice (some ⟨g, 0, none⟩) l.length k :: c) (A ++ l :: C) sz) (ha : a.length = A.length) (hj : j < l.length) (hv : v.oneCell' = true) :
    TreeOpen B (W.setCell ⟨g, j * 2 + 1, none⟩ v) t (.slice (some ⟨rg, 0, none⟩) (A ++ l :: C).length lc) (a ++ .slice (some ⟨g, 0, none⟩) l.length k :: c) (A ++ l.set j ((l[j]).1, v) :: C) sz ∧ Ext B W (W.setCell ⟨g, j * 2 + 1, none⟩ v) := by
  obtain ⟨h1, hb, hr, ho, hl, hd⟩ := h
  obtain ⟨a', c', e, e2, hla, hlc⟩ := hl.cut
  obtain ⟨rfl, rfl⟩ : a' = a ∧ c' = .slice (some ⟨g, 0, none⟩) l.length k :: c := by
    have := List.append_inj e (by omega)
    exact ⟨this.1.symm, this.2.symm⟩
  obtain ⟨hs, hlc⟩ := hlc
  obtain ⟨cur, hbx, hcz, _, hn, hm, hcq⟩ := hs.1.parts
  have hgB := hs.2 g rfl
  have hblk : ∀ q, q ≠ g → (W.setCell ⟨g, j * 2 + 1, none⟩ v).heap[q]? = W.heap[q]? := fun q hq => Below.heap_setCell W ⟨g, j * 2 + 1, none⟩ v q hq
  have hd3 := List.pairwise_cons.1 ((List.pairwise_middle (fun h => Ap.symm h)).1 hd)
  have hrl : rg ≠ g := by
    obtain ⟨arr, hq⟩ := rowk_box hr (g := rg) rfl
    exact box_ne hq hbx (by decide)
  have hbel := Below.setCell (B := 0) (Below.refl 0 W) (p := ⟨g, j * 2 + 1, none⟩) (Nat.zero_le _) v
  have hlen2 : (A ++ l.set j ((l[j]).1, v) :: C).length = (A ++ l :: C).length := by simp
  refine ⟨⟨h1, (hblk t (box_ne hb hbx (by decide))).trans hb, ?_, ho, ?_, hd⟩, hbel.os, hbel.tape, hbel.output, hbel.size, fun q _ hnB => hblk q fun e => hnB (by rw [e]; exact hgB)⟩
  · rw [hlen2]
    exact hr.keep fun q hq => ⟨hblk q (by have : rg = q := by simpa [Value.ownBlock] using hq
                                          omega), Nat.zero_le _⟩
  · refine LeavesAt.join (hla.keep fun x hx q hq hB _ => ⟨hblk q fun e => hd3.1 x (List.mem_append_left _ hx) g rfl (by rw [← e]; exact hq), hB⟩) ⟨⟨?_, hs.2⟩, hlc.keep fun x hx q hq hB _ => ⟨hblk q fun e => hd3.1 x (List.mem_append_right _ hx) g rfl (by rw [← e]; exact hq), hB⟩⟩
    have hl2 : (l.set j ((l[j]).1, v)).length = l.length := by simp
    have hcs := ecells_set l j v hj
    have hel := ecells_length l
    rw [hl2]
    refine RowK.mk (hbx.setSame (j * 2 + 1) v) (by simpa using hcz) (Nat.zero_le _) hn hm (by rw [← hcs, List.length_set, hel]) (fun q hq => ?_) (fun u hu => ?_)
    · rw [← hcs]
      by_cases hqa : q = j * 2 + 1
      · subst hqa
        rw [Array.getElem?_setIfInBounds_self_of_lt (by omega), List.getElem?_set_self (by omega)]
      · rw [Array.getElem?_setIfInBounds_ne (Ne.symm hqa), List.getElem?_set_ne (Ne.symm hqa), hcq q hq]
    · rw [← hcs] at hu
      rcases List.mem_or_eq_of_mem_set hu with h | h
      · exact hs.1.2 u h
      · rw [h]; exact hv

def PutP [hd : Inhabited Hd] (B : Nat → Prop) (W : World) (t : Nat) (ls : List (List KV)) (key : ByteArray) (v : Value) (e : Ending) (W' : World) : Prop :=
  e = .returned (.bool (getK ls.flatten key).isSome) ∧ Ext B W W' ∧ ∃ ls', TreeAt (Nu B W.heap.size) W' t ls' ∧ ls'.flatten = putK ls.flatten key v

theorem goodT_of {ls : List (List KV)} {X Y : List KV} {key : ByteArray} {v : Value} (hn : ∀ x ∈ ls, x ≠ []) (hX : RiseB (keysOf X)) (hY : RiseB (keysOf Y)) (h1 : ∀ p ∈ X, Lt p.1 key) (h2 : ∀ p ∈ Y, Lt key p.1) (e : ls.flatten = X ++ (key, v) :: Y) : GoodT ls := by
  refine ⟨hn, ?_⟩
  rw [e]
  unfold RiseB
  rw [keysOf_append]
  refine List.pairwise_append.2 ⟨hX, List.pairwise_cons.2 ⟨fun k hk => ?_, hY⟩, fun k hk k2 hk2 => ?_⟩
  · obtain ⟨p, hp, rfl⟩ := List.mem_map.1 hk
    exact h2 p hp
  · obtain ⟨p, hp, rfl⟩ := List.mem_map.1 hk
    rcases List.mem_cons.1 hk2 with rfl | hk2
    · exact h1 p hp
    · obtain ⟨p2, hp2, rfl⟩ := List.mem_map.1 hk2
      exact (h1 p hp).trans (h2 p2 hp2)
theorem rise_parts {X Y : List KV} (h : RiseB (keysOf (X ++ Y))) : RiseB (keysOf X) ∧ RiseB (keysOf Y) := by
  unfold RiseB at h ⊢
  rw [keysOf_append] at h
  exact ⟨(List.pairwise_append.1 h).1, (List.pairwise_append.1 h).2.1⟩

/-- a tree at the leaf that place tells -/
theorem TreeAt.at_leaf [hd : Inhabited Hd] {B : Nat → Prop} {W : World} {t : Nat} {A C : List (List KV)} {l : List KV} (h : TreeAt B W t (A ++ l :: C)) :
    ∃ rg lc a g k c, a.length = A.length ∧ TreeOpen B W t (.slice (some ⟨rg, 0, none⟩) (A ++ l :: C).length lc) (a ++ .slice (some ⟨g, 0, none⟩) l.length k :: c) (A ++ l :: C) (total (A ++ l :: C)) := by
  obtain ⟨_, hg, _, rv, ss, ho⟩ := h
  obtain ⟨la, lc, rfl, _⟩ := ho.2.2.1.form
  obtain ⟨rg, rfl, _⟩ := ho.2.2.1.at_ (by simp; omega)
  obtain ⟨a, c', rfl, e2, hla, hlc⟩ := ho.2.2.2.2.1.cut
  cases c' with
  | nil => exact hlc.elim
  | cons s c =>
    obtain ⟨sa, k, rfl, _⟩ := hlc.1.1.form
    obtain ⟨g, rfl, _⟩ := hlc.1.1.at_ (List.length_pos_iff.2 (hg.1 l (by simp)))
    exact ⟨rg, lc, a, g, k, c, e2, ho⟩

set_option maxHeartbeats 1000000 in
set_option maxRecDepth 100000 in
theorem put_is [hd : Inhabited Hd] {B : Nat → Prop} {W : World} {t : Nat} {A C : List (List KV)} {l : List KV} (h : TreeAt B W t (A ++ l :: C)) (key : ByteArray) (v : Option Addr × Nat × Nat) {j : Nat} (hj : j < l.length) (hp3 : placeT (A ++ l :: C) key = (A.length, j, true)) (hk : (l[j]).1 = key)
    (h1 : ∀ p ∈ A.flatten ++ l.take j, Lt p.1 key) (h2 : ∀ p ∈ l.drop (j + 1) ++ C.flatten, Lt key p.1) :
    Calls Try.prog 120 #[.pointer (some ⟨t, 2, none⟩), .string key, .slice v.1 v.2.1 v.2.2] W (PutP B W t (A ++ l :: C) key (.slice v.1 v.2.1 v.2.2)) := by
  have hp := place_any h key
  rw [hp3] at hp
  dsimp only at hp
  have h6 : l[j] = (key, (l[j]).2) := by rw [← hk]
  have hfl := flat_is (A := A) (C := C) hj
  rw [h6] at hfl
  obtain ⟨o1, o2, _⟩ := ops_is (v := (l[j]).2) h1 h2
  rw [← hfl] at o1 o2
  have HF : Hid (∀ W1, Below W.heap.size W W1 → ∃ rg lc g k, (W1.cell? ⟨t, 2, none⟩ = some (.slice (some ⟨rg, 0, none⟩) (A ++ l :: C).length lc) ∧ W1.cell? ⟨rg, A.length, none⟩ = some (.slice (some ⟨g, 0, none⟩) l.length k) ∧ (W1.cell? ⟨g, j * 2 + 1, none⟩).isSome = true ∧ W1.frozen? ⟨g, j * 2 + 1, none⟩ = false ∧ A.length < lc ∧ l.length ≤ k) ∧
      PutP B W t (A ++ l :: C) key (.slice v.1 v.2.1 v.2.2) (.returned (.bool true)) (W1.setCell ⟨g, j * 2 + 1, none⟩ (.slice v.1 v.2.1 v.2.2))) := Lib.hid fun W1 hb1 => by
    obtain ⟨rg, lc, a, g, k, c, ha, ho⟩ := (h.below hb1).at_leaf
    obtain ⟨c1, _, c2, hL, c3, _⟩ := ho.at_ ha
    obtain ⟨hT, hE⟩ := ho.setVal ha hj (v := .slice v.1 v.2.1 v.2.2) rfl
    obtain ⟨cur, hbx, hcz, _, hn, hm, hcq⟩ := hL.1.parts
    have hel := ecells_length l
    have e9 : l.set j ((l[j]).1, .slice v.1 v.2.1 v.2.2) = l.take j ++ (key, .slice v.1 v.2.1 v.2.2) :: l.drop (j + 1) := by rw [List.set_eq_take_append_cons_drop, if_pos hj, hk]
    have hfl2 : (A ++ l.set j ((l[j]).1, .slice v.1 v.2.1 v.2.2) :: C).flatten = (A.flatten ++ l.take j) ++ (key, .slice v.1 v.2.1 v.2.2) :: (l.drop (j + 1) ++ C.flatten) := by
      rw [e9, List.flatten_append, List.flatten_cons]
      simp only [List.append_assoc, List.cons_append]
    have hr := h.2.1.2
    rw [hfl] at hr
    obtain ⟨r1, r2⟩ := rise_parts hr
    have htt : total (A ++ l.set j ((l[j]).1, .slice v.1 v.2.1 v.2.2) :: C) = total (A ++ l :: C) := by
      unfold total
      rw [hfl2, hfl]
      simp
    have hgood : GoodT (A ++ l.set j ((l[j]).1, .slice v.1 v.2.1 v.2.2) :: C) := goodT_of (fun x hx => by
      rcases List.mem_append.1 hx with hx | hx
      · exact h.2.1.1 x (List.mem_append_left _ hx)
      · rcases List.mem_cons.1 hx with rfl | hx
        · rw [e9]
          simp
        · exact h.2.1.1 x (by simp [hx])) r1 (List.pairwise_cons.1 r2).2 h1 h2 hfl2
    have hT2 := hT.mono (B' := Nu B W.heap.size) fun q hq => .inl hq
    rw [← htt] at hT2
    refine ⟨rg, lc, g, k, ⟨c1, c2, ?_, hbx.free _, by simp at c3; omega, hn⟩, by rw [o1]; rfl, (Ext.below hb1).trans (hE.mono fun q hq => .inl hq), A ++ l.set j ((l[j]).1, .slice v.1 v.2.1 v.2.2) :: C, ⟨.inl h.1, hgood, by rw [htt]; exact h.2.2.1, _, _, hT2⟩, by rw [hfl2, o2]⟩
    · rw [hbx.cell, Array.getElem?_eq_getElem (by omega)]
      rfl
  obtain ⟨i, hi⟩ : ∃ i, i = A.length := ⟨_, rfl⟩
  obtain ⟨n, hn⟩ : ∃ n, n = (A ++ l :: C).length := ⟨_, rfl⟩
  obtain ⟨m, hm⟩ : ∃ m, m = l.length := ⟨_, rfl⟩
  have hil : i < n := by rw [hi, hn]; simp
  rw [← hi, ← hn, ← hm] at HF
  rw [← hi] at hp
  rw [← hm] at hj
  obtain ⟨P, hP⟩ : ∃ P, P = PutP B W t (A ++ l :: C) key (.slice v.1 v.2.1 v.2.2) := ⟨_, rfl⟩
  rw [← hP] at HF ⊢
  clear hP hi hn hm hp3 hk h1 h2 o1 o2 hfl h6 h
  go_enter Try.func120, Try.ntmps120
  go_wp2_with fail
  refine hp.mono ?_
  rintro e w1 ⟨rfl, hb1⟩
  obtain ⟨rg, lc, g, k, ⟨c1, c2, c3, c4, c5, c6⟩, hF⟩ := HF.out w1 hb1
  obtain ⟨z, hz⟩ := Option.isSome_iff_exists.1 c3
  have HF2 := Lib.hid hF
  have hjk : j < k := by omega
  clear hF HF hb1 hp c3
  go_wp2
  exact HF2.out

theorem split_any [hd : Inhabited Hd] {B : Nat → Prop} {W : World} {t rg lc sz : Nat} {a c : List Value} {s : Value} {A C : List (List KV)} {l : List KV} (h : TreeOpen B W t (.slice (some ⟨rg, 0, none⟩) (A ++ l :: C).length lc) (a ++ s :: c) (A ++ l :: C) sz) (ha : a.length = A.length) (hne : ∀ x ∈ A ++ l :: C, x ≠ []) (hn9 : (A ++ l :: C).length ≤ 90000) (hl9 : l.length ≤ 90000) :
    Calls Try.prog 148 #[.pointer (some ⟨t, 2, none⟩), .int .i64 A.length] W (SplitP B W t (A ++ l :: C) sz) := by
  obtain ⟨_, _, _, hL, _⟩ := h.at_ ha
  obtain ⟨sa, k, rfl, _⟩ := hL.1.form
  obtain ⟨g, rfl, _⟩ := hL.1.at_ (List.length_pos_iff.2 (hne l (by simp)))
  by_cases hs : l.length ≤ 64
  · exact split_no h ha hne (by omega) hs
  · exact split_yes h ha hne hn9 hl9 (by omega)

/-- behind one key more in a leaf -/
theorem put_glue [hd : Inhabited Hd] {B : Nat → Prop} {W W1 : World} {t rg lc sz j : Nat} {a c : List Value} {s : Value} {A C : List (List KV)} {l : List KV} {ls : List (List KV)} {key : ByteArray} {v : Value}
    (ho : TreeOpen (Nu B W.heap.size) W1 t (.slice (some ⟨rg, 0, none⟩) (A ++ l :: C).length lc) (a ++ s :: c) (A ++ l :: C) sz) (ha : a.length = A.length) (hE : Ext B W W1) (hv1 : v.oneCell' = true)
    (hneA : ∀ x ∈ A, x ≠ []) (hneC : ∀ x ∈ C, x ≠ []) (hj : j ≤ l.length) (hsz : sz = total ls) (hsz9 : sz < 50000)
    (h1 : ∀ p ∈ A.flatten ++ l.take j, Lt p.1 key) (h2 : ∀ p ∈ l.drop j ++ C.flatten, Lt key p.1) (hfl : ls.flatten = (A.flatten ++ l.take j) ++ (l.drop j ++ C.flatten)) (hg : GoodT ls) :
    Calls Try.prog 147 #[s, .int .i64 j, .slice (some ⟨W1.heap.size, 0, none⟩) 1 1] (W1.alloc (.cells #[.string key, v] 184)).drew fun e w4 =>
      ∃ sa sn sc, e = .returned (.slice sa sn sc) ∧ (w4.cell? ⟨t, 2, none⟩ = some (.slice (some ⟨rg, 0, none⟩) (A ++ l :: C).length lc) ∧ w4.cell? ⟨rg, A.length, none⟩ = some s ∧ w4.frozen? ⟨rg, A.length, none⟩ = false) ∧
        ((w4.setCell ⟨rg, A.length, none⟩ (.slice sa sn sc)).cell? ⟨t, 3, none⟩ = some (.int .i64 sz) ∧ (w4.setCell ⟨rg, A.length, none⟩ (.slice sa sn sc)).frozen? ⟨t, 3, none⟩ = false) ∧
        Hid (Calls Try.prog 148 #[.pointer (some ⟨t, 2, none⟩), .int .i64 A.length] ((w4.setCell ⟨rg, A.length, none⟩ (.slice sa sn sc)).setCell ⟨t, 3, none⟩ (.int .i64 ((sz : Int) + 1))) fun e w7 =>
          e = .returned (.tuple #[]) ∧ PutP B W t ls key v (.returned (.bool false)) w7) := by
  obtain ⟨D, hD⟩ : ∃ D : Nat → Prop, D = Nu B W.heap.size := ⟨_, rfl⟩
  rw [← hD] at ho
  have hDD : ∀ n q, W.heap.size ≤ n → Nu D n q → D q := fun n q hn h => by
    rw [hD] at h ⊢
    rcases h with h | h
    · exact h
    · exact .inr (by omega)
  have hs1 := hE.2.2.2.1
  obtain ⟨W2, hW2⟩ : ∃ W2, W2 = (W1.alloc (.cells #[.string key, v] 184)).drew := ⟨_, rfl⟩
  have hb2 : Below W1.heap.size W1 W2 := by rw [hW2]; exact ((Below.refl _ W1).alloc (Nat.le_refl _) _).drew
  have hbx2 : Box W2 W1.heap.size 184 [.string key, v].toArray := by rw [hW2]; exact Box.new W1 _ _
  rw [← hW2]
  have ho2 : TreeOpen D W2 t (.slice (some ⟨rg, 0, none⟩) (A ++ l :: C).length lc) (a ++ s :: c) (A ++ l :: C) sz := ho.keep fun q hq hlt => ⟨hb2.block q hlt, hq⟩
  obtain ⟨c1, c2, c3, hL, c4, c5, hrg, htl⟩ := ho2.at_ ha
  obtain ⟨_, _, _, hL1, _, _, hrg1, htl1⟩ := ho.at_ ha
  have hll : l.length ≤ sz ∨ True := .inr trivial
  have htot : total (A ++ (l.take j ++ (key, v) :: l.drop j) :: C) = sz + 1 := by
    unfold total
    rw [hsz]
    unfold total
    rw [hfl, List.flatten_append, List.flatten_cons]
    simp only [List.length_append, List.length_cons]
    omega
  have hl90 : l.length ≤ 50000 := by
    have e : total ls = (A.flatten ++ l.take j).length + (l.drop j ++ C.flatten).length := by unfold total; rw [hfl, List.length_append]
    simp only [List.length_append, List.length_take, List.length_drop] at e
    omega
  have hins := tCE.ins_any (i := j) (vb := W1.heap.size) (es := [.string key, v]) hL.1 (by omega) hj (Nat.zero_le _) (fun e => by
    have := (hL1.1.lt _ e).2
    omega) rfl (fun u hu => by
      rcases List.mem_cons.1 hu with rfl | hu
      · rfl
      · obtain rfl : u = v := by simpa using hu
        exact hv1) hbx2
  have eC : tCE.insC (ecells l) j [.string key, v] = ecells (l.take j ++ (key, v) :: l.drop j) := by
    unfold tCE.insC
    rw [ecells_take, ecells_drop, ecells_append, ecells_cons]
    rfl
  have hlen : (l.take j ++ (key, v) :: l.drop j).length = l.length + 1 := by simp; omega
  refine hins.mono ?_
  rintro e w4 ⟨s', rfl, hr4, hu4⟩
  rw [eC, ← hlen] at hr4
  obtain ⟨hT5, hE5⟩ := ho2.setLeaf ha hr4 hu4
  have hty : s.ownBlock ≠ some rg ∧ s.ownBlock ≠ some t := by
    constructor
    · intro e
      obtain ⟨arr, hq⟩ := rowk_box hL.1 e
      obtain ⟨arr2, hq2⟩ := rowk_box ho2.2.2.1 (g := rg) rfl
      exact box_ne hq hq2 (by decide) rfl
    · intro e
      obtain ⟨arr, hq⟩ := rowk_box hL.1 e
      exact box_ne hq ho2.2.1 (by decide) rfl
  have hrt : t ≠ rg := by
    obtain ⟨arr2, hq2⟩ := rowk_box ho2.2.2.1 (g := rg) rfl
    exact box_ne ho2.2.1 hq2 (by decide)
  have k1 := hu4.1.block t htl fun e => hty.2 e.symm
  have k2 := hu4.1.block rg hrg fun e => hty.1 e.symm
  obtain ⟨arr2, hq2⟩ := rowk_box ho2.2.2.1 (g := rg) rfl
  obtain ⟨sa, sc, rfl, _⟩ := hr4.form
  obtain ⟨W5, hW5⟩ : ∃ W5, W5 = w4.setCell ⟨rg, A.length, none⟩ (.slice sa (l.take j ++ (key, v) :: l.drop j).length sc) := ⟨_, rfl⟩
  rw [← hW5] at hT5 hE5
  refine ⟨sa, _, sc, rfl, ⟨(World.cell?_of_block (a := ⟨t, 2, none⟩) k1).trans c1, (World.cell?_of_block (a := ⟨rg, A.length, none⟩) k2).trans c3, (World.frozen?_of_block (a := ⟨rg, A.length, none⟩) k2).trans (hq2.free _)⟩, ?_⟩
  rw [← hW5]
  obtain ⟨hT6, hE6⟩ := hT5.setSize (sz + 1)
  have hbt5 := hT5.2.1
  refine ⟨⟨by have := hbt5.cell 3; simpa using this, hbt5.free 3⟩, Lib.hid ?_⟩
  have ecast : ((sz + 1 : Nat) : Int) = (sz : Int) + 1 := by omega
  rw [ecast] at hT6 hE6
  have hne : ∀ x ∈ A ++ (l.take j ++ (key, v) :: l.drop j) :: C, x ≠ [] := fun x hx => by
    rcases List.mem_append.1 hx with hx | hx
    · exact hneA x hx
    · rcases List.mem_cons.1 hx with rfl | hx
      · simp
      · exact hneC x hx
  have hn8 : (A ++ (l.take j ++ (key, v) :: l.drop j) :: C).length ≤ 90000 := by
    have := ls_le hne
    omega
  have hlen3 : (A ++ l :: C).length = (A ++ (l.take j ++ (key, v) :: l.drop j) :: C).length := by simp
  rw [hlen3] at hT6
  refine (split_any hT6 ha hne hn8 (by omega)).mono ?_
  rintro e w7 ⟨rfl, hE7, rv, ss, ls', hT7, hfl7, hne7⟩
  have hflX : ls'.flatten = (A.flatten ++ l.take j) ++ (key, v) :: (l.drop j ++ C.flatten) := by
    rw [hfl7, List.flatten_append, List.flatten_cons]
    simp only [List.append_assoc, List.cons_append]
  obtain ⟨o1, o2, _⟩ := ops_no h1 h2
  rw [← hfl] at o1 o2
  have hr := hg.2
  rw [hfl] at hr
  obtain ⟨r1, r2⟩ := rise_parts hr
  have hs2 := hb2.size
  have hs5 := hE5.2.2.2.1
  have hs6 := hE6.2.2.2.1
  have ht7 : total ls' = sz + 1 := by rw [← htot]; unfold total; rw [hfl7]
  refine ⟨rfl, by rw [o1]; rfl, ?_, ls', ⟨?_, goodT_of hne7 r1 r2 h1 h2 hflX, by omega, rv, ss, ?_⟩, by rw [hflX, o2]⟩
  · have x1 : Ext D W1 W2 := Ext.below hb2
    have x2 := x1.trans (hE5.mono fun q hq => .inl hq)
    have x3 := x2.trans (hE6.mono fun q hq => hq.elim (fun h => .inl h) (fun h => .inr (by omega)))
    have x4 := x3.trans (hE7.mono fun q hq => hq.elim (fun h => .inl h) (fun h => .inr (by omega)))
    rw [hD] at x4
    exact hE.trans x4
  · have := ho.1
    rw [hD] at this
    exact this
  · rw [ht7, ← hD]
    exact hT7.mono fun q hq => by
      rcases hq with hq | hq
      · exact hDD _ q (by omega) hq
      · rw [hD]; exact .inr (by omega)

set_option maxHeartbeats 4000000 in
set_option maxRecDepth 100000 in
theorem put_no [hd : Inhabited Hd] {B : Nat → Prop} {W : World} {t : Nat} {A C : List (List KV)} {l : List KV} (h : TreeAt B W t (A ++ l :: C)) (h50 : total (A ++ l :: C) < 50000) (key : ByteArray) (v : Option Addr × Nat × Nat) {j : Nat} (hj : j ≤ l.length) (hp3 : placeT (A ++ l :: C) key = (A.length, j, false))
    (h1 : ∀ p ∈ A.flatten ++ l.take j, Lt p.1 key) (h2 : ∀ p ∈ l.drop j ++ C.flatten, Lt key p.1) :
    Calls Try.prog 120 #[.pointer (some ⟨t, 2, none⟩), .string key, .slice v.1 v.2.1 v.2.2] W (PutP B W t (A ++ l :: C) key (.slice v.1 v.2.1 v.2.2)) := by
  have hp := place_any h key
  rw [hp3] at hp
  dsimp only at hp
  have hfl := flat_no (A := A) (l := l) (C := C) j
  have HF : Hid (∀ W1, Below W.heap.size W W1 → ∃ rg lc g k, (W1.cell? ⟨t, 2, none⟩ = some (.slice (some ⟨rg, 0, none⟩) (A ++ l :: C).length lc) ∧ W1.cell? ⟨t, 3, none⟩ = some (.int .i64 (total (A ++ l :: C))) ∧ W1.cell? ⟨rg, A.length, none⟩ = some (.slice (some ⟨g, 0, none⟩) l.length k) ∧ A.length < lc ∧ t < W1.heap.size ∧ rg < W1.heap.size) ∧
      Calls Try.prog 147 #[.slice (some ⟨g, 0, none⟩) l.length k, .int .i64 j, .slice (some ⟨W1.heap.size, 0, none⟩) 1 1] (W1.alloc (.cells #[.string key, .slice v.1 v.2.1 v.2.2] 184)).drew fun e w4 =>
      ∃ sa sn sc, e = .returned (.slice sa sn sc) ∧ (w4.cell? ⟨t, 2, none⟩ = some (.slice (some ⟨rg, 0, none⟩) (A ++ l :: C).length lc) ∧ w4.cell? ⟨rg, A.length, none⟩ = some (.slice (some ⟨g, 0, none⟩) l.length k) ∧ w4.frozen? ⟨rg, A.length, none⟩ = false) ∧
        ((w4.setCell ⟨rg, A.length, none⟩ (.slice sa sn sc)).cell? ⟨t, 3, none⟩ = some (.int .i64 (total (A ++ l :: C))) ∧ (w4.setCell ⟨rg, A.length, none⟩ (.slice sa sn sc)).frozen? ⟨t, 3, none⟩ = false) ∧
        Hid (Calls Try.prog 148 #[.pointer (some ⟨t, 2, none⟩), .int .i64 A.length] ((w4.setCell ⟨rg, A.length, none⟩ (.slice sa sn sc)).setCell ⟨t, 3, none⟩ (.int .i64 ((total (A ++ l :: C) : Int) + 1))) fun e w7 =>
          e = .returned (.tuple #[]) ∧ PutP B W t (A ++ l :: C) key (.slice v.1 v.2.1 v.2.2) (.returned (.bool false)) w7)) := Lib.hid fun W1 hb1 => by
    obtain ⟨rg, lc, a, g, k, c, ha, ho⟩ := (h.below hb1).at_leaf
    obtain ⟨c1, c2, c3, hL, c4, _, c5, c6⟩ := ho.at_ ha
    exact ⟨rg, lc, g, k, ⟨c1, c2, c3, by simp at c4; omega, c6, c5⟩, put_glue (ls := A ++ l :: C) (ho.mono fun q hq => .inl hq) ha (Ext.below hb1) rfl (fun x hx => h.2.1.1 x (by simp [hx])) (fun x hx => h.2.1.1 x (by simp [hx])) hj rfl h50 h1 h2 hfl h.2.1⟩
  have hz0 : ¬ (total (A ++ l :: C) : Int) = 0 := fun e => by
    have := (total_zero h.2.1).1 (by omega)
    simp at this
  obtain ⟨i, hi⟩ : ∃ i, i = A.length := ⟨_, rfl⟩
  obtain ⟨n, hn⟩ : ∃ n, n = (A ++ l :: C).length := ⟨_, rfl⟩
  obtain ⟨m, hm⟩ : ∃ m, m = l.length := ⟨_, rfl⟩
  have hil : i < n := by rw [hi, hn]; simp
  obtain ⟨P, hP⟩ : ∃ P, P = PutP B W t (A ++ l :: C) key (.slice v.1 v.2.1 v.2.2) := ⟨_, rfl⟩
  rw [← hP] at HF ⊢
  obtain ⟨z, hz⟩ : ∃ z, z = total (A ++ l :: C) := ⟨_, rfl⟩
  rw [← hz] at HF hz0 h50
  rw [← hi, ← hn, ← hm] at HF
  rw [← hi] at hp
  rw [← hm] at hj
  have hw1 : IntKind.i64.wrap ((z : Int) + 1) = (z : Int) + 1 := by rw [IntKind.wrap_i64]; omega
  clear hP hi hn hm hz hp3 h1 h2 hfl h
  go_enter Try.func120, Try.ntmps120
  go_wp2_with fail
  refine hp.mono ?_
  rintro e w1 ⟨rfl, hb1⟩
  obtain ⟨rg, lc, g, k, ⟨c1, c2, c3, c4, c5, c6⟩, hI⟩ := HF.out w1 hb1
  have HI := Lib.hid hI
  clear hI HF hb1 hp
  go_wp2_with fail
  go_region_with ((go_at_call 147; refine HI.out.mono ?_; rintro e w4 ⟨sa, sn, sc, rfl, ⟨y0, y1, y2⟩, ⟨y3, y4⟩, hS⟩))
  all_goals
    go_wp2_with fail
    refine hS.out.mono ?_
    rintro e w7 ⟨rfl, hF⟩
    have HF := Lib.hid hF
    clear hF hS HI
    go_wp2
    exact HF.out


end Go.Proofs.Ytcebnoapgceodaa.tC
