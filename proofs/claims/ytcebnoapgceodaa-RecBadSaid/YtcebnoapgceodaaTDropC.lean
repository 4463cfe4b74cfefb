/-
  tree: Drop (trees of chains).
-/
import Derived.Test.YtcebnoapgceodaaTM1
import Derived.Test.YtcebnoapgceodaaTPutC
namespace Go.Proofs.Ytcebnoapgceodaa.tC
open Go.RowKit

set_option linter.unusedVariables false

theorem join_any [hd : Inhabited Hd] {B : Nat → Prop} {W : World} {t sz : Nat} {rv : Value} {ss : List Value} {ls : List (List KV)} (h : TreeOpen B W t rv ss ls sz) (hne : ∀ x ∈ ls, x ≠ []) (hn9 : ls.length ≤ 90000) (hl9 : ∀ x ∈ ls, x.length ≤ 90000) (i : Nat) (hi : i < ls.length) :
    Calls Try.prog 161 #[.pointer (some ⟨t, 2, none⟩), .int .i64 i] W (JoinP B W t ls sz i) := by
  obtain ⟨A, l, C, e, hAi⟩ : ∃ A l C, ls = A ++ l :: C ∧ A.length = i := ⟨ls.take i, ls[i], ls.drop (i + 1), by rw [← List.drop_eq_getElem_cons hi, List.take_append_drop], by rw [List.length_take]; omega⟩
  subst e
  subst hAi
  obtain ⟨la, lc, rfl, _⟩ := h.2.2.1.form
  obtain ⟨rg, rfl, _⟩ := h.2.2.1.at_ (by simp; omega)
  obtain ⟨a, c', rfl, ha, hla, hlc⟩ := h.2.2.2.2.1.cut
  cases c' with
  | nil => exact hlc.elim
  | cons s c =>
    cases C with
    | nil =>
      cases c with
      | nil => exact join_last h ha hne hn9
      | cons _ _ => exact hlc.2.elim
    | cons r C =>
      cases c with
      | nil => exact hlc.2.elim
      | cons sr c =>
        by_cases hs : l.length + r.length ≤ 32
        · exact join_both h ha hne hn9 hs
        · exact join_full h ha hne hn9 (hl9 l (by simp)) (hl9 r (by simp)) (by omega)

def DropP [hd : Inhabited Hd] (B : Nat → Prop) (W : World) (t : Nat) (ls : List (List KV)) (key : ByteArray) (e : Ending) (W' : World) : Prop :=
  e = .returned (.bool (getK ls.flatten key).isSome) ∧ Ext B W W' ∧ ∃ ls', TreeAt (Nu B W.heap.size) W' t ls' ∧ ls'.flatten = dropK ls.flatten key

theorem goodT_less {ls : List (List KV)} {X Y : List KV} {p : KV} (hn : ∀ x ∈ ls, x ≠ []) (h : RiseB (keysOf (X ++ p :: Y))) (e : ls.flatten = X ++ Y) : GoodT ls := by
  refine ⟨hn, ?_⟩
  rw [e]
  unfold RiseB keysOf at h ⊢
  exact h.sublist (List.Sublist.map _ (List.Sublist.append (List.Sublist.refl _) (List.Sublist.cons _ (List.Sublist.refl _))))

/-- an open tree with the right keys is what Drop is to leave -/
theorem drop_end [hd : Inhabited Hd] {B : Nat → Prop} {W W7 : World} {t sz : Nat} {rv : Value} {ss : List Value} {ls ls' : List (List KV)} {X Y : List KV} {key : ByteArray} {v : Value} (hT : TreeOpen (Nu B W.heap.size) W7 t rv ss ls' sz) (hB : B t) (hE : Ext B W W7)
    (hfl : ls.flatten = X ++ (key, v) :: Y) (hfl2 : ls'.flatten = X ++ Y) (hne : ∀ x ∈ ls', x ≠ []) (hg : GoodT ls) (h50 : total ls ≤ 50000) (hsz : sz + 1 = total ls) (hX : ∀ p ∈ X, Lt p.1 key) (hY : ∀ p ∈ Y, Lt key p.1) :
    DropP B W t ls key (.returned (.bool true)) W7 := by
  obtain ⟨o1, _, o3⟩ := ops_is (v := v) hX hY
  rw [← hfl] at o1 o3
  have ht : total ls' = sz := by
    have e1 : total ls = X.length + (Y.length + 1) := by unfold total; rw [hfl]; simp
    have e2 : total ls' = X.length + Y.length := by unfold total; rw [hfl2]; simp
    omega
  have hr := hg.2
  rw [hfl] at hr
  refine ⟨by rw [o1]; rfl, hE, ls', ⟨.inl hB, goodT_less hne hr hfl2, by omega, rv, ss, ?_⟩, by rw [hfl2, o3]⟩
  rw [ht]
  exact hT

/-- behind one key less in a leaf -/
theorem drop_glue [hd : Inhabited Hd] {B : Nat → Prop} {W W1 : World} {t rg lc sz j k g : Nat} {a c : List Value} {A C : List (List KV)} {l : List KV} {key : ByteArray} {v : Value}
    (h : TreeAt B W t (A ++ l :: C)) (hb1 : Below W.heap.size W W1)
    (ho : TreeOpen B W1 t (.slice (some ⟨rg, 0, none⟩) (A ++ l :: C).length lc) (a ++ .slice (some ⟨g, 0, none⟩) l.length k :: c) (A ++ l :: C) sz) (ha : a.length = A.length)
    (hj : j < l.length) (hsz : sz = total (A ++ l :: C)) (hk : l[j] = (key, v))
    (h1 : ∀ p ∈ A.flatten ++ l.take j, Lt p.1 key) (h2 : ∀ p ∈ l.drop (j + 1) ++ C.flatten, Lt key p.1) :
    Calls Try.prog 159 #[.slice (some ⟨g, 0, none⟩) l.length k, .int .i64 j, .int .i64 ((j : Int) + 1)] W1.drew fun e w4 =>
      ∃ sa sc, e = .returned (.slice sa (l.length - 1) sc) ∧ (w4.cell? ⟨t, 2, none⟩ = some (.slice (some ⟨rg, 0, none⟩) (A ++ l :: C).length lc) ∧ w4.cell? ⟨rg, A.length, none⟩ = some (.slice (some ⟨g, 0, none⟩) l.length k) ∧ w4.frozen? ⟨rg, A.length, none⟩ = false) ∧
        ((w4.setCell ⟨rg, A.length, none⟩ (.slice sa (l.length - 1) sc)).cell? ⟨t, 3, none⟩ = some (.int .i64 sz) ∧ (w4.setCell ⟨rg, A.length, none⟩ (.slice sa (l.length - 1) sc)).frozen? ⟨t, 3, none⟩ = false) ∧
        ∀ W6, W6 = (w4.setCell ⟨rg, A.length, none⟩ (.slice sa (l.length - 1) sc)).setCell ⟨t, 3, none⟩ (.int .i64 ((sz : Int) - 1)) →
          (W6.cell? ⟨t, 2, none⟩ = some (.slice (some ⟨rg, 0, none⟩) (A ++ l :: C).length lc) ∧ W6.cell? ⟨rg, A.length, none⟩ = some (.slice sa (l.length - 1) sc)) ∧
          (l.length - 1 = 0 → Hid (Calls Try.prog 160 #[.slice (some ⟨rg, 0, none⟩) (A ++ l :: C).length lc, .int .i64 A.length, .int .i64 ((A.length : Int) + 1)] W6 fun e w7 =>
            ∃ xa xn xc, e = .returned (.slice xa xn xc) ∧ (w7.cell? ⟨t, 2, none⟩).isSome = true ∧ w7.frozen? ⟨t, 2, none⟩ = false ∧ DropP B W t (A ++ l :: C) key (.returned (.bool true)) (w7.setCell ⟨t, 2, none⟩ (.slice xa xn xc)))) ∧
          (¬ l.length - 1 = 0 → Hid (Calls Try.prog 161 #[.pointer (some ⟨t, 2, none⟩), .int .i64 A.length] W6 fun e w7 => e = .returned (.tuple #[]) ∧
            Hid (Calls Try.prog 161 #[.pointer (some ⟨t, 2, none⟩), .int .i64 ((A.length : Int) - 1)] w7 fun e w8 => e = .returned (.tuple #[]) ∧ DropP B W t (A ++ l :: C) key (.returned (.bool true)) w8))) := by
  have hs1 := hb1.size
  have hne0 := h.2.1.1
  have ho2 : TreeOpen B W1.drew t (.slice (some ⟨rg, 0, none⟩) (A ++ l :: C).length lc) (a ++ .slice (some ⟨g, 0, none⟩) l.length k :: c) (A ++ l :: C) sz := ho.keep fun q hq _ => ⟨rfl, hq⟩
  obtain ⟨c1, c2, c3, hL, c4, c5, hrg, htl⟩ := ho2.at_ ha
  have hl5 : l.length ≤ 50000 := Nat.le_trans (leaf_le (ls := A ++ l :: C) (by simp)) h.2.2.1
  have hn5 : (A ++ l :: C).length ≤ 50000 := Nat.le_trans (ls_le hne0) h.2.2.1
  have hfl := flat_is (A := A) (C := C) hj
  rw [hk] at hfl
  have hd := tCEd.del_any (i := j) (j := j + 1) hL.1 (by omega) (by omega) hj
  have e1 : ((j + 1 : Nat) : Int) = (j : Int) + 1 := by omega
  rw [e1] at hd
  refine hd.mono ?_
  rintro e w4 ⟨s', rfl, hr4, hu4⟩
  have hlen2 : (l.take j ++ l.drop (j + 1)).length = l.length - 1 := by simp; omega
  have hcnt : j + (l.length - (j + 1)) = l.length - 1 := by omega
  have eC : tCEd.delC (ecells l) j (j + 1) = ecells (l.take j ++ l.drop (j + 1)) := by
    unfold tCEd.delC
    rw [ecells_take, ecells_drop, ecells_append]
  rw [eC, hcnt, ← hlen2] at hr4
  obtain ⟨hT5, hE5⟩ := ho2.setLeaf ha hr4 hu4
  obtain ⟨sa, sc, rfl, _⟩ := hr4.form
  rw [hlen2] at hT5 hE5
  have hsr : (Value.slice (some ⟨g, 0, none⟩) l.length k).ownBlock ≠ some rg ∧ (Value.slice (some ⟨g, 0, none⟩) l.length k).ownBlock ≠ some t := by
    constructor
    · intro e
      obtain ⟨arr, hq⟩ := rowk_box hL.1 e
      obtain ⟨arr2, hq2⟩ := rowk_box ho2.2.2.1 (g := rg) rfl
      exact box_ne hq hq2 (by decide) rfl
    · intro e
      obtain ⟨arr, hq⟩ := rowk_box hL.1 e
      exact box_ne hq ho2.2.1 (by decide) rfl
  have k1 := hu4.1.block t htl fun e => hsr.2 e.symm
  have k2 := hu4.1.block rg hrg fun e => hsr.1 e.symm
  obtain ⟨arr2, hq2⟩ := rowk_box ho2.2.2.1 (g := rg) rfl
  obtain ⟨W5, hW5⟩ : ∃ W5, W5 = w4.setCell ⟨rg, A.length, none⟩ (.slice sa (l.length - 1) sc) := ⟨_, rfl⟩
  rw [hlen2]
  rw [← hW5] at hT5 hE5
  refine ⟨sa, sc, rfl, ⟨(World.cell?_of_block (a := ⟨t, 2, none⟩) k1).trans c1, (World.cell?_of_block (a := ⟨rg, A.length, none⟩) k2).trans c3, (World.frozen?_of_block (a := ⟨rg, A.length, none⟩) k2).trans (hq2.free _)⟩, ?_⟩
  rw [← hW5]
  have hbt5 := hT5.2.1
  refine ⟨⟨by have := hbt5.cell 3; simpa using this, hbt5.free 3⟩, fun W6 hW6 => ?_⟩
  have hszp : 1 ≤ sz := by
    rw [hsz]
    exact Nat.le_trans (by omega) (leaf_le (ls := A ++ l :: C) (l := l) (by simp))
  obtain ⟨hT6, hE6⟩ := hT5.setSize (sz - 1)
  have ecast : ((sz - 1 : Nat) : Int) = (sz : Int) - 1 := by omega
  rw [ecast, ← hW6] at hT6 hE6
  obtain ⟨D, hD⟩ : ∃ D : Nat → Prop, D = Nu B W.heap.size := ⟨_, rfl⟩
  have hDD : ∀ n q, W.heap.size ≤ n → Nu D n q → D q := fun n q hn h => by
    rw [hD] at h ⊢
    rcases h with h | h
    · exact h
    · exact .inr (by omega)
  have hT6' : TreeOpen D W6 t (.slice (some ⟨rg, 0, none⟩) (A ++ l :: C).length lc) (a ++ .slice sa (l.length - 1) sc :: c) (A ++ (l.take j ++ l.drop (j + 1)) :: C) (sz - 1) := hT6.mono fun q hq => by
    rw [hD]
    rcases hq with hq | hq
    · exact .inl hq
    · exact .inr (Nat.le_trans hs1 hq)
  have hE16 : Ext B W W6 := (Ext.below hb1.drew).trans ((hE5.mono fun q hq => .inl hq).trans (hE6.mono fun q hq => by
    rcases hq with hq | hq
    · exact .inl (.inl hq)
    · exact .inr hq))
  have hs6 := hE16.2.2.2.1
  have hlen3 : (A ++ l :: C).length = (A ++ (l.take j ++ l.drop (j + 1)) :: C).length := by simp
  have hrt : rg ≠ t := box_ne hq2 ho2.2.1 (by decide)
  rw [hlen3] at hT6'
  obtain ⟨d1, _, d3, _⟩ := hT6'.at_ ha
  rw [← hlen3] at d1
  have hfl6 : (A ++ (l.take j ++ l.drop (j + 1)) :: C).flatten = (A.flatten ++ l.take j) ++ (l.drop (j + 1) ++ C.flatten) := by
    simp only [List.flatten_append, List.flatten_cons, List.append_assoc]
  have htot6 : ∀ ls' : List (List KV), ls'.flatten = (A.flatten ++ l.take j) ++ (l.drop (j + 1) ++ C.flatten) → total ls' + 1 = sz := fun ls' e => by
    rw [hsz]
    unfold total
    rw [hfl, e]
    simp only [List.length_append, List.length_cons]
    omega
  refine ⟨⟨d1, d3⟩, fun h0 => Lib.hid ?_, fun h0 => Lib.hid ?_⟩
  · have hd2 := tCRd.del_any (i := A.length) (j := A.length + 1) hT6'.2.2.1 (by rw [← hlen3]; omega) (by omega) (by simp)
    have e2 : ((A.length + 1 : Nat) : Int) = (A.length : Int) + 1 := by omega
    rw [e2, ← hlen3] at hd2
    refine hd2.mono ?_
    rintro e w7 ⟨v7, rfl, hr7, hu7⟩
    have hl0 : l.take j ++ l.drop (j + 1) = [] := List.length_eq_zero_iff.1 (by omega)
    have eC7 : tCRd.delC (a ++ .slice sa (l.length - 1) sc :: c) A.length (A.length + 1) = a ++ c := by
      unfold tCRd.delC
      have e5 : (A.length + 1) * 1 = (a ++ [Value.slice sa (l.length - 1) sc]).length := by simp [ha]
      have e3 : a ++ .slice sa (l.length - 1) sc :: c = (a ++ [Value.slice sa (l.length - 1) sc]) ++ c := by simp
      rw [show A.length * 1 = a.length by omega, List.take_left' rfl, e3, e5, List.drop_left' rfl]
    have hcount : A.length + ((A ++ l :: C).length - (A.length + 1)) = (A ++ C).length := by simp; omega
    rw [eC7, hcount] at hr7
    obtain ⟨a', c', e, e6, hla, hlc⟩ := hT6'.2.2.2.2.1.cut
    obtain ⟨rfl, rfl⟩ : a' = a ∧ c' = .slice sa (l.length - 1) sc :: c := by
      have := List.append_inj e (by omega)
      exact ⟨this.1.symm, this.2.symm⟩
    have hsub : (a' ++ c).Pairwise Ap := hT6'.2.2.2.2.2.sublist (List.Sublist.append (List.Sublist.refl _) (List.Sublist.cons _ (List.Sublist.refl _)))
    rw [← hlen3] at hT6'
    obtain ⟨hT7, hE7⟩ := hT6'.setRow (ss' := a' ++ c) (ls' := A ++ C) hr7 hu7 (hla.join hlc.2) hsub
    obtain ⟨xa, xc, rfl, _⟩ := hr7.form
    have hbt6 := hT6'.2.1
    have hrt2 : some t ≠ (Value.slice (some ⟨rg, 0, none⟩) (A ++ l :: C).length lc).ownBlock := fun e => hrt (by simpa [Value.ownBlock] using e.symm)
    have hbt7 : Box w7 t 105 #[hx0, hx1, .slice (some ⟨rg, 0, none⟩) (A ++ l :: C).length lc, .int .i64 ((sz - 1 : Nat) : Int)] := (hu7.1.block t hbt6.lt hrt2).trans hbt6
    have hT7' := hT7.mono fun q hq => hDD _ q hs6 hq
    rw [hD] at hT7' hE7
    refine ⟨xa, _, xc, rfl, by rw [hbt7.cell]; rfl, hbt7.free _, drop_end hT7' h.1 (hE16.trans hE7) hfl ?_ (fun x hx => ?_) h.2.1 h.2.2.1 (by omega) h1 h2⟩
    · rw [← hfl6, hl0]
      simp only [List.flatten_append, List.flatten_cons, List.nil_append]
    · rcases List.mem_append.1 hx with hx | hx
      · exact hne0 x (List.mem_append_left _ hx)
      · exact hne0 x (by simp [hx])
  · have hne6 : ∀ x ∈ A ++ (l.take j ++ l.drop (j + 1)) :: C, x ≠ [] := fun x hx => by
      rcases List.mem_append.1 hx with hx | hx
      · exact hne0 x (List.mem_append_left _ hx)
      · rcases List.mem_cons.1 hx with rfl | hx
        · intro e
          rw [e] at hlen2
          simp at hlen2
          omega
        · exact hne0 x (by simp [hx])
    have t6 := htot6 _ hfl6
    have h50 := h.2.2.1
    refine (join_any hT6' hne6 (by rw [← hlen3]; omega) (fun x hx => by have := leaf_le hx; omega) A.length (by simp)).mono ?_
    rintro e w7 ⟨rfl, hE7, rv, ss, ls7, hT7, hfl7, hne7, hi7⟩
    rw [hfl6] at hfl7
    have t7 := htot6 _ hfl7
    have hT7' := hT7.mono fun q hq => hDD _ q hs6 hq
    have hE7b : Ext (Nu B W.heap.size) W6 w7 := by rw [← hD]; exact hE7
    have hE17 : Ext B W w7 := hE16.trans hE7b
    refine ⟨rfl, Lib.hid ?_⟩
    by_cases hA0 : A.length = 0
    · refine (join_neg w7 t ((A.length : Int) - 1) (by omega) (by omega)).mono ?_
      rintro e w8 ⟨rfl, rfl⟩
      have hT8 : TreeOpen (Nu B W.heap.size) w7.drew t rv ss ls7 (sz - 1) := by rw [← hD]; exact hT7'.keep fun q hq _ => ⟨rfl, hq⟩
      exact ⟨rfl, drop_end hT8 h.1 hE17.drew hfl hfl7 hne7 h.2.1 h.2.2.1 (by omega) h1 h2⟩
    · have e2 : (A.length : Int) - 1 = ((A.length - 1 : Nat) : Int) := by omega
      rw [e2]
      refine (join_any hT7' hne7 (by have := ls_le hne7; omega) (fun x hx => by have := leaf_le hx; omega) (A.length - 1) (by omega)).mono ?_
      rintro e w8 ⟨rfl, hE8, rv8, ss8, ls8, hT8, hfl8, hne8, _⟩
      have hs7 := hE17.2.2.2.1
      have hT8' := hT8.mono fun q hq => hDD _ q hs7 hq
      rw [hD] at hT8' hE8
      exact ⟨rfl, drop_end hT8' h.1 (hE17.trans hE8) hfl (hfl8.trans hfl7) hne8 h.2.1 h.2.2.1 (by omega) h1 h2⟩

end Go.Proofs.Ytcebnoapgceodaa.tC
