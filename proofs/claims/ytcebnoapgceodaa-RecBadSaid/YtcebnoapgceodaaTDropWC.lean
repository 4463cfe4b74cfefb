/-
  tree: Drop (trees of chains): its walks.
-/
import Derived.Test.YtcebnoapgceodaaTDropC
namespace Go.Proofs.Ytcebnoapgceodaa.tC
open Go.RowKit

set_option linter.unusedVariables false

set_option maxHeartbeats 1000000 in
set_option maxRecDepth 100000 in
theorem drop_no [hd : Inhabited Hd] {B : Nat → Prop} {W : World} {t : Nat} {ls : List (List KV)} (h : TreeAt B W t ls) (key : ByteArray) (hb : (placeT ls key).2.2 = false) (hk : getK ls.flatten key = none) (hd : dropK ls.flatten key = ls.flatten) :
    Calls Try.prog 133 #[.pointer (some ⟨t, 2, none⟩), .string key] W (DropP B W t ls key) := by
  have hp := place_any h key
  rw [hb] at hp
  have HF : Hid (∀ W1, Below W.heap.size W W1 → DropP B W t ls key (.returned (.bool false)) W1) := Lib.hid fun W1 hb1 => ⟨by rw [hk]; rfl, Ext.below hb1, ls, h.keep fun q hq hlt => ⟨hb1.block q hlt, .inl hq⟩, hd.symm⟩
  obtain ⟨i, hi⟩ : ∃ i, i = (placeT ls key).1 := ⟨_, rfl⟩
  obtain ⟨j, hj⟩ : ∃ j, j = (placeT ls key).2.1 := ⟨_, rfl⟩
  rw [← hi, ← hj] at hp
  obtain ⟨P, hP⟩ : ∃ P, P = DropP B W t ls key := ⟨_, rfl⟩
  rw [← hP] at HF ⊢
  clear hi hj h hb hk hd hP
  go_enter Try.func133, Try.ntmps133
  go_wp2_with fail
  refine hp.mono ?_
  rintro e w1 ⟨rfl, hb1⟩
  have HF2 := Lib.hid (HF.out w1 hb1)
  clear hb1 hp HF
  go_wp2
  exact HF2.out

set_option maxHeartbeats 4000000 in
set_option maxRecDepth 100000 in
theorem drop_yes [hd : Inhabited Hd] {B : Nat → Prop} {W : World} {t : Nat} {A C : List (List KV)} {l : List KV} (h : TreeAt B W t (A ++ l :: C)) (key : ByteArray) {j : Nat} (hj : j < l.length) (hp3 : placeT (A ++ l :: C) key = (A.length, j, true)) (hk : (l[j]).1 = key)
    (h1 : ∀ p ∈ A.flatten ++ l.take j, Lt p.1 key) (h2 : ∀ p ∈ l.drop (j + 1) ++ C.flatten, Lt key p.1) :
    Calls Try.prog 133 #[.pointer (some ⟨t, 2, none⟩), .string key] W (DropP B W t (A ++ l :: C) key) := by
  have hp := place_any h key
  rw [hp3] at hp
  dsimp only at hp
  have h6 : l[j] = (key, (l[j]).2) := by rw [← hk]
  have HF : Hid (∀ W1, Below W.heap.size W W1 → ∃ rg lc g k, (W1.cell? ⟨t, 2, none⟩ = some (.slice (some ⟨rg, 0, none⟩) (A ++ l :: C).length lc) ∧ W1.cell? ⟨t, 3, none⟩ = some (.int .i64 (total (A ++ l :: C))) ∧ W1.cell? ⟨rg, A.length, none⟩ = some (.slice (some ⟨g, 0, none⟩) l.length k) ∧ A.length < lc ∧ t < W1.heap.size ∧ rg < W1.heap.size) ∧
      Calls Try.prog 159 #[.slice (some ⟨g, 0, none⟩) l.length k, .int .i64 j, .int .i64 ((j : Int) + 1)] W1.drew fun e w4 =>
      ∃ sa sc, e = .returned (.slice sa (l.length - 1) sc) ∧ (w4.cell? ⟨t, 2, none⟩ = some (.slice (some ⟨rg, 0, none⟩) (A ++ l :: C).length lc) ∧ w4.cell? ⟨rg, A.length, none⟩ = some (.slice (some ⟨g, 0, none⟩) l.length k) ∧ w4.frozen? ⟨rg, A.length, none⟩ = false) ∧
        ((w4.setCell ⟨rg, A.length, none⟩ (.slice sa (l.length - 1) sc)).cell? ⟨t, 3, none⟩ = some (.int .i64 (total (A ++ l :: C))) ∧ (w4.setCell ⟨rg, A.length, none⟩ (.slice sa (l.length - 1) sc)).frozen? ⟨t, 3, none⟩ = false) ∧
        ∀ W6, W6 = (w4.setCell ⟨rg, A.length, none⟩ (.slice sa (l.length - 1) sc)).setCell ⟨t, 3, none⟩ (.int .i64 ((total (A ++ l :: C) : Int) - 1)) →
          (W6.cell? ⟨t, 2, none⟩ = some (.slice (some ⟨rg, 0, none⟩) (A ++ l :: C).length lc) ∧ W6.cell? ⟨rg, A.length, none⟩ = some (.slice sa (l.length - 1) sc)) ∧
          (l.length - 1 = 0 → Hid (Calls Try.prog 160 #[.slice (some ⟨rg, 0, none⟩) (A ++ l :: C).length lc, .int .i64 A.length, .int .i64 ((A.length : Int) + 1)] W6 fun e w7 =>
            ∃ xa xn xc, e = .returned (.slice xa xn xc) ∧ (w7.cell? ⟨t, 2, none⟩).isSome = true ∧ w7.frozen? ⟨t, 2, none⟩ = false ∧ DropP B W t (A ++ l :: C) key (.returned (.bool true)) (w7.setCell ⟨t, 2, none⟩ (.slice xa xn xc)))) ∧
          (¬ l.length - 1 = 0 → Hid (Calls Try.prog 161 #[.pointer (some ⟨t, 2, none⟩), .int .i64 A.length] W6 fun e w7 => e = .returned (.tuple #[]) ∧
            Hid (Calls Try.prog 161 #[.pointer (some ⟨t, 2, none⟩), .int .i64 ((A.length : Int) - 1)] w7 fun e w8 => e = .returned (.tuple #[]) ∧ DropP B W t (A ++ l :: C) key (.returned (.bool true)) w8)))) := Lib.hid fun W1 hb1 => by
    obtain ⟨rg, lc, a, g, k, c, ha, ho⟩ := (h.below hb1).at_leaf
    obtain ⟨c1, c2, c3, hL, c4, _, c5, c6⟩ := ho.at_ ha
    exact ⟨rg, lc, g, k, ⟨c1, c2, c3, by simp at c4; omega, c6, c5⟩, drop_glue h hb1 ho ha hj rfl h6 h1 h2⟩
  have h50 := h.2.2.1
  have hlp : l.length ≤ total (A ++ l :: C) := leaf_le (by simp)
  obtain ⟨i, hi⟩ : ∃ i, i = A.length := ⟨_, rfl⟩
  obtain ⟨n, hn⟩ : ∃ n, n = (A ++ l :: C).length := ⟨_, rfl⟩
  have hil : i < n := by rw [hi, hn]; simp
  have hn5 : n ≤ 50000 := by rw [hn]; exact Nat.le_trans (ls_le h.2.1.1) h50
  obtain ⟨P, hP⟩ : ∃ P, P = DropP B W t (A ++ l :: C) key := ⟨_, rfl⟩
  rw [← hP] at HF ⊢
  obtain ⟨z, hz⟩ : ∃ z, z = total (A ++ l :: C) := ⟨_, rfl⟩
  rw [← hz] at HF h50 hlp
  obtain ⟨m1, hm1⟩ : ∃ m1, m1 = l.length - 1 := ⟨_, rfl⟩
  rw [← hm1] at HF
  obtain ⟨m, hm⟩ : ∃ m, m = l.length := ⟨_, rfl⟩
  rw [← hi, ← hn, ← hm] at HF
  rw [← hi] at hp
  rw [← hm] at hj hlp hm1
  have hw1 : IntKind.i64.wrap ((z : Int) - 1) = (z : Int) - 1 := by rw [IntKind.wrap_i64]; omega
  have hw2 : IntKind.i64.wrap ((i : Int) + 1) = (i : Int) + 1 := by rw [IntKind.wrap_i64]; omega
  have hw3 : IntKind.i64.wrap ((j : Int) + 1) = (j : Int) + 1 := by rw [IntKind.wrap_i64]; omega
  have hw4 : IntKind.i64.wrap ((i : Int) - 1) = (i : Int) - 1 := by rw [IntKind.wrap_i64]; omega
  have hj5 : j ≤ 50000 := by omega
  clear hP hi hn hm hz hp3 h1 h2 hk h6 h hm1
  by_cases hm0 : m1 = 0
  · subst hm0
    go_enter Try.func133, Try.ntmps133
    go_wp2_with fail
    refine hp.mono ?_
    rintro e w1 ⟨rfl, hb1⟩
    obtain ⟨rg, lc, g, k, ⟨c1, c2, c3, c4, c5, c6⟩, hI⟩ := HF.out w1 hb1
    have HI := Lib.hid hI
    clear hI HF hb1 hp
    go_wp2_with fail
    go_region_with ((go_at_call 159; refine HI.out.mono ?_; rintro e w4 ⟨sa, sc, rfl, ⟨y0, y1, y2⟩, ⟨y3, y4⟩, hG⟩; obtain ⟨⟨z0, z1⟩, hA, hB⟩ := hG _ rfl; clear hG))
    all_goals
      go_wp2_with fail
      refine (hA trivial).out.mono ?_
      rintro e w7 ⟨xa, xn, xc, rfl, q1, q2, hF⟩
      obtain ⟨zz, hz⟩ := Option.isSome_iff_exists.1 q1
      have HF := Lib.hid hF
      clear hF hA hB HI q1
      go_wp2
      exact HF.out
  · have hmI : ¬ (m1 : Int) = 0 := by omega
    go_enter Try.func133, Try.ntmps133
    go_wp2_with fail
    refine hp.mono ?_
    rintro e w1 ⟨rfl, hb1⟩
    obtain ⟨rg, lc, g, k, ⟨c1, c2, c3, c4, c5, c6⟩, hI⟩ := HF.out w1 hb1
    have HI := Lib.hid hI
    clear hI HF hb1 hp
    go_wp2_with fail
    go_region_with ((go_at_call 159; refine HI.out.mono ?_; rintro e w4 ⟨sa, sc, rfl, ⟨y0, y1, y2⟩, ⟨y3, y4⟩, hG⟩; obtain ⟨⟨z0, z1⟩, hA, hB⟩ := hG _ rfl; clear hG))
    all_goals
      go_wp2_with fail
      refine (hB hm0).out.mono ?_
      rintro e w7 ⟨rfl, hJ⟩
      have HJ := Lib.hid hJ
      clear hJ hA hB HI
      go_wp2_with fail
      refine HJ.out.out.mono ?_
      rintro e w8 ⟨rfl, hF⟩
      have HF := Lib.hid hF
      clear hF HJ
      go_wp2
      exact HF.out

theorem drop_any [hd : Inhabited Hd] {B : Nat → Prop} {W : World} {t : Nat} {ls : List (List KV)} (h : TreeAt B W t ls) (key : ByteArray) :
    Calls Try.prog 133 #[.pointer (some ⟨t, 2, none⟩), .string key] W (DropP B W t ls key) := by
  by_cases hne : ls = []
  · subst hne
    exact drop_no h key rfl rfl rfl
  · obtain ⟨A, l, C, e, hp, h1, h2, h3, h4⟩ := cut_spec h.2.1 hne key
    subst e
    obtain ⟨j, hj⟩ : ∃ j, j = atB (keysOf l) key := ⟨_, rfl⟩
    rw [← hj] at hp h1 h2 h4
    cases hb : isB (keysOf l) key with
    | true =>
      obtain ⟨hjl, hk, h5⟩ := h3 hb
      simp only [← hj] at hjl hk h5
      rw [hb] at hp
      exact drop_yes h key hjl hp hk h2 h5
    | false =>
      rw [hb] at hp
      obtain ⟨o1, _, o3⟩ := ops_no h2 (h4 hb)
      rw [← flat_no j] at o1 o3
      exact drop_no h key (by rw [hp]) o1 o3

end Go.Proofs.Ytcebnoapgceodaa.tC
