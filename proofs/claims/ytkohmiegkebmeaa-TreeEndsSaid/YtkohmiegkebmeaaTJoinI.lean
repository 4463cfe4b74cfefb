/-
  tree: join (trees of int).
-/
import Derived.Test.YtkohmiegkebmeaaTSplitI
import Derived.Test.YtkohmiegkebmeaaTDelIR
import Derived.StillTailTactics
namespace Go.Proofs.Ytkohmiegkebmeaa.tI
open Go.RowKit

set_option linter.unusedVariables false
attribute [local irreducible] wpStill

/-- what join leaves: the same keys, and no fewer leaves than the one it began at -/
def JoinP (B : Nat → Prop) (W : World) (t : Nat) (ls : List (List KV)) (sz : Nat) (i : Nat) (e : Ending) (W' : World) : Prop :=
  e = .returned (.tuple #[]) ∧ Ext B W W' ∧ ∃ rv ss ls', TreeOpen (Nu B W.heap.size) W' t rv ss ls' sz ∧ ls'.flatten = ls.flatten ∧ (∀ x ∈ ls', x ≠ []) ∧ i < ls'.length

theorem Ext.drew {B : Nat → Prop} {W W' : World} (h : Ext B W W') : Ext B W W'.drew := h

set_option maxHeartbeats 1000000 in
set_option maxRecDepth 100000 in
/-- no leaf behind it -/
theorem join_last {B : Nat → Prop} {W : World} {t rg lc sz : Nat} {a : List Value} {s : Value} {A : List (List KV)} {l : List KV} (h : TreeOpen B W t (.slice (some ⟨rg, 0, none⟩) (A ++ l :: []).length lc) (a ++ s :: []) (A ++ l :: []) sz) (ha : a.length = A.length) (hne : ∀ x ∈ A ++ l :: [], x ≠ []) (hn9 : (A ++ l :: []).length ≤ 90000) :
    Calls Try.prog 30 #[.pointer (some ⟨t, 0, none⟩), .int .i64 A.length] W (JoinP B W t (A ++ l :: []) sz A.length) := by
  obtain ⟨h1, _, h2, _, h4, h5, h6, h7⟩ := h.at_ ha
  have HF := Lib.hid (show JoinP B W t (A ++ l :: []) sz A.length (.returned (.tuple #[])) W.drew from ⟨rfl, (Ext.refl B W).drew, _, _, _, h.keep fun q hq _ => ⟨rfl, .inl hq⟩, rfl, hne, by simp⟩)
  obtain ⟨i, hi2⟩ : ∃ i, i = A.length := ⟨_, rfl⟩
  obtain ⟨n, hn⟩ : ∃ n, n = (A ++ l :: []).length := ⟨_, rfl⟩
  have hni : n = i + 1 := by rw [hn, hi2]; simp
  obtain ⟨P, hP⟩ : ∃ P, P = JoinP B W t (A ++ l :: []) sz A.length := ⟨_, rfl⟩
  rw [← hP] at HF ⊢
  rw [← hn] at h1 hn9
  rw [← hi2] at h2 ⊢
  clear hn hi2 hP h ha hne h4 h5
  subst hni
  have hw : IntKind.i64.wrap ((i : Int) + 1) = (i : Int) + 1 := by rw [IntKind.wrap_i64]; omega
  have hneg : ¬ (i : Int) < 0 := by omega
  go_enter Try.func30, Try.ntmps30
  go_wp2_with fail
  refine wp_region_still_lit (by kernel_rfl) (by kernel_rfl) ?_
  change wpStill _ _ (World.drew _) (fun a' => _) _ _
  repeat still_step
  refine wpStill_nil ?_
  go_wp2
  go_end0
  exact HF.out

/-- what is read of an open tree at two leaves side by side -/
theorem TreeOpen.at_two {B : Nat → Prop} {W : World} {t rg lc sz : Nat} {a c : List Value} {s sr : Value} {A C : List (List KV)} {l r : List KV} (h : TreeOpen B W t (.slice (some ⟨rg, 0, none⟩) (A ++ l :: r :: C).length lc) (a ++ s :: sr :: c) (A ++ l :: r :: C) sz) (ha : a.length = A.length) :
    W.cell? ⟨rg, A.length + 1, none⟩ = some sr ∧ LeafAt B W sr r := by
  have e1 : A ++ l :: r :: C = (A ++ [l]) ++ r :: C := by simp
  have e2 : a ++ s :: sr :: c = (a ++ [s]) ++ sr :: c := by simp
  rw [e1, e2] at h
  obtain ⟨_, _, c3, hL, _⟩ := h.at_ (by simp [ha])
  refine ⟨?_, hL⟩
  rw [show (A ++ [l]).length = A.length + 1 by simp] at c3
  exact c3

set_option maxHeartbeats 1000000 in
set_option maxRecDepth 100000 in
/-- two leaves with too many keys -/
theorem join_full {B : Nat → Prop} {W : World} {t rg lc sz : Nat} {a c : List Value} {s sr : Value} {A C : List (List KV)} {l r : List KV} (h : TreeOpen B W t (.slice (some ⟨rg, 0, none⟩) (A ++ l :: r :: C).length lc) (a ++ s :: sr :: c) (A ++ l :: r :: C) sz) (ha : a.length = A.length) (hne : ∀ x ∈ A ++ l :: r :: C, x ≠ []) (hn9 : (A ++ l :: r :: C).length ≤ 90000) (hl9 : l.length ≤ 90000) (hr9 : r.length ≤ 90000) (hs : 32 < l.length + r.length) :
    Calls Try.prog 30 #[.pointer (some ⟨t, 0, none⟩), .int .i64 A.length] W (JoinP B W t (A ++ l :: r :: C) sz A.length) := by
  obtain ⟨h1, _, h2, hL, h4, h5, h6, h7⟩ := h.at_ ha
  obtain ⟨h3, hR⟩ := h.at_two ha
  obtain ⟨sa, sc, rfl, _⟩ := hL.1.form
  obtain ⟨ra, rc, rfl, _⟩ := hR.1.form
  have HF := Lib.hid (show JoinP B W t (A ++ l :: r :: C) sz A.length (.returned (.tuple #[])) W.drew from ⟨rfl, (Ext.refl B W).drew, _, _, _, h.keep fun q hq _ => ⟨rfl, .inl hq⟩, rfl, hne, by simp⟩)
  obtain ⟨i, hi2⟩ : ∃ i, i = A.length := ⟨_, rfl⟩
  obtain ⟨n, hn⟩ : ∃ n, n = (A ++ l :: r :: C).length := ⟨_, rfl⟩
  have hni : i + 1 < n := by rw [hn, hi2]; simp
  obtain ⟨P, hP⟩ : ∃ P, P = JoinP B W t (A ++ l :: r :: C) sz A.length := ⟨_, rfl⟩
  obtain ⟨m, hm⟩ : ∃ m, m = l.length := ⟨_, rfl⟩
  obtain ⟨k, hk⟩ : ∃ k, k = r.length := ⟨_, rfl⟩
  rw [← hP] at HF ⊢
  rw [← hn] at h1 hn9 h4
  rw [← hi2] at h2 h3 ⊢
  rw [← hm] at h2 hs hl9
  rw [← hk] at h3 hs hr9
  clear hn hi2 hP h ha hne h5 hL hR hm hk
  have hw : IntKind.i64.wrap ((i : Int) + 1) = (i : Int) + 1 := by rw [IntKind.wrap_i64]; omega
  have hw2 : IntKind.i64.wrap ((m : Int) + (k : Int)) = (m : Int) + (k : Int) := by rw [IntKind.wrap_i64]; omega
  have hneg : ¬ (i : Int) < 0 := by omega
  have hge : ¬ (n : Int) ≤ (i : Int) + 1 := by omega
  have hgt : (32 : Int) < (m : Int) + (k : Int) := by omega
  have htn : ((i : Int) + 1).toNat = i + 1 := by omega
  have hi0 : (0 : Int) ≤ (i : Int) + 1 := by omega
  have hil : (i : Int) < (n : Int) := by omega
  have hil2 : (i : Int) + 1 < (n : Int) := by omega
  go_enter Try.func30, Try.ntmps30
  go_wp2_with fail
  refine wp_region_still_lit (by kernel_rfl) (by kernel_rfl) ?_
  change wpStill _ _ (World.drew _) (fun a' => _) _ _
  repeat still_step
  refine wpStill_nil ?_
  go_wp2
  go_end0
  exact HF.out

def JoinNo (W : World) (e : Ending) (w' : World) : Prop := e = .returned (.tuple #[]) ∧ w' = W.drew

set_option maxHeartbeats 1000000 in
set_option maxRecDepth 100000 in
/-- ahead of the first leaf -/
theorem join_neg (W : World) (t : Nat) (z : Int) (hz : z < 0) (hz2 : -10 ≤ z) :
    Calls Try.prog 30 #[.pointer (some ⟨t, 0, none⟩), .int .i64 z] W (JoinNo W) := by
  have hw : IntKind.i64.wrap (z + 1) = z + 1 := by rw [IntKind.wrap_i64]; omega
  go_enter Try.func30, Try.ntmps30
  go_wp2_with fail
  refine wp_region_still_lit (by kernel_rfl) (by kernel_rfl) ?_
  change wpStill _ _ (World.drew _) (fun a' => _) _ _
  repeat still_step
  refine wpStill_nil ?_
  go_wp2
  go_end0
  exact ⟨rfl, rfl⟩

end Go.Proofs.Ytkohmiegkebmeaa.tI
