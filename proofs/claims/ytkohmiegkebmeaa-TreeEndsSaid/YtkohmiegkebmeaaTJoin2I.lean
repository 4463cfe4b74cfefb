/-
  tree: join, where two leaves become one (trees of int).
-/
import Derived.Test.YtkohmiegkebmeaaTJoinI
import Derived.Test.YtkohmiegkebmeaaTDelIE
import Derived.StillTailTactics
namespace Go.Proofs.Ytkohmiegkebmeaa.tI
open Go.RowKit

set_option linter.unusedVariables false
attribute [local irreducible] wpStill

theorem join_glue {B : Nat → Prop} {W : World} {t rg lc sz : Nat} {a c : List Value} {s sr : Value} {A C : List (List KV)} {l r : List KV} (h : TreeOpen B W t (.slice (some ⟨rg, 0, none⟩) (A ++ l :: r :: C).length lc) (a ++ s :: sr :: c) (A ++ l :: r :: C) sz) (ha : a.length = A.length) (hne : ∀ x ∈ A ++ l :: r :: C, x ≠ []) (hn9 : (A ++ l :: r :: C).length ≤ 90000) (hs : l.length + r.length ≤ 32) :
    ∃ va vn vc w', (Builtin.append_ #[65, 65] 65 #[s, sr]).run Try.prog W = .ok (.slice va vn vc) w' ∧
      (w'.cell? ⟨t, 0, none⟩ = some (.slice (some ⟨rg, 0, none⟩) (A ++ l :: r :: C).length lc) ∧ w'.cell? ⟨rg, A.length, none⟩ = some s ∧ w'.frozen? ⟨rg, A.length, none⟩ = false) ∧
      (w'.setCell ⟨rg, A.length, none⟩ (.slice va vn vc)).cell? ⟨t, 0, none⟩ = some (.slice (some ⟨rg, 0, none⟩) (A ++ l :: r :: C).length lc) ∧
      Hid (Calls Try.prog 29 #[.slice (some ⟨rg, 0, none⟩) (A ++ l :: r :: C).length lc, .int .i64 ((A.length : Int) + 1), .int .i64 ((A.length : Int) + 1 + 1)] (w'.setCell ⟨rg, A.length, none⟩ (.slice va vn vc)) fun e w5 =>
        ∃ xa xn xc, e = .returned (.slice xa xn xc) ∧ (w5.cell? ⟨t, 0, none⟩).isSome = true ∧ w5.frozen? ⟨t, 0, none⟩ = false ∧ JoinP B W t (A ++ l :: r :: C) sz A.length (.returned (.tuple #[])) (w5.setCell ⟨t, 0, none⟩ (.slice xa xn xc))) := by
  obtain ⟨c1, _, c2, hL, c4, _, hrg, htl⟩ := h.at_ ha
  obtain ⟨c3, hR⟩ := h.at_two ha
  obtain ⟨ra, rc, rfl, _⟩ := hR.1.form
  have hrne : r ≠ [] := hne r (by simp)
  obtain ⟨gr, rfl, _, _, hcells⟩ := hR.1.at_ (List.length_pos_iff.2 hrne)
  obtain ⟨ti, hti, hz, hi1, hi2⟩ := info_parts tIEd.infoE
  obtain ⟨v', w', hr, ho', hu⟩ := run_app (P := Try.prog) W 0 65 65 67 ti _ 2 24 Try.underlying65 hti hz hi1 hi2 rfl (by decide) s l.length (ecells l) hL.1.1 ⟨gr, 0, none⟩ r.length rc (ecells r) (ecells_length r) (fun j u hj => by rw [addr_at]; exact hcells j u hj) hR.1.2 (by unfold maxLen; omega) (by omega) (Nat.zero_le _)
  have hrow : RowK 67 2 0 w' v' (l ++ r).length (ecells (l ++ r)) := by
    rw [List.length_append, ecells_append]
    exact ⟨ho', fun u hu => (List.mem_append.1 hu).elim (hL.1.2 u) (hR.1.2 u)⟩
  obtain ⟨hT3, hE3⟩ := h.setLeaf ha hrow hu
  obtain ⟨va, vc, rfl, _⟩ := hrow.form
  have hsr : s.ownBlock ≠ some rg ∧ s.ownBlock ≠ some t := by
    constructor
    · intro e
      obtain ⟨arr, hq⟩ := rowk_box hL.1 e
      obtain ⟨arr2, hq2⟩ := rowk_box h.2.2.1 (g := rg) rfl
      exact box_ne hq hq2 (by decide) rfl
    · intro e
      obtain ⟨arr, hq⟩ := rowk_box hL.1 e
      exact box_ne hq h.2.1 (by decide) rfl
  have k1 := hu.1.block t htl fun e => hsr.2 e.symm
  have k2 := hu.1.block rg hrg fun e => hsr.1 e.symm
  obtain ⟨arr2, hq2⟩ := rowk_box h.2.2.1 (g := rg) rfl
  have hs1 := hu.1.size
  refine ⟨va, _, vc, w', hr, ⟨(World.cell?_of_block (a := ⟨t, 0, none⟩) k1).trans c1, (World.cell?_of_block (a := ⟨rg, A.length, none⟩) k2).trans c2, (World.frozen?_of_block (a := ⟨rg, A.length, none⟩) k2).trans (hq2.free _)⟩, ?_, ?_⟩
  · have d1 := hT3.2.1.cell 0
    simpa using d1
  obtain ⟨W3, hW3⟩ : ∃ W3, W3 = w'.setCell ⟨rg, A.length, none⟩ (.slice va (l ++ r).length vc) := ⟨_, rfl⟩
  rw [← hW3] at hT3 hE3 ⊢
  refine Lib.hid ?_
  have hlen3 : (A ++ l :: r :: C).length = (A ++ (l ++ r) :: r :: C).length := by simp
  rw [hlen3] at hT3
  have hd := tIRd.del_any (i := A.length + 1) (j := A.length + 2) hT3.2.2.1 (by rw [← hlen3]; omega) (by omega) (by simp)
  have e1 : ((A.length + 1 : Nat) : Int) = (A.length : Int) + 1 := by omega
  have e2 : ((A.length + 2 : Nat) : Int) = (A.length : Int) + 1 + 1 := by omega
  rw [e1, e2, ← hlen3] at hd
  refine hd.mono ?_
  rintro e w5 ⟨v5, rfl, hr5, hu5⟩
  have eC : tIRd.delC (a ++ .slice va (l ++ r).length vc :: .slice (some ⟨gr, 0, none⟩) r.length rc :: c) (A.length + 1) (A.length + 2) = a ++ .slice va (l ++ r).length vc :: c := by
    unfold tIRd.delC
    have e3 : a ++ .slice va (l ++ r).length vc :: .slice (some ⟨gr, 0, none⟩) r.length rc :: c = (a ++ [.slice va (l ++ r).length vc]) ++ ([.slice (some ⟨gr, 0, none⟩) r.length rc] ++ c) := by simp
    have e4 : (A.length + 1) * 1 = (a ++ [Value.slice va (l ++ r).length vc]).length := by simp [ha]
    have e5 : (A.length + 2) * 1 = ((a ++ [Value.slice va (l ++ r).length vc]) ++ [Value.slice (some ⟨gr, 0, none⟩) r.length rc]).length := by simp [ha]
    rw [e3, e4, List.take_left' rfl, ← List.append_assoc, e5, List.drop_left' rfl]
    simp
  rw [eC] at hr5
  have hcount : A.length + 1 + ((A ++ l :: r :: C).length - (A.length + 2)) = (A ++ (l ++ r) :: C).length := by simp; omega
  rw [hcount] at hr5
  obtain ⟨a', c', e, e6, hla, hlc⟩ := hT3.2.2.2.2.1.cut
  obtain ⟨rfl, rfl⟩ : a' = a ∧ c' = .slice va (l ++ r).length vc :: .slice (some ⟨gr, 0, none⟩) r.length rc :: c := by
    have := List.append_inj e (by omega)
    exact ⟨this.1.symm, this.2.symm⟩
  have hsub : (a' ++ .slice va (l ++ r).length vc :: c).Pairwise Ap := hT3.2.2.2.2.2.sublist (by
    refine List.Sublist.append (List.Sublist.refl _) ?_
    exact List.Sublist.cons_cons _ (List.Sublist.cons _ (List.Sublist.refl _)))
  rw [← hlen3] at hT3
  obtain ⟨hT5, hE5⟩ := hT3.setRow (ss' := a' ++ .slice va (l ++ r).length vc :: c) (ls' := A ++ (l ++ r) :: C) hr5 hu5 (hla.join ⟨hlc.1, hlc.2.2⟩) hsub
  obtain ⟨xa, xc, rfl, _⟩ := hr5.form
  have hbt3 := hT3.2.1
  have hrt : some t ≠ (Value.slice (some ⟨rg, 0, none⟩) (A ++ l :: r :: C).length lc).ownBlock := fun e => by
    have : rg = t := by simpa [Value.ownBlock] using e.symm
    exact box_ne hq2 h.2.1 (by decide) this
  have hbt5 : Box w5 t 47 #[.slice (some ⟨rg, 0, none⟩) (A ++ l :: r :: C).length lc, .int .i64 sz] := (hu5.1.block t hbt3.lt hrt).trans hbt3
  have hs3 := hE3.2.2.2.1
  refine ⟨xa, _, xc, rfl, by rw [hbt5.cell]; rfl, hbt5.free _, rfl, hE3.trans hE5, _, _, _, hT5.mono fun q hq => ?_, ?_, fun x hx => ?_, ?_⟩
  · rcases hq with hq | hq
    · exact hq
    · exact .inr (by omega)
  · simp only [List.flatten_append, List.flatten_cons, List.append_assoc]
  · rcases List.mem_append.1 hx with hx | hx
    · exact hne x (List.mem_append_left _ hx)
    · rcases List.mem_cons.1 hx with rfl | hx
      · intro e
        exact hrne (List.append_eq_nil_iff.1 e).2
      · exact hne x (by simp [hx])
  · simp

set_option maxHeartbeats 4000000 in
set_option maxRecDepth 100000 in
attribute [-go_sem] Builtin.append_ in
/-- two leaves become one -/
theorem join_both {B : Nat → Prop} {W : World} {t rg lc sz : Nat} {a c : List Value} {s sr : Value} {A C : List (List KV)} {l r : List KV} (h : TreeOpen B W t (.slice (some ⟨rg, 0, none⟩) (A ++ l :: r :: C).length lc) (a ++ s :: sr :: c) (A ++ l :: r :: C) sz) (ha : a.length = A.length) (hne : ∀ x ∈ A ++ l :: r :: C, x ≠ []) (hn9 : (A ++ l :: r :: C).length ≤ 90000) (hs : l.length + r.length ≤ 32) :
    Calls Try.prog 30 #[.pointer (some ⟨t, 0, none⟩), .int .i64 A.length] W (JoinP B W t (A ++ l :: r :: C) sz A.length) := by
  have hd2 : TreeOpen B W.drew.drew t (.slice (some ⟨rg, 0, none⟩) (A ++ l :: r :: C).length lc) (a ++ s :: sr :: c) (A ++ l :: r :: C) sz := h.keep fun q hq _ => ⟨rfl, hq⟩
  obtain ⟨va, vn, vc, w', hr, ⟨y0, y1, y2⟩, y3, hD⟩ := join_glue hd2 ha hne hn9 hs
  obtain ⟨h1, _, h2, hL, h4, h5, h6, h7⟩ := h.at_ ha
  obtain ⟨h3, hR⟩ := h.at_two ha
  obtain ⟨sa, sc, rfl, _⟩ := hL.1.form
  obtain ⟨ra, rc, rfl, _⟩ := hR.1.form
  have hJ : JoinP B W.drew.drew t (A ++ l :: r :: C) sz A.length = JoinP B W t (A ++ l :: r :: C) sz A.length := rfl
  rw [hJ] at hD
  obtain ⟨P, hP⟩ : ∃ P, P = JoinP B W t (A ++ l :: r :: C) sz A.length := ⟨_, rfl⟩
  rw [← hP] at hD ⊢
  obtain ⟨i, hi2⟩ : ∃ i, i = A.length := ⟨_, rfl⟩
  obtain ⟨n, hn⟩ : ∃ n, n = (A ++ l :: r :: C).length := ⟨_, rfl⟩
  have hni : i + 1 < n := by rw [hn, hi2]; simp
  obtain ⟨m, hm⟩ : ∃ m, m = l.length := ⟨_, rfl⟩
  obtain ⟨k, hk⟩ : ∃ k, k = r.length := ⟨_, rfl⟩
  rw [← hn] at h1 hn9 h4 y0 y3 hD
  rw [← hi2] at h2 h3 y1 y2 y3 hD ⊢
  rw [← hm] at h2 hs hr y1
  rw [← hk] at h3 hs hr
  clear hn hi2 hP hJ h hd2 ha hne h5 hL hR hm hk
  have hw : IntKind.i64.wrap ((i : Int) + 1) = (i : Int) + 1 := by rw [IntKind.wrap_i64]; omega
  have hw3 : IntKind.i64.wrap ((i : Int) + 1 + 1) = (i : Int) + 1 + 1 := by rw [IntKind.wrap_i64]; omega
  have hw2 : IntKind.i64.wrap ((m : Int) + (k : Int)) = (m : Int) + (k : Int) := by rw [IntKind.wrap_i64]; omega
  have hneg : ¬ (i : Int) < 0 := by omega
  have hge : ¬ (n : Int) ≤ (i : Int) + 1 := by omega
  have hgt : ¬ (32 : Int) < (m : Int) + (k : Int) := by omega
  have htn : ((i : Int) + 1).toNat = i + 1 := by omega
  have hi0 : (0 : Int) ≤ (i : Int) + 1 := by omega
  have hil : (i : Int) < (n : Int) := by omega
  have hil2 : (i : Int) + 1 < (n : Int) := by omega
  go_enter Try.func30, Try.ntmps30
  go_wp2_with fail
  refine wp_region_still_lit (by kernel_rfl) (by kernel_rfl) ?_
  change wpStill _ _ (World.drew _) (fun a' => _) _ _
  repeat still_step
  refine wpStill_nil ?_
  change Exit.then _ _ _ _ (World.drew _)
  go_wp2_with fail
  go_region
  all_goals
    go_wp2_with fail
    refine hD.out.mono ?_
    rintro e w5 ⟨wa, wn, wc, rfl, z1, z2, hF⟩
    obtain ⟨zz, hz⟩ := Option.isSome_iff_exists.1 z1
    have HF := Lib.hid hF
    clear hF hD z1
    go_wp2
    go_end0
    exact HF.out

end Go.Proofs.Ytkohmiegkebmeaa.tI
