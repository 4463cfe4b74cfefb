/-
  tree: Put into a tree without keys; Put (trees of chains).
-/
import Derived.Test.YtcebnoapgceodaaTPutC
namespace Go.Proofs.Ytcebnoapgceodaa.tC
open Go.RowKit

set_option linter.unusedVariables false

/-- the row of one empty leaf -/
theorem row_made [hd : Inhabited Hd] {B : Nat → Prop} {W : World} {t : Nat} (h : TreeAt B W t []) :
    TreeOpen (Nu B W.heap.size) ((W.alloc (.cells #[.slice none 0 0] 185)).setCell ⟨t, 2, none⟩ (.slice (some ⟨W.heap.size, 0, none⟩) 1 1)) t (.slice (some ⟨W.heap.size, 0, none⟩) (([] : List (List KV)) ++ [] :: []).length 1) ([] ++ .slice none 0 0 :: []) ([] ++ [] :: []) 0 ∧
    Ext B W ((W.alloc (.cells #[.slice none 0 0] 185)).setCell ⟨t, 2, none⟩ (.slice (some ⟨W.heap.size, 0, none⟩) 1 1)) := by
  obtain ⟨h1, _, _, rv, ss, ho⟩ := h
  have hb : Below W.heap.size W (W.alloc (.cells #[.slice none 0 0] 185)) := (Below.refl _ W).alloc (Nat.le_refl _) _
  refine ho.setRow (rv' := .slice (some ⟨W.heap.size, 0, none⟩) 1 1) (ss' := [.slice none 0 0]) (ls' := [[]]) ?_ ⟨⟨hb.os, hb.tape, hb.output, hb.size, fun k hk _ => hb.block k hk⟩, .inr fun k hk => ?_⟩ ⟨⟨⟨World.ownsRow_nil _ _ _ _, fun u hu => by cases hu⟩, fun q hq => by cases hq⟩, trivial⟩ (List.pairwise_singleton _ _)
  · exact RowK.mk (c := 1) (n := 1) (Box.new W _ _) rfl (Nat.zero_le _) (Nat.le_refl _) (by unfold maxLen; omega) rfl (fun q hq => by
      obtain rfl : q = 0 := by omega
      rfl) (fun u hu => by
      obtain rfl : u = .slice none 0 0 := by simpa using hu
      rfl)
  · have : W.heap.size = k := by simpa [Value.ownBlock] using hk
    omega

theorem row_make (w : World) : (Instr.makeSlice 101 (.int .i64 1) (.int .i64 1)).run Try.prog w = .ok (.slice (some ⟨w.heap.size, 0, none⟩) 1 1) (w.alloc (.cells #[.slice none 0 0] 185)) := by
  obtain ⟨i, hi, hz, hi1, hi2⟩ := info_parts tCR.infoE
  have h := run_makeSlice (P := Try.prog) w 101 185 i _ Try.underlying101 hi hz .i64 .i64 1 1 (by omega) (Int.le_refl _) (by rw [hi1]; decide) (by rw [hi2]; decide) (by decide)
  rw [hi1] at h
  have e : madeCells (Value.slice none 0 0).cells (Int.toNat 1 * 1) = #[.slice none 0 0] := by kernel_rfl
  rw [e] at h
  exact h

set_option maxHeartbeats 4000000 in
set_option maxRecDepth 100000 in
theorem put_empty [hd : Inhabited Hd] {B : Nat → Prop} {W : World} {t : Nat} (h : TreeAt B W t []) (key : ByteArray) (v : Option Addr × Nat × Nat) :
    Calls Try.prog 120 #[.pointer (some ⟨t, 2, none⟩), .string key, .slice v.1 v.2.1 v.2.2] W (PutP B W t [] key (.slice v.1 v.2.1 v.2.2)) := by
  have hp := place_any h key
  have hp3 : placeT [] key = (0, 0, false) := rfl
  rw [hp3] at hp
  dsimp only at hp
  have HF : Hid (∀ W1, Below W.heap.size W W1 → ∃ rv, (W1.cell? ⟨t, 2, none⟩ = some rv ∧ W1.cell? ⟨t, 3, none⟩ = some (.int .i64 0) ∧ W1.frozen? ⟨t, 2, none⟩ = false ∧ t < W1.heap.size) ∧
      ∀ W2, W2 = (W1.alloc (.cells #[.slice none 0 0] 185)).setCell ⟨t, 2, none⟩ (.slice (some ⟨W1.heap.size, 0, none⟩) 1 1) →
      (W2.cell? ⟨t, 2, none⟩ = some (.slice (some ⟨W1.heap.size, 0, none⟩) 1 1) ∧ W2.cell? ⟨t, 3, none⟩ = some (.int .i64 0) ∧ W2.cell? ⟨W1.heap.size, 0, none⟩ = some (.slice none 0 0) ∧ t < W2.heap.size ∧ W1.heap.size < W2.heap.size) ∧
      Calls Try.prog 147 #[.slice none 0 0, .int .i64 0, .slice (some ⟨W2.heap.size, 0, none⟩) 1 1] (W2.alloc (.cells #[.string key, .slice v.1 v.2.1 v.2.2] 184)).drew fun e w4 =>
      ∃ sa sn sc, e = .returned (.slice sa sn sc) ∧ (w4.cell? ⟨t, 2, none⟩ = some (.slice (some ⟨W1.heap.size, 0, none⟩) 1 1) ∧ w4.cell? ⟨W1.heap.size, 0, none⟩ = some (.slice none 0 0) ∧ w4.frozen? ⟨W1.heap.size, 0, none⟩ = false) ∧
        ((w4.setCell ⟨W1.heap.size, 0, none⟩ (.slice sa sn sc)).cell? ⟨t, 3, none⟩ = some (.int .i64 0) ∧ (w4.setCell ⟨W1.heap.size, 0, none⟩ (.slice sa sn sc)).frozen? ⟨t, 3, none⟩ = false) ∧
        Hid (Calls Try.prog 148 #[.pointer (some ⟨t, 2, none⟩), .int .i64 0] ((w4.setCell ⟨W1.heap.size, 0, none⟩ (.slice sa sn sc)).setCell ⟨t, 3, none⟩ (.int .i64 1)) fun e w7 =>
          e = .returned (.tuple #[]) ∧ PutP B W t [] key (.slice v.1 v.2.1 v.2.2) (.returned (.bool false)) w7)) := Lib.hid fun W1 hb1 => by
    obtain ⟨la, lc, hbx⟩ := (h.below hb1).box
    refine ⟨_, ⟨by have := hbx.cell 2; simpa using this, by have := hbx.cell 3; simpa [total] using this, hbx.free 2, hbx.lt⟩, fun W2 hW2 => ?_⟩
    obtain ⟨ho, hE⟩ := row_made (h.below hb1)
    rw [← hW2] at ho hE
    obtain ⟨c1, c2, c3, hL, c4, c5, c6, c7⟩ := ho.at_ rfl
    refine ⟨⟨c1, c2, c3, c7, c6⟩, ?_⟩
    exact put_glue (B := B) (W := W) (ls := []) (A := []) (C := []) (l := []) (a := []) (c := []) (j := 0) (ho.mono fun q hq => hq.elim (fun h => .inl h) (fun h => .inr (by have := hb1.size; omega))) rfl ((Ext.below hb1).trans (hE.mono fun q hq => .inl hq)) rfl (fun x hx => by cases hx) (fun x hx => by cases hx) (Nat.le_refl _) rfl (show (0 : Nat) < 50000 by decide) (fun p hp => by cases hp) (fun p hp => by cases hp) rfl h.2.1
  obtain ⟨P, hP⟩ : ∃ P, P = PutP B W t [] key (.slice v.1 v.2.1 v.2.2) := ⟨_, rfl⟩
  rw [← hP] at HF ⊢
  have hmk := row_make
  clear hP hp3 h
  go_enter Try.func120, Try.ntmps120
  go_wp2_with fail
  refine hp.mono ?_
  rintro e w1 ⟨rfl, hb1⟩
  obtain ⟨rv, ⟨c1, c2, c3, c4⟩, hG⟩ := HF.out w1 hb1
  have HG := Lib.hid hG
  clear hG HF hb1 hp
  go_wp2_with fail
  clear hmk
  rw [← World.setCell_alloc_past _ _ _ _ c4]
  obtain ⟨w2, hw2⟩ : ∃ w2, w2 = (w1.alloc (.cells #[.slice none 0 0] 185)).setCell ⟨t, 2, none⟩ (.slice (some ⟨w1.heap.size, 0, none⟩) 1 1) := ⟨_, rfl⟩
  rw [← hw2]
  obtain ⟨⟨d1, d2, d3, d4, d5⟩, hI⟩ := HG.out w2 hw2
  have HI := Lib.hid hI
  clear hI HG hw2 c1 c2 c3 c4
  generalize hr : w1.heap.size = r at *
  clear hr
  go_region_with ((go_at_call 147; refine HI.out.mono ?_; rintro e w4 ⟨sa, sn, sc, rfl, ⟨y0, y1, y2⟩, ⟨y3, y4⟩, hS⟩))
  all_goals
    go_wp2_with fail
    refine hS.out.mono ?_
    rintro e w7 ⟨rfl, hF⟩
    have HF := Lib.hid hF
    clear hF hS HI
    go_wp2
    exact HF.out

theorem put_any [hd : Inhabited Hd] {B : Nat → Prop} {W : World} {t : Nat} {ls : List (List KV)} (h : TreeAt B W t ls) (h50 : total ls < 50000) (key : ByteArray) (v : Option Addr × Nat × Nat) :
    Calls Try.prog 120 #[.pointer (some ⟨t, 2, none⟩), .string key, .slice v.1 v.2.1 v.2.2] W (PutP B W t ls key (.slice v.1 v.2.1 v.2.2)) := by
  by_cases hne : ls = []
  · subst hne
    exact put_empty h key v
  · obtain ⟨A, l, C, e, hp, h1, h2, h3, h4⟩ := cut_spec h.2.1 hne key
    subst e
    obtain ⟨j, hj⟩ : ∃ j, j = atB (keysOf l) key := ⟨_, rfl⟩
    rw [← hj] at hp h1 h2 h4
    cases hb : isB (keysOf l) key with
    | true =>
      obtain ⟨hjl, hk, h5⟩ := h3 hb
      simp only [← hj] at hjl hk h5
      rw [hb] at hp
      exact put_is h key v hjl hp hk h2 h5
    | false =>
      rw [hb] at hp
      exact put_no h h50 key v h1 hp h2 (h4 hb)

end Go.Proofs.Ytcebnoapgceodaa.tC
