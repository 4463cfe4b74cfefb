/-
  mailbaglaw07.head.
-/
import Derived.Test.YtgjgiokdplglbaaChQ
import Derived.Test.YtgjgiokdplglbaaCopyK
namespace Go.Proofs.Ytgjgiokdplglbaa
open Go.RowKit

def ch3 : List Ver := [⟨1, ⟨#[97]⟩, false⟩, ⟨4, ⟨#[]⟩, true⟩, ⟨6, ⟨#[98]⟩, false⟩]

theorem ch3_upto {r : Nat} (h : UpTo ch3 5 r) : r = 2 := by
  obtain ⟨h1, h2, h3⟩ := h
  have h1' : r ≤ 3 := h1
  rcases Nat.lt_or_ge r 2 with h | h
  · have h4 : (5 : Int) < 4 := h3 1 (by decide) (by omega)
    omega
  · rcases Nat.lt_or_ge 2 r with h | h
    · have h4 : (6 : Int) ≤ 5 := h2 2 (by decide) (by omega)
      omega
    · omega

theorem ch3_rise : Rise ch3 := by
  intro i j hij hj
  have hj' : j < 3 := hj
  rcases (show (i = 0 ∧ j = 0) ∨ (i = 0 ∧ j = 1) ∨ (i = 0 ∧ j = 2) ∨ (i = 1 ∧ j = 1) ∨ (i = 1 ∧ j = 2) ∨ (i = 2 ∧ j = 2) by omega) with h | h | h | h | h | h <;> obtain ⟨rfl, rfl⟩ := h <;> simp [ch3]

theorem ch3_right : rightC ch3 = true := by decide +kernel
theorem ch3_last : lastI ch3 = 6 := rfl

def CutOK (w' : World) (e : Ending) : Prop := ∃ q, e = .returned (.slice (some ⟨q, 0, none⟩) 1 1) ∧ w'.cell? ⟨q, 0, none⟩ = some (.int .i64 6)

theorem cut_make : ∃ arr : Array Value, arr.size = 3 ∧ ∀ w, (Instr.makeSlice 62 (.int .i64 1) (.int .i64 1)).run Try.prog w = .ok (.slice (some ⟨w.heap.size, 0, none⟩) 1 1) (w.alloc (.cells arr 64)) := by
  obtain ⟨i, hi, hz, hi1, hi2⟩ := info_parts infoVer
  refine ⟨madeCells (Value.agg #[.int .i64 0, .string ⟨#[]⟩, .bool false]).cells 3, size_madeCells _ _, fun w => ?_⟩
  have h := run_makeSlice (P := Try.prog) w 62 64 i _ Try.underlying62 hi hz .i64 .i64 1 1 (by omega) (Int.le_refl _) (by rw [hi1]; decide) (by rw [hi2]; decide) (by decide)
  rw [hi1] at h
  exact h

/-- the copy of one version into a row just made -/
theorem copy_one (w1 : World) (arr : Array Value) (h3 : arr.size = 3) (b o : Nat) (c0 c1 c2 : Value) (hlt : b < w1.heap.size) (d0 : w1.cell? ⟨b, o, none⟩ = some c0) (d1 : w1.cell? ⟨b, o + 1, none⟩ = some c1) (d2 : w1.cell? ⟨b, o + 2, none⟩ = some c2)
    (e0 : c0.oneCell' = true) (e1 : c1.oneCell' = true) (e2 : c2.oneCell' = true) :
    ∃ W2, (∀ ty m, (Builtin.copy_ #[62, 62] ty #[.slice (some ⟨w1.heap.size, 0, none⟩) 1 1, .slice (some ⟨b, o, none⟩) 1 m]).run Try.prog (w1.alloc (.cells arr 64)) = .ok (goInt 1) W2) ∧ W2.cell? ⟨w1.heap.size, 0, none⟩ = some c0 ∧ Below w1.heap.size w1 W2 := by
  have hbW : Below w1.heap.size w1 (w1.alloc (.cells arr 64)) := (Below.refl _ _).alloc (Nat.le_refl _) _
  have hsome : ∀ j, j < 3 → ((w1.alloc (.cells arr 64)).cell? ⟨w1.heap.size, 0 + j, none⟩).isSome = true := fun j hj => by
    rw [World.cell?_alloc_at _ _ _ _ (by omega)]; simp; omega
  have hfr : ∀ j, (w1.alloc (.cells arr 64)).frozen? ⟨w1.heap.size, 0 + j, none⟩ = false := fun j => by simp
  refine ⟨(w1.alloc (.cells arr 64)).setCells w1.heap.size 0 [c0, c1, c2], fun ty m => ?_, ?_, ?_⟩
  · obtain ⟨i, hi, hz, hi1, hi2⟩ := info_parts infoVer
    refine run_copy_cellsK _ 62 62 ty 64 3 w1.heap.size 0 1 1 ⟨b, o, none⟩ 1 m 1 [c0, c1, c2] Try.underlying62 (by rw [hi]; simp [hi1]) rfl rfl (fun j v hj => ?_) (fun j hj => hsome j hj) (fun j _ => hfr j) (fun v hv => ?_)
    · match j, hj with
      | 0, hj => simp at hj; subst hj; exact (hbW.cell (p := ⟨b, o, none⟩) hlt).trans d0
      | 1, hj => simp at hj; subst hj; exact (hbW.cell (p := ⟨b, o + 1, none⟩) hlt).trans d1
      | 2, hj => simp at hj; subst hj; exact (hbW.cell (p := ⟨b, o + 2, none⟩) hlt).trans d2
    · simp at hv; rcases hv with rfl | rfl | rfl <;> assumption
  · have h := World.cell?_setCells_in w1.heap.size [c0, c1, c2] 0 (w1.alloc (.cells arr 64)) (fun j hj => hsome j hj) 0 (by simp)
    simpa using h
  · simp only [World.setCells]
    exact (((hbW.setCell (Nat.le_refl _) _).setCell (Nat.le_refl _) _).setCell (Nat.le_refl _) _)

set_option maxRecDepth 100000 in
theorem cut_head (b : Nat) (w : World) (hlt : b < w.heap.size) (hv : VersAt w b 0 ch3) :
    Calls Try.prog 43 #[.slice (some ⟨b, 0, none⟩) 3 3, .int .i64 5] w fun e w' => CutOK w' e ∧ Below w.heap.size w w' := by
  have HU := Lib.hid (upto_any (some ⟨b, 0, none⟩) 3 ch3 5 w ⟨by decide, .inr ⟨b, 0, rfl, hlt, hv⟩⟩ (by decide) ch3_rise)
  have HV := Lib.hid hv
  obtain ⟨arr, ha, hmk⟩ := cut_make
  have HA := Lib.hid ha
  clear ha
  clear hv
  go_enter Try.func43, Try.ntmps43
  go_wp2_with fail
  refine HU.out.mono ?_
  rintro e w1 ⟨⟨r, hr, rfl⟩, hb1⟩
  obtain rfl := ch3_upto hr
  clear hr
  have hv1 := HV.out.below hb1 hlt
  have hz1 := hb1.size
  obtain ⟨_, _, c2⟩ := hv1 1 (by decide)
  obtain ⟨d0, d1, d2⟩ := hv1 2 (by decide)
  clear hv1
  change w1.cell? ⟨b, 5, none⟩ = some (.bool true) at c2
  change w1.cell? ⟨b, 6, none⟩ = some (.int .i64 6) at d0
  change w1.cell? ⟨b, 7, none⟩ = some (.string ⟨#[98]⟩) at d1
  change w1.cell? ⟨b, 8, none⟩ = some (.bool false) at d2
  obtain ⟨W2, hcp, hc, hB⟩ := copy_one w1 arr HA.out b 6 _ _ _ (by omega) d0 d1 d2 rfl rfl rfl
  have HC := Lib.hid hc
  have HB := Lib.hid hB
  have HB1 := Lib.hid (hb1.trans (hB.mono hz1))
  have HCP := Lib.hid hcp
  clear hcp hc hB d0 d1 d2 hb1
  have hcp := HCP.out
  go_wp2
  go_ret
  exact ⟨⟨_, rfl, HC.out⟩, HB1.out⟩

theorem ch3_new (w : World) (T : TypeId) : VersAt (w.alloc (.cells #[.int .i64 1, .string ⟨#[97]⟩, .bool false, .int .i64 4, .string ⟨#[]⟩, .bool true, .int .i64 6, .string ⟨#[98]⟩, .bool false] T)) w.heap.size 0 ch3 := by
  intro i hi
  have hi' : i < 3 := hi
  rcases (show i = 0 ∨ i = 1 ∨ i = 2 by omega) with rfl | rfl | rfl <;> refine ⟨?_, ?_, ?_⟩ <;> simp [ch3]

set_option maxRecDepth 100000 in
set_option maxHeartbeats 1000000 in
theorem ch_head (w : World) : Calls Try.prog 25 #[] w fun e w' => e = .returned (.bool true) ∧ Below w.heap.size w w' := by
  have hn := ch3_new w 64
  have hb0 : Below w.heap.size w (w.alloc (.cells #[.int .i64 1, .string ⟨#[97]⟩, .bool false, .int .i64 4, .string ⟨#[]⟩, .bool true, .int .i64 6, .string ⟨#[98]⟩, .bool false] 64)) := (Below.refl _ _).alloc (Nat.le_refl _) _
  have hz0 : w.heap.size < (w.alloc (.cells #[.int .i64 1, .string ⟨#[97]⟩, .bool false, .int .i64 4, .string ⟨#[]⟩, .bool true, .int .i64 6, .string ⟨#[98]⟩, .bool false] 64)).heap.size := by simp
  obtain ⟨g, hg⟩ : ∃ g, g = w.heap.size := ⟨_, rfl⟩
  have HN : Hid (∀ W, Below (w.alloc (.cells #[.int .i64 1, .string ⟨#[97]⟩, .bool false, .int .i64 4, .string ⟨#[]⟩, .bool true, .int .i64 6, .string ⟨#[98]⟩, .bool false] 64)).heap.size (w.alloc (.cells #[.int .i64 1, .string ⟨#[97]⟩, .bool false, .int .i64 4, .string ⟨#[]⟩, .bool true, .int .i64 6, .string ⟨#[98]⟩, .bool false] 64)) W →
      ChIs W (some ⟨w.heap.size, 0, none⟩) ch3 ∧ VersAt W w.heap.size 0 ch3 ∧ w.heap.size < W.heap.size ∧ Below w.heap.size w W) := Lib.hid fun W hB =>
    ⟨⟨by decide, .inr ⟨_, 0, rfl, Nat.lt_of_lt_of_le hz0 hB.size, hn.below hB hz0⟩⟩, hn.below hB hz0, Nat.lt_of_lt_of_le hz0 hB.size, hb0.trans (hB.mono (by simp))⟩
  clear hn hb0 hz0 hg
  go_enter Try.func25, Try.ntmps25
  go_wp2_with fail
  refine (at_any (some ⟨w.heap.size, 0, none⟩) 3 ch3 5 _ (HN.out _ (Below.refl _ _)).1 (by decide) ch3_rise).mono ?_
  rintro e w1 ⟨⟨r, hr, rfl⟩, hb1⟩
  obtain rfl := ch3_upto hr
  clear hr
  have H1 := Lib.hid hb1
  clear hb1
  go_wp2_with fail
  refine (cut_head w.heap.size w1 (HN.out _ H1.out).2.2.1 (HN.out _ H1.out).2.1).mono ?_
  rintro e w2 ⟨⟨q, rfl, hq⟩, hb2⟩
  have H2 := Lib.hid (H1.out.trans (hb2.mono H1.out.size))
  clear hb2
  have hR := right_any' (some ⟨w.heap.size, 0, none⟩) 3 ch3 w2 (HN.out _ H2.out).1 (by decide) (by omega)
  rw [ch3_right] at hR
  have HR := Lib.hid hR
  clear hR
  go_wp2_with fail
  refine HR.out.mono ?_
  rintro e w3 ⟨rfl, hb3⟩
  have H3 := Lib.hid (H2.out.trans (hb3.mono H2.out.size))
  have hL := last_any (some ⟨w.heap.size, 0, none⟩) 3 ch3 w3 (HN.out _ H3.out).1
  rw [ch3_last] at hL
  have HL := Lib.hid hL
  clear hL hb3
  go_wp2_with fail
  refine HL.out.mono ?_
  rintro e w4 ⟨rfl, rfl⟩
  go_wp2
  go_ret
  exact ⟨rfl, (HN.out _ H3.out).2.2.2⟩

end Go.Proofs.Ytgjgiokdplglbaa
