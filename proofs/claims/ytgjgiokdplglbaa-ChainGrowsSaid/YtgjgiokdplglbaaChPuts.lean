/-
  The walk of mailbaglaw07.ChainPuts.
-/
import Derived.Test.YtgjgiokdplglbaaChL
import Derived.Test.YtgjgiokdplglbaaMid
import Derived.Deep.DeepCutAuto
import Derived.Outline
namespace Go.Proofs.Ytgjgiokdplglbaa.chainPuts
open Go.RowKit

attribute [local irreducible] wpStill

/-- what the law takes for right: 'ok' -/
theorem fol_no (s : Int) (t : ByteArray) (g : Bool) (la : Int) (hn : Ver.folB ⟨s, t, g⟩ la = false) (h0 : 0 ≤ s) (h1 : s ≤ 1099511627776) (h2 : la < s) : g = true ∧ t.toList.isEmpty = false := by
  rw [fol_law, decide_eq_true h0, decide_eq_true h1, decide_eq_true h2] at hn
  simp only [Bool.true_and] at hn
  cases g
  · simp at hn
  · simpa using hn

theorem fol_yes (s : Int) (t : ByteArray) (g : Bool) (la : Int) (hn : Ver.folB ⟨s, t, g⟩ la = true) : 0 ≤ s ∧ s ≤ 1099511627776 ∧ la < s ∧ (g = true → t.toList = []) := by
  rw [fol_law, Bool.and_eq_true, Bool.and_eq_true, Bool.and_eq_true] at hn
  obtain ⟨h1, h2, h3, h4⟩ := hn
  refine ⟨of_decide_eq_true h2, of_decide_eq_true h3, of_decide_eq_true h1, fun hg => ?_⟩
  subst hg
  simpa using h4

set_option maxHeartbeats 4000000 in
set_option maxRecDepth 100000 in
theorem walk_no {w : World} (a : Option Addr) (cap : Nat) (vs : List Ver) (hc : ChIs w a vs) (hle : vs.length ≤ 60) (hR : rightC vs = true) (s : Int) (t : ByteArray) (g : Bool) (hf : Ver.folB ⟨s, t, g⟩ (lastI vs) = false) :
    Calls Try.prog 9 #[.slice a vs.length cap, .agg #[.int .i64 s, .string t, .bool g]] w fun e w' => e = .returned (.bool true) ∧ Below w.heap.size w w' := by
  have HW : Hid (∀ W, Below (w.alloc (.cells #[.int .i64 s, .string t, .bool g] 64)).heap.size (w.alloc (.cells #[.int .i64 s, .string t, .bool g] 64)) W →
      ChIs W a vs ∧ Below w.heap.size w W ∧ W.cell? ⟨w.heap.size, 0, none⟩ = some (.int .i64 s) ∧ W.cell? ⟨w.heap.size, 1, none⟩ = some (.string t) ∧ W.cell? ⟨w.heap.size, 2, none⟩ = some (.bool g)) := Lib.hid fun W hB =>
    have hB' := ((Below.refl w.heap.size w).alloc (Nat.le_refl _) (.cells #[.int .i64 s, .string t, .bool g] 64)).trans (hB.mono (by simp))
    ⟨hc.below hB', hB', new3 hB⟩
  have HF := Lib.hid hf
  have HR := Lib.hid hR
  clear hf hR hc
  have hle' : ¬ (60 : Int) < (vs.length : Int) := by omega
  go_enter Try.func9, Try.ntmps9
  go_wp2_with fail
  refine (ch_head _).mono ?_
  rintro e w1 ⟨rfl, hb1⟩
  have H1 := Lib.hid hb1
  clear hb1
  have hr := lright_any a cap vs w1 (HW.out _ H1.out).1
  rw [HR.out] at hr
  have HRR := Lib.hid hr
  clear hr
  go_wp2_with fail
  refine HRR.out.mono ?_
  rintro e w2 ⟨rfl, hb2⟩
  have H2 := Lib.hid (H1.out.trans (hb2.mono H1.out.size))
  clear hb2 HRR
  obtain ⟨hch, _, c0, c1, c2⟩ := HW.out _ H2.out
  have HP := Lib.hid (put_no a cap vs s t g w2 hch HF.out)
  clear hch
  go_wp2_with fail
  refine HP.out.mono ?_
  rintro e w3 ⟨rfl, hb3⟩
  have H3 := Lib.hid (H2.out.trans (hb3.mono H2.out.size))
  clear hb3 HP c0 c1 c2
  obtain ⟨hch, hbw, c0, c1, c2⟩ := HW.out _ H3.out
  have HB := Lib.hid (fun q => below_drewN' hbw q)
  have HCH := Lib.hid hch
  clear hbw hch
  by_cases h1 : s < 0
  · have d1 : decide (0 ≤ s) = false := decide_eq_false (by omega)
    go_wp2_with fail
    go_quiet (fail)
    go_wp2
    go_ret
    exact ⟨rfl, HB.out _⟩
  have d1 : decide (0 ≤ s) = true := decide_eq_true (by omega)
  have d1' : 0 ≤ s := by omega
  by_cases h2 : 1099511627776 < s
  · have d2 : decide (s ≤ 1099511627776) = false := decide_eq_false (by omega)
    go_wp2_with fail
    go_quiet (fail)
    go_wp2
    go_ret
    exact ⟨rfl, HB.out _⟩
  have d2 : decide (s ≤ 1099511627776) = true := decide_eq_true (by omega)
  have d2' : s ≤ 1099511627776 := by omega
  clear h1 h2
  rcases HCH.out.2 with rfl | ⟨b, off, rfl, hlt, hv⟩
  · obtain ⟨rfl, e4⟩ := fol_no s t g _ HF.out d1' d2' (by rw [lastI_nil]; omega)
    have e5 : (!t.toList.isEmpty) = true := by rw [e4]; rfl
    go_wp2_with fail
    go_quiet (fail)
    go_wp2
    go_ret
    exact ⟨rfl, HB.out _⟩
  · by_cases hn0 : vs = []
    · subst hn0
      obtain ⟨rfl, e4⟩ := fol_no s t g _ HF.out d1' d2' (by rw [lastI_nil]; omega)
      have e5 : (!t.toList.isEmpty) = true := by rw [e4]; rfl
      clear hv hlt
      go_wp2_with fail
      go_quiet (fail)
      go_wp2
      go_ret
      exact ⟨rfl, HB.out _⟩
    · have hpos : 0 < vs.length := List.length_pos_iff.2 hn0
      have HL := Lib.hid (lastI_some vs hpos)
      obtain ⟨p0, _, _⟩ := hv (vs.length - 1) (by omega)
      obtain ⟨p, hp⟩ : ∃ p, p = (vs[vs.length - 1]'(by omega)).seq := ⟨_, rfl⟩
      rw [← hp] at p0 HL
      have HPP := Lib.hid hp
      have hw1 : IntKind.i64.wrap ((vs.length : Int) - 1) = (vs.length : Int) - 1 := by rw [IntKind.wrap_i64]; omega
      have hw2 : (0 : Int) ≤ (vs.length : Int) - 1 := by omega
      have hw3 : ((vs.length : Int) - 1).toNat = vs.length - 1 := by omega
      have hw4 : (1 : Int) ≤ (vs.length : Int) := by omega
      have hw5 : (vs.length : Int) - 1 < (vs.length : Int) := by omega
      have hz : ((vs.length : Int) == 0) = false := by rw [beq_eq_false_iff_ne]; omega
      clear hp hv hn0
      by_cases h5 : s ≤ p
      · have d5 : decide (p < s) = false := decide_eq_false (by omega)
        go_wp2_with fail
        go_quiet (fail)
        go_wp2
        go_ret
        exact ⟨rfl, HB.out _⟩
      · have d5 : decide (p < s) = true := decide_eq_true (by omega)
        have d5' : p < s := by omega
        obtain ⟨rfl, e4⟩ := fol_no s t g _ HF.out d1' d2' (by rw [HL.out]; omega)
        have e5 : (!t.toList.isEmpty) = true := by rw [e4]; rfl
        clear h5
        go_wp2_with fail
        go_quiet (fail)
        go_wp2
        go_ret
        exact ⟨rfl, HB.out _⟩

end Go.Proofs.Ytgjgiokdplglbaa.chainPuts
