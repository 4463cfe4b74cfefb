/-
  rec: the law's Same.
-/
import Derived.Test.YtgpfmhoodohggaaRLay2
import Derived.Laws.Cover3
import Derived.StillTailTactics
namespace Go.Proofs.Ytgpfmhoodohggaa
open Go.RowKit

set_option linter.unusedVariables false
set_option linter.unusedSimpArgs false

noncomputable def smB (p : Prop) : Bool := @decide p (Classical.propDecidable p)
theorem smB_true {p : Prop} (h : p) : smB p = true := @decide_eq_true p (Classical.propDecidable p) h
theorem smB_false {p : Prop} (h : ¬ p) : smB p = false := @decide_eq_false p (Classical.propDecidable p) h

def eqW (x y : Wr) : Bool := x.key.toList == y.key.toList && (x.val.toList == y.val.toList && x.gone == y.gone)
theorem bl_inj {a b : ByteArray} (h : a.toList = b.toList) : a = b := by
  rw [Lib.toList_data, Lib.toList_data] at h
  exact ByteArray.ext (Array.toList_inj.1 h)
theorem eqW_iff (x y : Wr) : eqW x y = true ↔ x = y := by
  obtain ⟨k, v, g⟩ := x
  obtain ⟨k', v', g'⟩ := y
  unfold eqW
  simp only [Bool.and_eq_true, beq_iff_eq]
  constructor
  · rintro ⟨h1, h2, h3⟩
    rw [bl_inj h1, bl_inj h2, h3]
  · intro h
    injection h with h1 h2 h3
    subst h1 h2 h3
    exact ⟨rfl, rfl, rfl⟩

theorem neq_run (x y : Wr) (W : World) : (binOp .neq 43 (.agg #[.string x.key, .string x.val, .bool x.gone]) (.agg #[.string y.key, .string y.val, .bool y.gone])).run Try.prog W = .ok (.bool (!eqW x y)) W := by
  go_simp
  by_cases h1 : x.key.toList = y.key.toList <;> by_cases h2 : x.val.toList = y.val.toList <;> by_cases h3 : x.gone = y.gone <;> simp [h1, h2, h3, eqW]
attribute [-go_sem] run_neq_struct
attribute [local irreducible] wpStill

theorem list_eq {ws vs : List Wr} (hl : ws.length = vs.length) (h : ∀ i (h1 : i < ws.length) (h2 : i < vs.length), ws[i] = vs[i]) : ws = vs := List.ext_getElem hl fun i h1 h2 => h i h1 h2

set_option maxHeartbeats 4000000 in
set_option maxRecDepth 100000 in
theorem same_any {w : World} {a1 a2 : Option Addr} {len1 len2 cap1 cap2 : Nat} {ws vs : List Wr} (h1 : WrsIs w a1 ws) (hl1 : ws.length = len1) (h2 : WrsIs w a2 vs) (hl2 : vs.length = len2) (hle1 : len1 ≤ 1000000) (hle2 : len2 ≤ 1000000) (s1 t1 s2 t2 : Int) :
    Calls Try.prog 14 #[.agg #[.int .i64 s1, .int .i64 t1, .slice a1 len1 cap1], .agg #[.int .i64 s2, .int .i64 t2, .slice a2 len2 cap2]] w fun e w' => e = .returned (.bool (smB (s1 = s2 ∧ t1 = t2 ∧ ws = vs))) ∧ Below w.heap.size w w' := by
  have hb0 : Below w.heap.size w ((w.alloc (.cells #[.int .i64 s1, .int .i64 t1, .slice a1 len1 cap1] 25)).alloc (.cells #[.int .i64 s2, .int .i64 t2, .slice a2 len2 cap2] 25)) := ((Below.refl _ w).alloc (Nat.le_refl _) _).alloc (by simp) _
  have HB0 := Lib.hid hb0
  obtain ⟨SM, hSM⟩ : ∃ SM, SM = smB (s1 = s2 ∧ t1 = t2 ∧ ws = vs) := ⟨_, rfl⟩
  rw [← hSM]
  by_cases hs : s1 = s2
  · by_cases ht : t1 = t2
    · by_cases hl : len1 = len2
      · subst hs ht hl
        have hx1 : ∀ i, ((w.alloc (.cells #[.int .i64 s1, .int .i64 t1, .slice a1 len1 cap1] 25)).alloc (.cells #[.int .i64 s1, .int .i64 t1, .slice a2 len1 cap2] 25)).cell? ⟨w.heap.size, i, none⟩ = (#[.int .i64 s1, .int .i64 t1, .slice a1 len1 cap1] : Array Value)[i]? := fun i =>
          (World.cell?_of_block (a := ⟨w.heap.size, i, none⟩) (Below.heap_alloc _ _ _ (by simp))).trans (cell_of_row _ _ i _ _ (0, 0) (heap_alloc_new w _))
        have hx2 : ∀ i, ((w.alloc (.cells #[.int .i64 s1, .int .i64 t1, .slice a1 len1 cap1] 25)).alloc (.cells #[.int .i64 s1, .int .i64 t1, .slice a2 len1 cap2] 25)).cell? ⟨w.heap.size + 1, i, none⟩ = (#[.int .i64 s1, .int .i64 t1, .slice a2 len1 cap2] : Array Value)[i]? := fun i => by
          have h9 := heap_alloc_new (w.alloc (.cells #[.int .i64 s1, .int .i64 t1, .slice a1 len1 cap1] 25)) (.cells #[.int .i64 s1, .int .i64 t1, .slice a2 len1 cap2] 25)
          rw [World.size_alloc] at h9
          exact cell_of_row _ _ i _ _ (0, 0) h9
        obtain ⟨W0, hW0⟩ : ∃ W0, W0 = ((w.alloc (.cells #[.int .i64 s1, .int .i64 t1, .slice a1 len1 cap1] 25)).alloc (.cells #[.int .i64 s1, .int .i64 t1, .slice a2 len1 cap2] 25)) := ⟨_, rfl⟩
        have hz : W0.heap.size = w.heap.size + 2 := by rw [hW0]; simp
        have HX : Hid (∀ W n, W = W0.drewN n → Below w.heap.size w W ∧ (W.cell? ⟨w.heap.size, 2, none⟩ = some (.slice a1 len1 cap1) ∧ W.cell? ⟨w.heap.size + 1, 2, none⟩ = some (.slice a2 len1 cap2))) := Lib.hid fun W n hW => by
          subst hW
          rw [← hW0] at hx1 hx2 hb0
          exact ⟨⟨hb0.os, hb0.tape, hb0.output, hb0.size, hb0.block⟩, hx1 2, hx2 2⟩
        have H1 := Lib.hid h1
        have H2 := Lib.hid h2
        have HL1 := Lib.hid hl1
        have HL2 := Lib.hid hl2
        have HT : Hid ((∀ i (h1 : i < ws.length) (h2 : i < vs.length), ws[i] = vs[i]) → smB (s1 = s1 ∧ t1 = t1 ∧ ws = vs) = true) := Lib.hid fun h => smB_true ⟨rfl, rfl, list_eq (by omega) h⟩
        have HF : Hid (∀ i (h1 : i < ws.length) (h2 : i < vs.length), ws[i] ≠ vs[i] → smB (s1 = s1 ∧ t1 = t1 ∧ ws = vs) = false) := Lib.hid fun i h1 h2 hne => smB_false fun h => hne (by have := h.2.2; subst this; rfl)
        rw [← hSM] at HT HF
        clear h1 h2 hl1 hl2 hx1 hx2 hb0 hSM
        go_enter Try.func14, Try.ntmps14
        go_wp2_with fail
        rw [← hW0]
        clear hW0 HB0
        go_loopw [30] (fun i wr => ∃ k n : Nat, k ≤ len1 ∧ i = .int .i64 (k : Int) ∧ wr = W0.drewN n ∧ Hid (∀ i (hi : i < k) (h1 : i < ws.length) (h2 : i < vs.length), ws[i] = vs[i])) (fun i _ => len1 - (intOf i).toNat)
        case atStart => exact ⟨0, 0, Nat.zero_le _, rfl, rfl, Lib.hid fun i hi => by omega⟩
        case round =>
          obtain ⟨k, n, hk, rfl, hwr, HE⟩ := hrel
          obtain ⟨hbw, c1, c2⟩ := HX.out wr n hwr
          by_cases hlt : k < len1
          · have hk1 : k < ws.length := by rw [HL1.out]; exact hlt
            have hk2 : k < vs.length := by rw [HL2.out]; exact hlt
            obtain ⟨b, off, rfl, hb, hin, _⟩ := H1.out.at_ k hk1
            obtain ⟨b', off', rfl, hb', hin', _⟩ := H2.out.at_ k hk2
            have HFk := Lib.hid (HF.out k hk1 hk2)
            obtain ⟨x, hx⟩ : ∃ x, x = ws[k] := ⟨_, rfl⟩
            obtain ⟨y, hy⟩ : ∃ y, y = vs[k] := ⟨_, rfl⟩
            rw [← hx, ← hy] at HFk
            rw [← hx] at hin
            rw [← hy] at hin'
            have hin2 : WrIn wr b (off + k * 3) x := by
              obtain ⟨h0, h1, h2⟩ := hin
              exact ⟨(hbw.cell (p := ⟨b, _, none⟩) hb).trans h0, (hbw.cell (p := ⟨b, _, none⟩) hb).trans h1, (hbw.cell (p := ⟨b, _, none⟩) hb).trans h2⟩
            have hin3 : WrIn wr b' (off' + k * 3) y := by
              obtain ⟨h0, h1, h2⟩ := hin'
              exact ⟨(hbw.cell (p := ⟨b', _, none⟩) hb').trans h0, (hbw.cell (p := ⟨b', _, none⟩) hb').trans h1, (hbw.cell (p := ⟨b', _, none⟩) hb').trans h2⟩
            obtain ⟨q0, q1, q2⟩ := hin2
            obtain ⟨r0, r1, r2⟩ := hin3
            have hcmp := neq_run x y
            have HB := Lib.hid hbw
            have HWN : Hid (wr.drew = W0.drewN (n + 1)) := Lib.hid (by rw [hwr]; rfl)
            have HXY := Lib.hid (And.intro hx hy)
            clear hin hin' hbw hwr HF hx hy
            have HHE := Lib.hid HE
            clear HE
            by_cases hxy : x = y
            · have he : eqW x y = true := (eqW_iff x y).2 hxy
              rw [he] at hcmp
              simp only [Bool.not_true, Bool.not_false] at hcmp
              have HE' : Hid (∀ i (hi : i < k + 1) (h1 : i < ws.length) (h2 : i < vs.length), ws[i] = vs[i]) := Lib.hid fun i hi h1 h2 => by
                by_cases hik : i = k
                · subst hik; rw [← HXY.out.1, ← HXY.out.2]; exact hxy
                · exact HHE.out.out i (by omega) h1 h2
              clear HFk HXY HHE HX H1 H2 HL1 HL2 HT hxy he
              go_wp2_with fail
              refine wp_region_still_lit (by rfl) (by kernel_rfl) ?_
              change wpStill _ _ (World.drew _) (fun a' => _) _ _
              repeat still_step
              refine wpStill_nil ?_
              go_wp2_with fail
              go_roundw
              · exact ⟨k + 1, n + 1, by omega, by rw [show ((k : Int) + 1) = ((k + 1 : Nat) : Int) by omega], HWN.out, HE'⟩
              · simp [intOf]; omega
            · have he : eqW x y = false := by rw [Bool.eq_false_iff]; exact fun h => hxy ((eqW_iff x y).1 h)
              rw [he] at hcmp
              simp only [Bool.not_true, Bool.not_false] at hcmp
              have HF2 : Hid (SM = false) := Lib.hid (HFk.out hxy)
              clear HFk HXY HHE HX H1 H2 HL1 HL2 HT hxy he
              go_wp2_with fail
              refine wp_region_still_lit (by rfl) (by kernel_rfl) ?_
              change wpStill _ _ (World.drew _) (fun a' => _) _ _
              repeat still_step
              refine wpStill_nil ?_
              go_wp2
              go_ret
              exact ⟨by rw [HF2.out]; simp, HB.out.drew⟩
          · obtain rfl : k = len1 := by omega
            have HF2 : Hid (SM = true) := Lib.hid (HT.out fun i h1 h2 => HE.out i (by have := HL1.out; omega) h1 h2)
            have HB := Lib.hid hbw
            clear hwr hbw HE HT HF H1 H2 HX
            go_wp2
            go_ret
            exact ⟨by rw [HF2.out]; simp, HB.out⟩
      · have hne : ws ≠ vs := fun e => hl (by rw [← hl1, ← hl2, e])
        have HSM : Hid (SM = false) := Lib.hid (hSM.trans (smB_false fun h => hne h.2.2))
        have hlI : ¬ (len1 : Int) = (len2 : Int) := by omega
        subst hs ht
        clear hb0 hne h1 h2 hl1 hl2 hSM
        go_enter Try.func14, Try.ntmps14
        go_wp2
        go_ret
        exact ⟨by rw [HSM.out]; simp, HB0.out⟩
    · have HSM : Hid (SM = false) := Lib.hid (hSM.trans (smB_false fun h => ht h.2.1))
      subst hs
      clear hb0 h1 h2 hl1 hl2 hSM
      go_enter Try.func14, Try.ntmps14
      go_wp2
      go_ret
      exact ⟨by rw [HSM.out]; simp, HB0.out⟩
  · have HSM : Hid (SM = false) := Lib.hid (hSM.trans (smB_false fun h => hs h.1))
    clear hb0 h1 h2 hl1 hl2 hSM
    go_enter Try.func14, Try.ntmps14
    go_wp2
    go_ret
    exact ⟨by rw [HSM.out]; simp, HB0.out⟩

end Go.Proofs.Ytgpfmhoodohggaa
