/-
  The walk of mailbaglaw07.ChainPuts, where the version is taken.
-/
import Derived.Test.YtgjgiokdplglbaaChPuts
namespace Go.Proofs.Ytgjgiokdplglbaa.chainPuts
open Go.RowKit

attribute [local irreducible] wpStill

theorem fol_other (s : Int) (t : ByteArray) (g : Bool) (la : Int) (o : ByteArray) (h : Ver.folB ⟨s, t, g⟩ la = true) : Ver.folB ⟨s, o, false⟩ la = true := by
  obtain ⟨h0, h1, h2, _⟩ := fol_yes s t g la h
  rw [fol_law, decide_eq_true h0, decide_eq_true h1, decide_eq_true h2]
  rfl

theorem right_more (vs : List Ver) (v : Ver) (hr : rightC vs = true) (hf : v.folB (lastI vs) = true) : rightC (vs ++ [v]) = true := by
  have h := of_decide_eq_true hr
  refine decide_eq_true fun i hi => ?_
  by_cases e : i < vs.length
  · rw [List.getElem_append_left e, List.take_append_of_le_length (by omega)]
    exact h i e
  · obtain rfl : i = vs.length := by simp at hi; omega
    rw [List.getElem_append_right (Nat.le_refl _)]
    simp only [Nat.sub_self, List.getElem_cons_zero]
    rw [List.take_append_of_le_length (Nat.le_refl _), List.take_length]
    exact hf

set_option maxHeartbeats 4000000 in
set_option maxRecDepth 100000 in
theorem walk_yes {w : World} (a : Option Addr) (cap : Nat) (vs : List Ver) (hc : ChIs w a vs) (hcap : vs.length ≤ cap) (hle : vs.length ≤ 60) (hR : rightC vs = true) (s : Int) (t : ByteArray) (g : Bool) (hf : Ver.folB ⟨s, t, g⟩ (lastI vs) = true) :
    Calls Try.prog 9 #[.slice a vs.length cap, .agg #[.int .i64 s, .string t, .bool g]] w fun e w' => e = .returned (.bool true) ∧ Below w.heap.size w w' := by
  have HW : Hid (∀ W, Below (w.alloc (.cells #[.int .i64 s, .string t, .bool g] 64)).heap.size (w.alloc (.cells #[.int .i64 s, .string t, .bool g] 64)) W →
      ChIs W a vs ∧ Below w.heap.size w W ∧ W.cell? ⟨w.heap.size, 0, none⟩ = some (.int .i64 s) ∧ W.cell? ⟨w.heap.size, 1, none⟩ = some (.string t) ∧ W.cell? ⟨w.heap.size, 2, none⟩ = some (.bool g)) := Lib.hid fun W hB =>
    have hB' := ((Below.refl w.heap.size w).alloc (Nat.le_refl _) (.cells #[.int .i64 s, .string t, .bool g] 64)).trans (hB.mono (by simp))
    ⟨hc.below hB', hB', new3 hB⟩
  have HF := Lib.hid hf
  have HR := Lib.hid hR
  have HR2 := Lib.hid (right_more vs ⟨s, t, g⟩ hR hf)
  have HFO := Lib.hid (fol_other s t g _ ⟨#[111, 116, 104, 101, 114]⟩ hf)
  have HY := Lib.hid (fol_yes s t g _ hf)
  clear hf hR hc
  have hle' : ¬ (60 : Int) < (vs.length : Int) := by omega
  go_enter Try.func9, Try.ntmps9
  go_wp2_with fail
  refine (ch_head _).mono ?_
  rintro e w1 ⟨rfl, hb1⟩
  have H1 := Lib.hid hb1
  clear hb1
  have hr := lright_any a cap vs w1 (HW.out _ H1.out).1
  rw [HR.out] at hr
  have HRR := Lib.hid hr
  clear hr
  go_wp2_with fail
  refine HRR.out.mono ?_
  rintro e w2 ⟨rfl, hb2⟩
  have H2 := Lib.hid (H1.out.trans (hb2.mono H1.out.size))
  clear hb2 HRR
  obtain ⟨hch, _, c0, c1, c2⟩ := HW.out _ H2.out
  have HP := Lib.hid (put_ok a cap vs s t g w2 hch (by omega) hcap HF.out)
  clear hch
  go_wp2_with fail
  refine HP.out.mono ?_
  rintro e w3 ⟨vv, rfl, g3, k3, rfl, hk3, hk3b, hg3, hg3b, hv3, hb3⟩
  have H3 := Lib.hid (H2.out.trans (hb3.mono H2.out.size))
  clear hb3 HP c0 c1 c2
  have HD : Hid (∀ W, Below w3.heap.size w3 W → VersAt W g3 0 (vs ++ [⟨s, t, g⟩]) ∧ g3 < W.heap.size) := Lib.hid fun W hB => ⟨hv3.below hB hg3b, Nat.lt_of_lt_of_le hg3b hB.size⟩
  clear hv3
  obtain ⟨hch, hbw, c0, c1, c2⟩ := HW.out _ H3.out
  have HB := Lib.hid (fun q => below_drewN' hbw q)
  have HCH := Lib.hid hch
  clear hbw hch
  have hnl : Hid ((vs ++ [(⟨s, t, g⟩ : Ver)]).length = vs.length + 1) := Lib.hid (by rw [List.length_append]; rfl)
  rw [hnl.out] at hk3 ⊢
  go_upto_region 7 with fail
  go_cut [8] (fun r wx => r = .bool true ∧ ∃ n, wx = w3.drewN n)
  case first =>
    obtain ⟨y0, y1, y2, y3⟩ := HY.out
    have d1 : decide (0 ≤ s) = true := decide_eq_true y0
    have d2 : decide (s ≤ 1099511627776) = true := decide_eq_true y1
    by_cases hn0 : vs.length = 0
    · have HN := Lib.hid hn0
      have hz : ((vs.length : Int) == 0) = true := by rw [hn0]; rfl
      clear hn0 y2
      cases g
      · clear y3
        go_quiet (fail)
        go_wp2_with fail
        go_meet
        exact ⟨rfl, _, rfl⟩
      · have e4 : t.toList = [] := y3 rfl
        have e5 : t.toList.isEmpty = true := by rw [e4]; rfl
        clear y3
        go_quiet (fail)
        go_wp2_with fail
        go_meet
        exact ⟨rfl, _, rfl⟩
    · have hpos : 0 < vs.length := by omega
      obtain ⟨b, off, rfl, hlt, hv⟩ : ∃ b off, a = some ⟨b, off, none⟩ ∧ b < w3.heap.size ∧ VersAt w3 b off vs := by
        rcases HCH.out.2 with e | h
        · rw [e] at hpos; exact absurd hpos (by simp)
        · exact h
      have HL := Lib.hid (lastI_some vs hpos)
      obtain ⟨p0, _, _⟩ := hv (vs.length - 1) (by omega)
      obtain ⟨p, hp⟩ : ∃ p, p = (vs[vs.length - 1]'(by omega)).seq := ⟨_, rfl⟩
      rw [← hp] at p0 HL
      rw [HL.out] at y2
      have HPP := Lib.hid hp
      have hw1 : IntKind.i64.wrap ((vs.length : Int) - 1) = (vs.length : Int) - 1 := by rw [IntKind.wrap_i64]; omega
      have hw2 : (0 : Int) ≤ (vs.length : Int) - 1 := by omega
      have hw3 : ((vs.length : Int) - 1).toNat = vs.length - 1 := by omega
      have hw4 : (1 : Int) ≤ (vs.length : Int) := by omega
      have hw5 : (vs.length : Int) - 1 < (vs.length : Int) := by omega
      have hz : ((vs.length : Int) == 0) = false := by rw [beq_eq_false_iff_ne]; omega
      have d5 : decide (p < s) = true := decide_eq_true y2
      clear hp hv hn0
      cases g
      · clear y3
        go_quiet (fail)
        go_wp2_with fail
        go_meet
        exact ⟨rfl, _, rfl⟩
      · have e4 : t.toList = [] := y3 rfl
        have e5 : t.toList.isEmpty = true := by rw [e4]; rfl
        clear y3
        go_quiet (fail)
        go_wp2_with fail
        go_meet
        exact ⟨rfl, _, rfl⟩
  case rest =>
    obtain ⟨rfl, n3, rfl⟩ := hcut
    have HD2 := Lib.hid (HD.out (w3.drewN n3).drew (below_drewN' (Below.refl _ w3) n3).drew)
    have hr2 := fun W hh => right_any' (some ⟨g3, 0, none⟩) k3 (vs ++ [⟨s, t, g⟩]) W hh (by rw [hnl.out]; exact hk3) hk3b
    rw [HR2.out, hnl.out] at hr2
    have HRC := Lib.hid (hr2 (w3.drewN n3).drew ⟨by rw [hnl.out]; omega, .inr ⟨g3, 0, rfl, HD2.out.2, HD2.out.1⟩⟩)
    clear hr2
    obtain ⟨q0, q1, q2⟩ := HD2.out.1 vs.length (by rw [hnl.out]; omega)
    have hlast : Hid ((vs ++ [(⟨s, t, g⟩ : Ver)])[vs.length]'(by rw [hnl.out]; omega) = ⟨s, t, g⟩) := Lib.hid (by simp)
    rw [hlast.out] at q0 q1 q2
    simp only [Nat.zero_add] at q0 q1 q2
    change w3.cell? _ = _ at q0 q1 q2
    have hi1 : (vs.length : Int) < (vs.length : Int) + 1 := by omega
    have hw1 : IntKind.i64.wrap ((vs.length : Int) + 1) = (vs.length : Int) + 1 := by rw [IntKind.wrap_i64]; omega
    go_wp2_with fail
    refine wp_region_mid 19 _ (by kernel_rfl) (by kernel_rfl) rfl ?_
    change wpStill _ _ (World.drew _) (fun a' => MidCall _ _ _ _ _ a' (World.drew _)) _ _
    simp only [List.take_succ_cons, List.take_zero, List.drop_succ_cons, List.drop_zero]
    repeat still_step
    refine wpStill_nil ?_
    refine midCall_of (by rfl) _ _ ?_ HRC.out ?_
    · go_simp
    rintro w4 hb4
    repeat still_step
    refine wpStill_nil ?_
    have H4 := Lib.hid (H3.out.trans (((below_drewN' (Below.refl _ w3) n3).drew.trans hb4).mono H3.out.size))
    have H34 := Lib.hid ((below_drewN' (Below.refl _ w3) n3).drew.trans hb4)
    clear hb4 HRC q0 q1 q2 c0 c1 c2 hi1 hw1
    obtain ⟨hch, _, c0, c1, c2⟩ := HW.out _ H4.out
    have HP := Lib.hid (put_ok a cap vs s ⟨#[111, 116, 104, 101, 114]⟩ false w4 hch (by omega) hcap HFO.out)
    clear hch
    go_wp2_with fail
    refine HP.out.mono ?_
    rintro e w5 ⟨vv, rfl, g5, k5, rfl, hk5, hk5b, hg5, hg5b, hv5, hb5⟩
    have H5 := Lib.hid (H4.out.trans (hb5.mono H4.out.size))
    have H35 := Lib.hid (H34.out.trans (hb5.mono H34.out.size))
    clear hb5 HP c0 c1 c2
    have hnl5 : Hid ((vs ++ [(⟨s, ⟨#[111, 116, 104, 101, 114]⟩, false⟩ : Ver)]).length = vs.length + 1) := Lib.hid (by rw [List.length_append]; rfl)
    have HO : Hid (∀ W, Below w5.heap.size w5 W → W.cell? ⟨g5, vs.length * 3 + 1, none⟩ = some (.string ⟨#[111, 116, 104, 101, 114]⟩)) := Lib.hid fun W hB => by
      have h := ((hv5.below hB hg5b) vs.length (by rw [hnl5.out]; omega)).2.1
      simpa using h
    clear hv5
    rw [hnl5.out] at hk5 ⊢
    have HC5 : Hid (∀ W, Below w5.heap.size w5 W → ChIs W a vs ∧ Below w.heap.size w W ∧ VersAt W g3 0 (vs ++ [⟨s, t, g⟩]) ∧ W.cell? ⟨w.heap.size, 0, none⟩ = some (.int .i64 s) ∧ W.cell? ⟨w.heap.size, 1, none⟩ = some (.string t) ∧ W.cell? ⟨w.heap.size, 2, none⟩ = some (.bool g)) := Lib.hid fun W hB => by
      obtain ⟨x0, x1, x2, x3, x4⟩ := HW.out W (H5.out.trans (hB.mono H5.out.size))
      exact ⟨x0, x1, (HD.out W (H35.out.trans (hB.mono H35.out.size))).1, x2, x3, x4⟩
    go_wp2
    go_loopw [104] (fun i wr => ∃ k : Nat, k ≤ vs.length ∧ i = .int .i64 k ∧ Hid (Below w5.heap.size w5 wr)) (fun i _ => vs.length - (intOf i).toNat)
    case atStart => exact ⟨0, Nat.zero_le _, rfl, Lib.hid (Below.refl _ _)⟩
    case round =>
      obtain ⟨k, hk, rfl, HBR⟩ := hrel
      obtain ⟨hch, hbw, hvd, c0, c1, c2⟩ := HC5.out _ HBR.out
      by_cases hlt2 : k < vs.length
      · obtain ⟨b, off, rfl, hlt, hv⟩ : ∃ b off, a = some ⟨b, off, none⟩ ∧ b < wr.heap.size ∧ VersAt wr b off vs := by
          rcases hch.2 with e | h
          · rw [e] at hlt2; exact absurd hlt2 (by simp)
          · exact h
        obtain ⟨e0, e1, e2⟩ := hv k hlt2
        obtain ⟨f0, f1, f2⟩ := hvd k (by rw [hnl.out]; omega)
        rw [List.getElem_append_left hlt2] at f0 f1 f2
        simp only [Nat.zero_add] at f0 f1 f2
        generalize vs[k] = x at e0 e1 e2 f0 f1 f2
        obtain ⟨xs, xt, xg⟩ := x
        simp only at e0 e1 e2 f0 f1 f2
        have HBW := Lib.hid (fun q => below_drewN' HBR.out q)
        have hi1 : (k : Int) < (vs.length : Int) := by omega
        have hi2 : (k : Int) < (vs.length : Int) + 1 := by omega
        have hi3 : k < vs.length + 1 := by omega
        clear hv hvd hch hbw c0 c1 c2
        go_wp2_with fail
        go_quiet (fail)
        go_wp2
        go_roundw
        case rel => exact ⟨k + 1, by omega, by go_num, Lib.hid (HBW.out _)⟩
        case measure => simp [intOf]; omega
      · obtain ⟨f0, f1, f2⟩ := hvd vs.length (by rw [hnl.out]; omega)
        rw [hlast.out] at f0 f1 f2
        simp only [Nat.zero_add] at f0 f1 f2
        have o1 := HO.out _ HBR.out
        have hge : ¬ (k : Int) < (vs.length : Int) := by omega
        have hi1 : (vs.length : Int) < (vs.length : Int) + 1 := by omega
        have HBW := Lib.hid (fun q => below_drewN' hbw q)
        clear hvd hch hbw hlt2
        go_wp2_with fail
        go_quiet (fail)
        go_wp2
        go_ret
        exact ⟨rfl, HBW.out _⟩

end Go.Proofs.Ytgjgiokdplglbaa.chainPuts
