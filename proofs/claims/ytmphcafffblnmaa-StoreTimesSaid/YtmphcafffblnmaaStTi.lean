/-
  StoreTimes: commits don't go back in time.
-/
import Derived.Test.YtmphcafffblnmaaStHd
import Derived.Test.YtmphcafffblnmaaIsRow
namespace Go.Proofs.Ytmphcafffblnmaa.storeTimes
open Go.RowKit Go.Proofs.Ytmphcafffblnmaa.tC Go.Proofs.Ytmphcafffblnmaa.sT

set_option linter.unusedVariables false
set_option linter.unusedSimpArgs false

/-- behind n commits -/
def TI (W W' : World) (s : Nat) (n : Nat) (last : Int) : Prop := ∃ M, Sep W.heap.size (fun _ => False) W' s M ∧ Below W.heap.size W W' ∧ M.low = 0 ∧ M.cms.length = n ∧ M.least = last ∧ 0 ≤ last ∧ SG M n

theorem least_commit (M : StM) (seq at_ : Int) (ws : List Wr) : (M.commit seq at_ ws).least = at_ := by
  unfold StM.least
  rw [(commit_low M seq at_ ws).2, List.getLast?_concat]

theorem ti_start {W W' : World} {s : Nat} (h : Sep W.heap.size (fun _ => False) W' s ((StM.new 0).write 0 [])) (hb : Below W.heap.size W W') : TI W W' s 0 0 := ⟨_, h, hb, rfl, rfl, rfl, Int.le_refl _, SG.base (n := 0) []⟩
theorem ti_step {W W1 : World} {s n : Nat} {last : Int} (h : TI W W1 s n last) (hn : n ≤ 40) (at_ : Int) (g : Bool) (hg : g = (decide (last ≤ at_) && decide (at_ ≤ 1099511627776))) :
    Calls Try.prog 28 #[.pointer (some ⟨s, 0, none⟩), .agg #[.int .i64 ((n : Int) + 1), .int .i64 at_, .slice none 0 0]] W1 fun e W2 => e = .returned (.int .i64 (if g then 0 else 1)) ∧ Hid (TI W W2 s (if g then n + 1 else n) (if g then at_ else last)) := by
  obtain ⟨M, h1, h2, h3, h4, h5, h6, h7⟩ := h
  have hf : M.fits ((n : Int) + 1) at_ [] = g := by
    have e0 : rightL [] = true := rfl
    unfold StM.fits
    rw [h5, e0, hg]
    have e1 : (M.last : Int) = (n : Int) := by unfold StM.last; omega
    rw [e1, decide_eq_true (show (n : Int) + 1 = (n : Int) + 1 from rfl), decide_eq_true (show (n : Int) + 1 ≤ 1099511627776 by omega)]
    simp
  refine (sep_commit (cap := 0) h1 h7 ((n : Int) + 1) at_ (.inl rfl : WrsIs W1 none []) rfl (by simp; omega) (.inl rfl)).mono ?_
  rintro e W2 ⟨hk, ⟨c1, c2, c3⟩ | ⟨c1, c2, c3⟩⟩
  · rw [hf] at c1
    subst c1
    exact ⟨c2, Lib.hid ⟨M, c3, h2.trans hk.below, h3, h4, h5, h6, h7⟩⟩
  · have c4 := c1
    rw [hf] at c1
    rw [c1] at hg
    subst c1
    have hg2 : last ≤ at_ := by
      have := hg.symm
      simp only [Bool.and_eq_true, decide_eq_true_eq] at this
      exact this.1
    obtain ⟨q1, q2⟩ := commit_low M ((n : Int) + 1) at_ []
    exact ⟨c2, Lib.hid ⟨_, c3, h2.trans hk.below, by rw [q1, h3], by rw [q2, List.length_append, h4]; rfl, least_commit _ _ _ _, Int.le_trans h6 hg2, h7.commit c4⟩⟩

set_option maxHeartbeats 1000000 in
set_option maxRecDepth 100000 in
theorem walk_in (W : World) (a : Option Addr) (len cap : Nat) (zs : List Int) (hlen : len ≤ 40) (hcx : ∀ i, i < len → ∃ x, a = some x ∧ W.cell? (x.add i) = some (.int .i64 (zs.getD i 0))) :
    Calls Try.prog 9 #[.slice a len cap] W fun e W' => e = .returned (.bool true) ∧ Below W.heap.size W W' := by
  have h40 : ¬ (40 : Int) < (len : Int) := by omega
  have HCX : Hid (∀ W', Below W.heap.size W W' → ∀ i, i < len → ∃ x, a = some x ∧ W'.cell? (x.add i) = some (.int .i64 (zs.getD i 0))) := Lib.hid fun W' hb i hi => by
    obtain ⟨x, e, hc⟩ := hcx i hi
    exact ⟨x, e, (hb.cell (p := x.add i) (World.block_lt_of_cell? W _ hc)).trans hc⟩
  have HN : Hid (∀ W1, Below W.heap.size W W1 → Calls Try.prog 36 #[.int .i64 0, .slice none 0 0] W1 fun e W' => ∃ s, e = .returned (.tuple #[.pointer (some ⟨s, 0, none⟩), .int .i64 0]) ∧ Hid (TI W W' s 0 0)) := Lib.hid fun W1 hb => by
    refine (sep_new (n0 := W.heap.size) (cap := 0) 0 (.inl rfl : WrsIs W1 none []) rfl (by simp)).mono ?_
    rintro e W' ⟨hb1, ⟨h1, _⟩ | ⟨_, s, lo, h2, _, h3, h4⟩⟩
    · rw [hF0] at h1; cases h1
    · obtain rfl : lo = 0 := by omega
      refine ⟨s, h3, Lib.hid (ti_start ?_ (hb.trans (hb1.mono hb.size)))⟩
      obtain ⟨⟨P, k1, k2⟩, k3, k4⟩ := h4
      exact ⟨⟨P, k1, fun q hq => ⟨by have := (k2 q hq).1; have := hb.size; omega, (k2 q hq).2⟩⟩, k3, by have := hb.size; omega⟩
  clear hcx
  go_enter Try.func9, Try.ntmps9
  go_wp2_with fail
  refine (head_any _).mono ?_
  rintro e w1 ⟨rfl, hb1⟩
  have HB1 := Lib.hid hb1
  clear hb1
  go_wp2_with fail
  refine (HN.out w1 HB1.out).mono ?_
  rintro e w2 ⟨s, rfl, hT2⟩
  clear HB1 HN
  go_wp2_with fail
  go_loopw [24, 5, 6] (fun iv lv nv wr => ∃ (z n : Nat) (last : Int), z ≤ len ∧ n ≤ z ∧ iv = .int .i64 (z : Int) ∧ lv = .int .i64 last ∧ nv = .int .i64 (n : Int) ∧ (n = 0 → last = 0) ∧ Hid (TI W wr s n last)) (fun iv _ _ _ => len - (intOf iv).toNat)
  case atStart => exact ⟨0, 0, 0, Nat.zero_le _, Nat.le_refl _, rfl, rfl, rfl, fun _ => rfl, hT2⟩
  case round =>
    obtain ⟨z, n, last, hz, hn, rfl, rfl, rfl, hl0, hT⟩ := hrel
    clear hT2
    by_cases hzl : z < len
    · have hzI : (z : Int) < (len : Int) := by omega
      obtain ⟨x, ea, hcell⟩ := HCX.out _ (by obtain ⟨M, _, h, _⟩ := hT.out; exact h) z hzl
      subst ea
      obtain ⟨t, ht⟩ : ∃ t, t = zs.getD z 0 := ⟨_, rfl⟩
      rw [← ht] at hcell
      have h0 : 0 ≤ last := by obtain ⟨M, _, _, _, _, _, h, _⟩ := hT.out; exact h
      have hn40 : n ≤ 40 := by omega
      have hw : IntKind.i64.wrap ((n : Int) + 1) = (n : Int) + 1 := by rw [IntKind.wrap_i64]; omega
      have HST := Lib.hid (fun g hg => ti_step hT.out hn40 t g hg)
      clear ht hT

      have HL0 := Lib.hid hl0
      by_cases e1 : 0 ≤ t
      · by_cases e2 : t ≤ 1099511627776
        · by_cases e3 : n = 0
          · subst e3
            have HC := Lib.hid (HST.out true (by rw [hl0 rfl, decide_eq_true e1, decide_eq_true e2]; rfl))
            simp only [if_true, Bool.false_eq_true, if_false] at HC
            rw [show ((0 : Nat) : Int) + 1 = 1 from rfl] at HC
            clear HST h0 hl0 hw
            go_wp2_with fail
            refine HC.out.mono ?_
            rintro e w5 ⟨rfl, hT5⟩
            clear HC
            go_wp2_with fail
            go_roundw
            case rel => exact ⟨z + 1, 1, t, by omega, by omega, by go_num, rfl, rfl, fun h => by omega, hT5⟩
            case measure => simp [intOf]; omega
          · have d3 : ((n : Int) == 0) = false := by rw [beq_eq_false_iff_ne]; omega
            by_cases e4 : last ≤ t
            · skip
              have HC := Lib.hid (HST.out true (by rw [decide_eq_true e4, decide_eq_true e2]; rfl))
              simp only [if_true, Bool.false_eq_true, if_false] at HC
              clear HST h0 hl0 hw
              have hw : IntKind.i64.wrap ((n : Int) + 1) = (n : Int) + 1 := by rw [IntKind.wrap_i64]; omega
              go_wp2_with fail
              refine HC.out.mono ?_
              rintro e w5 ⟨rfl, hT5⟩
              clear HC
              go_wp2_with fail
              go_roundw
              case rel => exact ⟨z + 1, n + 1, t, by omega, by omega, by go_num, rfl, by go_num, fun h => by omega, hT5⟩
              case measure => simp [intOf]; omega
            · have d4 : (last ≤ t) = False := eq_false e4
              have E4 := Lib.hid e4
              clear e4
              have HC := Lib.hid (HST.out false (by rw [decide_eq_false E4.out]; rfl))
              simp only [if_true, Bool.false_eq_true, if_false] at HC
              clear HST h0 hl0 hw
              have hw : IntKind.i64.wrap ((n : Int) + 1) = (n : Int) + 1 := by rw [IntKind.wrap_i64]; omega
              go_wp2_with fail
              refine HC.out.mono ?_
              rintro e w5 ⟨rfl, hT5⟩
              clear HC
              go_wp2_with fail
              go_roundw
              case rel => exact ⟨z + 1, n, last, by omega, by omega, by go_num, rfl, rfl, HL0.out, hT5⟩
              case measure => simp [intOf]; omega
        · have d2 : (t ≤ 1099511627776) = False := eq_false e2
          have E2 := Lib.hid e2
          clear e2
          have HC := Lib.hid (HST.out false (by rw [decide_eq_false E2.out]; simp))
          simp only [if_true, Bool.false_eq_true, if_false] at HC
          clear HST h0 hl0 hw
          have hw : IntKind.i64.wrap ((n : Int) + 1) = (n : Int) + 1 := by rw [IntKind.wrap_i64]; omega
          go_wp2_with fail
          refine HC.out.mono ?_
          rintro e w5 ⟨rfl, hT5⟩
          clear HC
          go_wp2_with fail
          go_roundw
          case rel => exact ⟨z + 1, n, last, by omega, by omega, by go_num, rfl, rfl, HL0.out, hT5⟩
          case measure => simp [intOf]; omega
      · have d1 : (0 ≤ t) = False := eq_false e1
        have E1 := Lib.hid e1
        clear e1
        have HC := Lib.hid (HST.out false (by rw [decide_eq_false (show ¬ last ≤ t by have := E1.out; omega)]; rfl))
        simp only [if_true, Bool.false_eq_true, if_false] at HC
        clear HST h0 hl0 hw
        have hw : IntKind.i64.wrap ((n : Int) + 1) = (n : Int) + 1 := by rw [IntKind.wrap_i64]; omega
        go_wp2_with fail
        refine HC.out.mono ?_
        rintro e w5 ⟨rfl, hT5⟩
        clear HC
        go_wp2_with fail
        go_roundw
        case rel => exact ⟨z + 1, n, last, by omega, by omega, by go_num, rfl, rfl, HL0.out, hT5⟩
        case measure => simp [intOf]; omega
    · obtain rfl : z = len := by omega
      have hzI : ¬ (z : Int) < (z : Int) := by omega
      have HL : Hid (Calls Try.prog 22 #[.pointer (some ⟨s, 0, none⟩)] wr fun e w' => e = .returned (.int .i64 (n : Int)) ∧ Hid (Below W.heap.size W w')) := Lib.hid (by
        obtain ⟨M, h1, h2, h3, h4, _⟩ := hT.out
        obtain ⟨P, hP⟩ := h1.at_
        refine (stLast_any hP).mono ?_
        rintro e w' ⟨rfl, hb⟩
        refine ⟨by unfold StM.last; rw [h3, h4]; simp, Lib.hid (h2.trans (hb.mono h2.size))⟩)
      clear hT hl0 hzl hz
      go_wp2_with fail
      refine HL.out.mono ?_
      rintro e w6 ⟨rfl, hF⟩
      go_wp2
      first | exact ⟨rfl, hF.out⟩ | (go_ret; exact ⟨by simp, hF.out⟩)

set_option maxHeartbeats 2000000 in
theorem walk_out (a : Option Addr) (len cap : Nat) (h : 40 < len) (W : World) : Calls Try.prog 9 #[.slice a len cap] W fun e W' => e = .returned (.bool true) ∧ Below W.heap.size W W' := by
  have hI : (40 : Int) < (len : Int) := by omega
  go_enter Try.func9, Try.ntmps9
  go_wp2_with fail
  refine (head_any _).mono ?_
  rintro e w1 ⟨rfl, hb1⟩
  have HB := Lib.hid hb1
  clear hb1
  go_wp2
  first | exact ⟨rfl, HB.out⟩ | (go_ret; exact ⟨rfl, HB.out⟩)

theorem walk {w : World} (a : Option Addr) (len cap : Nat) (zs : List Int) (hr : IsRow .i64 w a len cap zs) : Calls Try.prog 9 #[.slice a len cap] w fun e W' => e = .returned (.bool true) ∧ Below w.heap.size w W' := by
  by_cases h : 40 < len
  · exact walk_out a len cap h w
  · refine walk_in w a len cap zs (by omega) fun i hi => ?_
    rcases hr with ⟨_, h1, _⟩ | ⟨x, e, h1, h2, h3, h4, _⟩
    · omega
    · exact ⟨x, e, h4 i (by omega)⟩

end Go.Proofs.Ytmphcafffblnmaa.storeTimes
