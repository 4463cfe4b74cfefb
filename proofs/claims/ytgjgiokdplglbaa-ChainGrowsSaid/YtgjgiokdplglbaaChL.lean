/-
  mailbaglaw07.right.
-/
import Derived.Test.YtgjgiokdplglbaaChH
namespace Go.Proofs.Ytgjgiokdplglbaa
open Go.RowKit

/-- what the law asks of one version, with the last commit ahead of it -/
theorem fol_law (v : Ver) (last : Int) : v.folB last = (decide (last < v.seq) && (decide (0 ≤ v.seq) && (decide (v.seq ≤ 1099511627776) && !(v.gone && !v.val.toList.isEmpty)))) := by
  unfold Ver.folB
  simp only [Bool.and_assoc]

theorem lastI_take (vs : List Ver) (k : Nat) (h : k < vs.length) : lastI (vs.take (k + 1)) = (vs[k]).seq := by
  rw [List.take_succ_eq_append_getElem h]
  unfold lastI
  rw [List.getLast?_concat]

set_option maxHeartbeats 4000000 in
set_option maxRecDepth 100000 in
theorem lright_some (b off c : Nat) (vs : List Ver) (w : World) (hl : vs.length ≤ 9223372036854775807) (hlt : b < w.heap.size) (hv : VersAt w b off vs) :
    Calls Try.prog 26 #[.slice (some ⟨b, off, none⟩) vs.length c] w fun e w' => e = .returned (.bool (rightC vs)) ∧ Below w.heap.size w w' := by
  go_enter Try.func26, Try.ntmps26
  go_wp2
  go_loopw [7] (fun i wr => ∃ k : Nat, k ≤ vs.length ∧ i = .int .i64 k ∧ Below w.heap.size w wr ∧ Hid (∀ i (h : i < vs.length), i < k → (vs[i]).folB (lastI (vs.take i)) = true)) (fun i _ => vs.length - (intOf i).toNat)
  case atStart => exact ⟨0, Nat.zero_le _, rfl, Below.refl _ _, Lib.hid fun i _ h => by omega⟩
  case round =>
    obtain ⟨k, hk, rfl, hb, HALL⟩ := hrel
    by_cases hlt2 : k < vs.length
    · have hvr := hv.below hb hlt
      obtain ⟨c0, c1, c2⟩ := hvr k hlt2
      have hz := hb.size
      have hbr : b < wr.heap.size := by omega
      have HP : Hid (∀ j (h : j < vs.length), j + 1 = k → (wr.cell? ⟨b, off + (k - 1) * 3, none⟩ = some (.int .i64 (vs[j]).seq)) ∧ lastI (vs.take k) = (vs[j]).seq ∧ -1 ≤ (vs[j]).seq) := Lib.hid fun j hj hjk => by
        subst hjk
        refine ⟨(hvr j hj).1, lastI_take vs j hj, ?_⟩
        have h1 := HALL.out j hj (by omega)
        rw [fol_law, Bool.and_eq_true, Bool.and_eq_true] at h1
        have := of_decide_eq_true h1.2.1
        omega
      have HF : Hid ((vs[k]).folB (lastI (vs.take k)) = false → rightC vs = false) := Lib.hid fun hf => decide_eq_false fun h => by have := h k hlt2; rw [hf] at this; cases this
      have HN : Hid ((vs[k]).folB (lastI (vs.take k)) = true → ∀ i (h : i < vs.length), i < k + 1 → (vs[i]).folB (lastI (vs.take i)) = true) := Lib.hid fun hf i hi hik => by
        by_cases e : i = k
        · subst e; exact hf
        · exact HALL.out i hi (by omega)
      have HL : Hid ((vs[k]).folB (lastI (vs.take k)) = (decide (lastI (vs.take k) < (vs[k]).seq) && (decide (0 ≤ (vs[k]).seq) && (decide ((vs[k]).seq ≤ 1099511627776) && !((vs[k]).gone && !(vs[k]).val.toList.isEmpty))))) := Lib.hid (fol_law _ _)
      have h00 : k = 0 → Hid (lastI (vs.take k) = -1) := fun h => Lib.hid (by rw [h]; rfl)
      obtain ⟨x, hx⟩ : ∃ x, x = vs[k] := ⟨_, rfl⟩
      rw [← hx] at c0 c1 c2 HF HN HL
      obtain ⟨la, hla⟩ : ∃ la, la = lastI (vs.take k) := ⟨_, rfl⟩
      rw [← hla] at HF HN HL HP h00
      obtain ⟨s, t, g⟩ := x
      simp only at c0 c1 c2 HL
      have HX := Lib.hid hx
      have HLA := Lib.hid hla
      have HV := Lib.hid hvr
      clear hx hla hvr hv
      have hba := hb.alloc hz (.cells #[.int .i64 s, .string t, .bool g] 64)
      have HB := Lib.hid (fun q => below_drewN' hba q)
      clear hba
      by_cases h1 : s < 0
      · have d1 : decide (s < 0) = true := decide_eq_true h1
        have HE := Lib.hid (HF.out (by rw [HL.out, decide_eq_false (p := 0 ≤ s) (by omega)]; simp))
        clear HF HN HP h00
        go_wp2_with fail
        go_quiet (fail)
        go_wp2
        go_ret
        exact ⟨by rw [HE.out]; rfl, HB.out _⟩
      have d1 : decide (s < 0) = false := decide_eq_false h1
      by_cases h2 : 1099511627776 < s
      · have d2 : decide (1099511627776 < s) = true := decide_eq_true h2
        have HE := Lib.hid (HF.out (by rw [HL.out, decide_eq_false (p := s ≤ 1099511627776) (by omega)]; simp))
        clear HF HN HP h00
        go_wp2_with fail
        go_quiet (fail)
        go_wp2
        go_ret
        exact ⟨by rw [HE.out]; rfl, HB.out _⟩
      have d2 : decide (1099511627776 < s) = false := decide_eq_false h2
      have l2 : decide (0 ≤ s) = true := decide_eq_true (by omega)
      have l3 : decide (s ≤ 1099511627776) = true := decide_eq_true (by omega)
      rw [l2, l3, Bool.true_and, Bool.true_and] at HL
      clear l2 l3
      by_cases hk0 : k = 0
      · have HLT : Hid (decide (la < s) = true) := Lib.hid (by rw [(h00 hk0).out]; exact decide_eq_true (by omega))
        have dk : decide ((0 : Int) < (k : Int)) = false := decide_eq_false (by omega)
        have dk2 : decide (0 < k) = false := decide_eq_false (by omega)
        have HK := Lib.hid hk0
        have hkl : (k : Int) < (vs.length : Int) := by omega
        clear HP h00 h1 h2 hk0
        cases g
        · have HE : Hid (Ver.folB ⟨s, t, false⟩ la = true) := Lib.hid (by rw [HL.out, HLT.out]; rfl)
          have HN2 := Lib.hid (HN.out HE.out)
          clear HF HN
          go_wp2_with fail
          go_quiet (fail)
          go_wp2
          go_roundw
          case rel => exact ⟨k + 1, by omega, by go_num, HB.out _, HN2⟩
          case measure => simp [intOf]; omega
        · by_cases h4 : t.toList = []
          · have HE : Hid (Ver.folB ⟨s, t, true⟩ la = true) := Lib.hid (by rw [HL.out, HLT.out, h4]; rfl)
            have e4 : t.toList.isEmpty = true := by rw [h4]; rfl
            have HN2 := Lib.hid (HN.out HE.out)
            clear HF HN
            go_wp2_with fail
            go_quiet (fail)
            go_wp2
            go_roundw
            case rel => exact ⟨k + 1, by omega, by go_num, HB.out _, HN2⟩
            case measure => simp [intOf]; omega
          · have e4 : t.toList.isEmpty = false := by simpa using h4
            have e5 : (!t.toList.isEmpty) = true := by rw [e4]; rfl
            have HE := Lib.hid (HF.out (by rw [HL.out, HLT.out, e4]; rfl))
            clear HF HN
            go_wp2_with fail
            go_quiet (fail)
            go_wp2
            go_ret
            exact ⟨by rw [HE.out]; rfl, HB.out _⟩
      · obtain ⟨hp, hq, hr⟩ := HP.out (k - 1) (by omega) (by omega)
        generalize (vs[k - 1]'(by omega)).seq = p at hp hq hr
        have hw1 : IntKind.i64.wrap ((k : Int) - 1) = (k : Int) - 1 := by rw [IntKind.wrap_i64]; omega
        have hw2 : (0 : Int) ≤ (k : Int) - 1 := by omega
        have hw3 : ((k : Int) - 1).toNat = k - 1 := by omega
        have hw4 : (1 : Int) ≤ (k : Int) := by omega
        have hw5 : (k : Int) - 1 < (vs.length : Int) := by omega
        have hk1 : (0 : Int) < (k : Int) := by omega
        have hk2 : 0 < k := by omega
        clear HP h00 h1 h2 hk0
        by_cases h5 : s ≤ p
        · have d5 : decide (s ≤ p) = true := decide_eq_true h5
          have HE := Lib.hid (HF.out (by rw [HL.out, hq, decide_eq_false (p := p < s) (by omega)]; rfl))
          clear HF HN hq
          go_wp2_with fail
          go_quiet (fail)
          go_wp2
          go_ret
          exact ⟨by rw [HE.out]; rfl, HB.out _⟩
        have d5 : decide (s ≤ p) = false := decide_eq_false h5
        have HLT : Hid (decide (la < s) = true) := Lib.hid (by rw [hq]; exact decide_eq_true (by omega))
        clear hq h5
        cases g
        · have HE : Hid (Ver.folB ⟨s, t, false⟩ la = true) := Lib.hid (by rw [HL.out, HLT.out]; rfl)
          have HN2 := Lib.hid (HN.out HE.out)
          clear HF HN
          go_wp2_with fail
          go_quiet (fail)
          go_wp2
          go_roundw
          case rel => exact ⟨k + 1, by omega, by go_num, HB.out _, HN2⟩
          case measure => simp [intOf]; omega
        · by_cases h4 : t.toList = []
          · have HE : Hid (Ver.folB ⟨s, t, true⟩ la = true) := Lib.hid (by rw [HL.out, HLT.out, h4]; rfl)
            have e4 : t.toList.isEmpty = true := by rw [h4]; rfl
            have HN2 := Lib.hid (HN.out HE.out)
            clear HF HN
            go_wp2_with fail
            go_quiet (fail)
            go_wp2
            go_roundw
            case rel => exact ⟨k + 1, by omega, by go_num, HB.out _, HN2⟩
            case measure => simp [intOf]; omega
          · have e4 : t.toList.isEmpty = false := by simpa using h4
            have e5 : (!t.toList.isEmpty) = true := by rw [e4]; rfl
            have HE := Lib.hid (HF.out (by rw [HL.out, HLT.out, e4]; rfl))
            clear HF HN
            go_wp2_with fail
            go_quiet (fail)
            go_wp2
            go_ret
            exact ⟨by rw [HE.out]; rfl, HB.out _⟩
    · have HF : Hid (rightC vs = true) := Lib.hid (decide_eq_true fun i hi => HALL.out i hi (by omega))
      have hge : ¬ (k : Int) < (vs.length : Int) := by omega
      clear hlt2
      go_wp2
      go_ret
      exact ⟨by rw [HF.out]; rfl, hb⟩

theorem lright_none (a : Option Addr) (c : Nat) (w : World) :
    Calls Try.prog 26 #[.slice a 0 c] w fun e w' => e = .returned (.bool (rightC [])) ∧ Below w.heap.size w w' := by
  have HF : Hid (rightC [] = true) := Lib.hid (decide_eq_true fun i hi => absurd hi (Nat.not_lt_zero _))
  go_enter Try.func26, Try.ntmps26
  go_wp2
  refine wp_loop_rounds 1 ?_
  rw [rounds_succ]
  go_wp2
  go_ret
  exact ⟨by rw [HF.out]; rfl, Below.refl _ _⟩

theorem lright_any (a : Option Addr) (c : Nat) (vs : List Ver) (w : World) (h : ChIs w a vs) :
    Calls Try.prog 26 #[.slice a vs.length c] w fun e w' => e = .returned (.bool (rightC vs)) ∧ Below w.heap.size w w' := by
  rcases h.2 with rfl | ⟨b, off, rfl, hlt, hv⟩
  · exact lright_none a c w
  · exact lright_some b off c vs w h.1 hlt hv

end Go.Proofs.Ytgjgiokdplglbaa
