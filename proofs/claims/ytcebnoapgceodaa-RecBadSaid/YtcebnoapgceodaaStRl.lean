/-
  mailbaglaw09.Right: its walk (the law's own words for what store.Right tells).
-/
import Derived.Test.YtcebnoapgceodaaStTh
import Derived.StillTailTactics
namespace Go.Proofs.Ytcebnoapgceodaa.sT
open Go.RowKit Go.Proofs.Ytcebnoapgceodaa.tC

set_option linter.unusedVariables false
set_option linter.unusedSimpArgs false

theorem less_up (p x : Wr) : Op.bytesLess p.key.toList x.key.toList = upR p x := by
  unfold upR
  rw [Lib.toList_data, Lib.toList_data, bytesLess_eq, bytesLess_eq]
  by_cases h1 : Lt p.key x.key
  · have h2 : ¬ Lt x.key p.key := not_lt_of h1
    have h3 : ¬ x.key.data = p.key.data := fun e => lt_ne h1 (ByteArray.ext e).symm
    unfold Lt at h1 h2
    simp [h1, h2, h3]
  · by_cases h2 : x.key = p.key
    · rw [h2]
      have := Lt.irrefl p.key
      unfold Lt at this
      simp [this]
    · have h3 : Lt x.key p.key := ((key_tri p.key x.key).elim (fun h => absurd h h1) (fun h => h.elim (fun e => absurd e.symm h2) id))
      unfold Lt at h1 h3
      simp [h1, h3]

theorem empty_eq (s : ByteArray) : s.toList.isEmpty = (s.toList == ([] : List UInt8)) := by
  cases s.toList <;> rfl

/-- the ways a write is not right -/
theorem not_right {ws : List Wr} {z : Nat} (hz : z < ws.length) (h : okR ws z = false) :
    ((ws[z]).key.toList == ([] : List UInt8)) = true ∨
    (((ws[z]).key.toList == ([] : List UInt8)) = false ∧ 400 < (ws[z]).key.size) ∨
    (((ws[z]).key.toList == ([] : List UInt8)) = false ∧ (ws[z]).key.size ≤ 400 ∧ 4096 < (ws[z]).val.size) ∨
    (((ws[z]).key.toList == ([] : List UInt8)) = false ∧ (ws[z]).key.size ≤ 400 ∧ (ws[z]).val.size ≤ 4096 ∧ (ws[z]).gone = true ∧ ((ws[z]).val.toList == ([] : List UInt8)) = false) ∨
    (((ws[z]).key.toList == ([] : List UInt8)) = false ∧ (ws[z]).key.size ≤ 400 ∧ (ws[z]).val.size ≤ 4096 ∧ ((ws[z]).gone = false ∨ ((ws[z]).gone = true ∧ ((ws[z]).val.toList == ([] : List UInt8)) = true)) ∧ ∃ j, ∃ hj : z = j + 1, Op.bytesLess (ws[j]'(by omega)).key.toList (ws[z]).key.toList = false) := by
  unfold okR isR at h
  rw [List.getElem?_eq_getElem hz] at h
  simp only [empty_eq] at h
  by_cases h1 : ((ws[z]).key.toList == ([] : List UInt8)) = true
  · exact .inl h1
  · have h1' : ((ws[z]).key.toList == ([] : List UInt8)) = false := by simpa using h1
    by_cases h2 : 400 < (ws[z]).key.size
    · exact .inr (.inl ⟨h1', h2⟩)
    · by_cases h3 : 4096 < (ws[z]).val.size
      · exact .inr (.inr (.inl ⟨h1', by omega, h3⟩))
      · have e2 : (ws[z]).key.size ≤ 400 := by omega
        have e3 : (ws[z]).val.size ≤ 4096 := by omega
        by_cases h4 : (ws[z]).gone = true ∧ ((ws[z]).val.toList == ([] : List UInt8)) = false
        · exact .inr (.inr (.inr (.inl ⟨h1', e2, e3, h4.1, h4.2⟩)))
        · have h5 : (ws[z]).gone = false ∨ ((ws[z]).gone = true ∧ ((ws[z]).val.toList == ([] : List UInt8)) = true) := by
            cases hg : (ws[z]).gone with
            | false => exact .inl rfl
            | true => exact .inr ⟨rfl, by simpa [hg] using h4⟩
          refine .inr (.inr (.inr (.inr ⟨h1', e2, e3, h5, ?_⟩)))
          have h6 : (!((ws[z]).gone && !((ws[z]).val.toList == ([] : List UInt8)))) = true := by
            rcases h5 with h5 | ⟨h5, h6⟩
            · rw [h5]; rfl
            · rw [h5, h6]; rfl
          rw [h1', decide_eq_true e2, decide_eq_true e3, h6] at h
          cases z with
          | zero => simp at h
          | succ j =>
            simp only at h
            rw [List.getElem?_eq_getElem (show j < ws.length by omega)] at h
            refine ⟨j, rfl, ?_⟩
            rw [less_up]
            simpa using h
theorem is_right {ws : List Wr} {z : Nat} (hz : z < ws.length) (h : okR ws z = true) :
    ((ws[z]).key.toList == ([] : List UInt8)) = false ∧ (ws[z]).key.size ≤ 400 ∧ (ws[z]).val.size ≤ 4096 ∧ ((ws[z]).gone = false ∨ ((ws[z]).gone = true ∧ ((ws[z]).val.toList == ([] : List UInt8)) = true)) ∧ ∀ j, ∀ hj : z = j + 1, Op.bytesLess (ws[j]'(by omega)).key.toList (ws[z]).key.toList = true := by
  unfold okR isR at h
  rw [List.getElem?_eq_getElem hz] at h
  simp only [empty_eq, Bool.and_eq_true, decide_eq_true_eq, Bool.not_eq_true'] at h
  obtain ⟨⟨⟨⟨h1, h2⟩, h3⟩, h4⟩, h5⟩ := h
  refine ⟨h1, h2, h3, ?_, fun j hj => ?_⟩
  · cases hg : (ws[z]).gone with
    | false => exact .inl rfl
    | true => rw [hg] at h4; exact .inr ⟨rfl, by simpa using h4⟩
  · subst hj
    simp only at h5
    rw [List.getElem?_eq_getElem (show j < ws.length by omega)] at h5
    rw [less_up]
    exact h5

attribute [local irreducible] wpStill
/-- a still region of the law's Right, with the facts at hand -/
macro "rl_still" : tactic => `(tactic| (
  refine wp_region_still_lit (by rfl) (by kernel_rfl) ?_
  change wpStill _ _ (World.drew _) (fun a' => _) _ _
  repeat still_step
  refine wpStill_nil ?_))

set_option maxHeartbeats 2000000 in
set_option maxRecDepth 100000 in
theorem lawRight_any {W : World} {a : Option Addr} {cap : Nat} {ws : List Wr} (h : WrsIs W a ws) (hle : ws.length ≤ 1000000) :
    Calls Try.prog 24 #[.slice a ws.length cap] W fun e W' => e = .returned (.bool (rightL ws)) ∧ Below W.heap.size W W' := by
  have HW := Lib.hid h
  clear h
  obtain ⟨Q, hQ⟩ : ∃ Q : Ending → World → Prop, Q = fun e W' => e = .returned (.bool (rightL ws)) ∧ Below W.heap.size W W' := ⟨_, rfl⟩
  have HQ := Lib.hid hQ
  rw [← hQ]
  clear hQ
  go_enter Try.func24, Try.ntmps24
  go_wp2_with fail
  go_loopw [7] (fun iv wr => ∃ z : Nat, z ≤ ws.length ∧ iv = .int .i64 (z : Int) ∧ Hid (rightW ws z = true ∧ Below W.heap.size W wr)) (fun iv _ => ws.length - (intOf iv).toNat)
  case atStart => exact ⟨0, Nat.zero_le _, rfl, Lib.hid ⟨rfl, Below.refl _ _⟩⟩
  case round =>
    obtain ⟨z, hz, rfl, hst⟩ := hrel
    by_cases hzl : z < ws.length
    · have hzI : (z : Int) < (ws.length : Int) := by omega
      obtain ⟨b2, off2, rfl, hblt2, ⟨m0, m1, m2⟩, _⟩ := HW.out.at_ z hzl
      have hlow : Below W.heap.size W wr := hst.out.2
      replace m0 := (hlow.cell (p := ⟨b2, off2 + z * 3, none⟩) hblt2).trans m0
      replace m1 := (hlow.cell (p := ⟨b2, off2 + z * 3 + 1, none⟩) hblt2).trans m1
      replace m2 := (hlow.cell (p := ⟨b2, off2 + z * 3 + 2, none⟩) hblt2).trans m2
      have HNO := Lib.hid fun h => not_right hzl h
      have HYES := Lib.hid fun h => is_right hzl h
      obtain ⟨x, hx⟩ : ∃ x, x = ws[z] := ⟨_, rfl⟩
      rw [← hx] at m0 m1 m2 HNO HYES
      obtain ⟨wA, hwA⟩ : ∃ wA, wA = wr.alloc (.cells #[.string x.key, .string x.val, .bool x.gone] 48) := ⟨_, rfl⟩
      have hlowA : Below W.heap.size W wA := by rw [hwA]; exact hlow.alloc hlow.size _
      have hbx : Box wA wr.heap.size 48 #[.string x.key, .string x.val, .bool x.gone] := by rw [hwA]; exact Box.new wr _ _
      have c0 : wA.cell? ⟨wr.heap.size, 0, none⟩ = some (.string x.key) := hbx.cell 0
      have c1 : wA.cell? ⟨wr.heap.size, 1, none⟩ = some (.string x.val) := hbx.cell 1
      have c2 : wA.cell? ⟨wr.heap.size, 2, none⟩ = some (.bool x.gone) := hbx.cell 2
      have HPREV : Hid (∀ j, ∀ hj : z = j + 1, wA.cell? ⟨b2, off2 + j * 3, none⟩ = some (.string (ws[j]'(by omega)).key)) := Lib.hid fun j hj => by
        obtain ⟨b6, off6, e6, hblt6, ⟨p0, _, _⟩, _⟩ := HW.out.at_ j (by omega)
        injection e6 with e6
        injection e6 with e6 e7
        subst e6; subst e7
        exact (hlowA.cell (p := ⟨b2, off2 + j * 3, none⟩) hblt6).trans p0
      have HND : Hid (Below W.heap.size W wA.drew) := Lib.hid hlowA.drew
      have HZ := Lib.hid hzl
      have HST1 := Lib.hid hst.out.1
      cases hok : okR ws z with
      | false =>
        have HF : Hid (Q (.returned (.bool false)) wA.drew) := Lib.hid (by
          rw [HQ.out]
          refine ⟨?_, HND.out⟩
          unfold rightL
          rw [rightW_false hok hzl, Bool.and_false])
        have hcase := HNO.out hok
        obtain ⟨xk, xv, xg⟩ := x
        simp only at m0 m1 m2 c0 c1 c2 hwA hcase
        clear hx hst hlow hlowA hbx hok HNO HYES HND HST1
        rcases hcase with h1 | ⟨h1, h2⟩ | ⟨h1, h2, h3⟩ | ⟨h1, h2, h3, h4, h5⟩ | ⟨h1, h2, h3, h4, j, rfl, h5⟩
        · go_wp2_with fail
          rw [← hwA]
          clear hwA
          rl_still
          go_wp2
          first | exact HF.out | (go_ret; exact HF.out)
        · have h2I : (400 : Int) < (xk.size : Int) := by omega
          go_wp2_with fail
          rw [← hwA]
          clear hwA
          rl_still
          go_wp2
          first | exact HF.out | (go_ret; exact HF.out)
        · have h2I : ¬ (400 : Int) < (xk.size : Int) := by omega
          have h3I : (4096 : Int) < (xv.size : Int) := by omega
          go_wp2_with fail
          rw [← hwA]
          clear hwA
          rl_still
          go_wp2
          first | exact HF.out | (go_ret; exact HF.out)
        · have h2I : ¬ (400 : Int) < (xk.size : Int) := by omega
          have h3I : ¬ (4096 : Int) < (xv.size : Int) := by omega
          subst h4
          go_wp2_with fail
          rw [← hwA]
          clear hwA
          rl_still
          go_wp2
          first | exact HF.out | (go_ret; exact HF.out)
        · have h2I : ¬ (400 : Int) < (xk.size : Int) := by omega
          have h3I : ¬ (4096 : Int) < (xv.size : Int) := by omega
          have hp := HPREV.out j rfl
          have hw1 : IntKind.i64.wrap ((j : Int) + 1 - 1) = (j : Int) := by rw [IntKind.wrap_i64]; omega
          have hw2 : IntKind.i64.wrap (j : Int) = (j : Int) := by rw [IntKind.wrap_i64]; omega
          have hj0 : ¬ ((j : Int) < 0) := by omega
          have hj00 : (0 : Int) ≤ (j : Int) := by omega
          have hj1 : (0 : Int) < ((j + 1 : Nat) : Int) := by omega
          have hjl : (j : Int) < (ws.length : Int) := by omega
          obtain ⟨pk, hpk⟩ : ∃ pk, pk = (ws[j]'(by omega)).key := ⟨_, rfl⟩
          rw [← hpk] at hp h5
          clear hpk HPREV
          rcases h4 with rfl | ⟨rfl, h6⟩
          · go_wp2_with fail
            rw [← hwA]
            clear hwA
            rl_still
            go_wp2
            first | exact HF.out | (go_ret; exact HF.out)
          · go_wp2_with fail
            rw [← hwA]
            clear hwA
            rl_still
            go_wp2
            first | exact HF.out | (go_ret; exact HF.out)
      | true =>
        have HN : Hid (rightW ws (z + 1) = true ∧ Below W.heap.size W wA.drew) := Lib.hid ⟨by rw [rightW_succ, HST1.out, hok]; rfl, HND.out⟩
        have hcase := HYES.out hok
        obtain ⟨xk, xv, xg⟩ := x
        simp only at m0 m1 m2 c0 c1 c2 hwA hcase
        clear hx hst hlow hlowA hbx hok HNO HYES HND HST1
        obtain ⟨h1, h2, h3, h4, h5⟩ := hcase
        have h2I : ¬ (400 : Int) < (xk.size : Int) := by omega
        have h3I : ¬ (4096 : Int) < (xv.size : Int) := by omega
        cases z with
        | zero =>
          clear HPREV h5
          simp only [Nat.zero_mul, Nat.add_zero] at m0 m1 m2
          rcases h4 with rfl | ⟨rfl, h6⟩
          · go_wp2_with fail
            rw [← hwA]
            clear hwA
            rl_still
            go_wp2_with fail
            go_roundw
            case rel => exact ⟨1, by omega, by go_num, HN⟩
            case measure => simp [intOf]; omega
          · go_wp2_with fail
            rw [← hwA]
            clear hwA
            rl_still
            go_wp2_with fail
            go_roundw
            case rel => exact ⟨1, by omega, by go_num, HN⟩
            case measure => simp [intOf]; omega
        | succ j =>
          have hp := HPREV.out j rfl
          have hw1 : IntKind.i64.wrap ((j : Int) + 1 - 1) = (j : Int) := by rw [IntKind.wrap_i64]; omega
          have hw2 : IntKind.i64.wrap (j : Int) = (j : Int) := by rw [IntKind.wrap_i64]; omega
          have hj0 : ¬ ((j : Int) < 0) := by omega
          have hj00 : (0 : Int) ≤ (j : Int) := by omega
          have hj1 : (0 : Int) < ((j + 1 : Nat) : Int) := by omega
          have hjl : (j : Int) < (ws.length : Int) := by omega
          replace h5 := h5 j rfl
          obtain ⟨pk, hpk⟩ : ∃ pk, pk = (ws[j]'(by omega)).key := ⟨_, rfl⟩
          rw [← hpk] at hp h5
          clear hpk HPREV
          rcases h4 with rfl | ⟨rfl, h6⟩
          · go_wp2_with fail
            rw [← hwA]
            clear hwA
            rl_still
            go_wp2_with fail
            go_roundw
            case rel => exact ⟨j + 2, by omega, by go_num, HN⟩
            case measure => simp [intOf]; omega
          · go_wp2_with fail
            rw [← hwA]
            clear hwA
            rl_still
            go_wp2_with fail
            go_roundw
            case rel => exact ⟨j + 2, by omega, by go_num, HN⟩
            case measure => simp [intOf]; omega
    · obtain rfl : z = ws.length := by omega
      have hzI : ¬ (ws.length : Int) < (ws.length : Int) := by omega
      have HF : Hid (Q (.returned (.bool (decide ((ws.length : Int) ≤ 200)))) wr) := Lib.hid (by
        rw [HQ.out]
        refine ⟨?_, hst.out.2⟩
        unfold rightL
        rw [hst.out.1, Bool.and_true]
        congr 3
        simp only [eq_iff_iff]
        omega)
      clear hst
      go_wp2
      first | exact HF.out | (go_ret; exact HF.out)

end Go.Proofs.Ytcebnoapgceodaa.sT
