/-
  ValLists: for every two slices of numbers the law's function returns true, and writes nothing that was there.
-/
import Derived.Test.YtmpdmiloolbpbaaVListOf
namespace Go.Proofs.Ytmpdmiloolbpbaa
open Go.RowKit

theorem cmpI_three (a b : Int) : cmpI a b = -1 ∨ cmpI a b = 0 ∨ cmpI a b = 1 := by unfold cmpI; split <;> (try split) <;> simp
theorem cmp_ofInt (a b : Int) : (V.ofInt a).cmp (V.ofInt b) = cmpI a b := cmp_int _ _ rfl rfl

theorem cmp_ints : ∀ (a b : List Int), cmpVs (intsV a) (intsV b) = -1 ∨ cmpVs (intsV a) (intsV b) = 0 ∨ cmpVs (intsV a) (intsV b) = 1
  | [], [] => by simp [intsV, cmpVs]
  | [], y :: b => by simp [intsV, cmpVs]
  | x :: a, [] => by simp [intsV, cmpVs]
  | x :: a, y :: b => by
    rw [intsV, intsV, List.map_cons, List.map_cons, cmpVs, cmp_ofInt]
    by_cases h : cmpI x y = 0
    · rw [if_neg (fun g => g h)]; exact cmp_ints a b
    · rw [if_pos h]; exact cmpI_three x y

theorem ints_at {a b : List Int} {j : Nat} (h : j < a.length) (h2 : j < b.length) : cmpVs ((intsV a).drop j) ((intsV b).drop j) = if cmpI a[j] b[j] ≠ 0 then cmpI a[j] b[j] else cmpVs ((intsV a).drop (j + 1)) ((intsV b).drop (j + 1)) := by
  rw [cmpVs_at (by rw [intsV_length]; exact h) (by rw [intsV_length]; exact h2)]
  simp only [intsV, List.getElem_map, cmp_ofInt]

theorem ints_end {a b : List Int} {j : Nat} (h : j ≤ a.length) (h2 : j ≤ b.length) (h3 : ¬ (j < a.length ∧ j < b.length)) : cmpVs ((intsV a).drop j) ((intsV b).drop j) = min 1 (max (-1) ((a.length : Int) - b.length)) := by
  have la := intsV_length a
  have lb := intsV_length b
  by_cases h4 : j < a.length
  · rw [cmpVs_long (by rw [la]; exact h4) (by rw [lb]; omega)]; omega
  · rw [cmpVs_end (by rw [la]; omega) (by rw [lb]; exact h2), la, lb]
    split <;> omega

theorem ints_right (zs : List Int) : (V.ofList (intsV zs)).right 32 = true :=
  right_ofList _ (by omega) fun x hx => by
    obtain ⟨z, _, rfl⟩ := List.mem_map.1 hx
    exact right_ofInt z (by omega)

end Go.Proofs.Ytmpdmiloolbpbaa
namespace Go.Proofs.Ytmpdmiloolbpbaa.valLists
open Go.RowKit

set_option maxHeartbeats 4000000 in
set_option maxRecDepth 100000 in
theorem walk {w : World} (a : Option Addr) (la ca : Nat) (za : List Int) (hra : IsRow .i64 w a la ca za) (b : Option Addr) (lb cb : Nat) (zb : List Int) (hrb : IsRow .i64 w b lb cb zb) :
    Calls Try.prog 9 #[.slice a la ca, .slice b lb cb] w fun e w' => e = .returned (.bool true) ∧ Below w.heap.size w w' := by
  by_cases hA : 30 < la
  · have hA' : (30 : Int) < (la : Int) := by omega
    go_enter Try.func9, Try.ntmps9
    go_wp2_with (go_at_call 12; refine (head_any _).mono ?_; rintro e w1 ⟨rfl, hb1⟩)
    go_ret
    exact ⟨rfl, hb1⟩
  have hA' : ¬ (30 : Int) < (la : Int) := by omega
  by_cases hB : 30 < lb
  · have hB' : (30 : Int) < (lb : Int) := by omega
    go_enter Try.func9, Try.ntmps9
    go_wp2_with (go_at_call 12; refine (head_any _).mono ?_; rintro e w1 ⟨rfl, hb1⟩)
    go_ret
    exact ⟨rfl, hb1⟩
  have hB' : ¬ (30 : Int) < (lb : Int) := by omega
  have HLA := Lib.hid (row_len hra)
  have HLB := Lib.hid (row_len hrb)
  have HRA := Lib.hid (fun W (h : Below w.heap.size w W) => rowB.isRow_below hra h)
  have HRB := Lib.hid (fun W (h : Below w.heap.size w W) => rowB.isRow_below hrb h)
  obtain ⟨C, hC⟩ : ∃ C, C = cmpVs (intsV (za.take la)) (intsV (zb.take lb)) := ⟨_, rfl⟩
  have HC := Lib.hid hC
  have h3 := cmp_ints (za.take la) (zb.take lb)
  rw [← hC] at h3
  have H3 := Lib.hid h3
  clear hra hrb hC h3
  go_enter Try.func9, Try.ntmps9
  go_wp2_with fail
  refine (head_any _).mono ?_
  rintro e w1 ⟨rfl, hb1⟩
  go_wp2_with fail
  go_loopw [6, 7] (fun c i wr => ∃ (j : Nat) (n : Int), j ≤ la ∧ j ≤ lb ∧ i = .int .i64 j ∧ c = .int .i64 n ∧ Below w.heap.size w wr ∧ Hid ((n = 0 ∧ C = cmpVs ((intsV (za.take la)).drop j) ((intsV (zb.take lb)).drop j)) ∨ (n ≠ 0 ∧ C = n))) (fun _ i _ => la - (intOf i).toNat)
  case atStart => exact ⟨0, 0, Nat.zero_le _, Nat.zero_le _, rfl, rfl, hb1, Lib.hid (.inl ⟨rfl, by rw [HC.out]; rfl⟩)⟩
  case round =>
    clear hb1
    obtain ⟨j, n, hj, hj2, rfl, rfl, hbr, HN⟩ := hrel
    have hzr := hbr.size
    by_cases hgo : (j < la ∧ j < lb) ∧ n = 0
    · obtain ⟨⟨hjl, hjm⟩, hn0⟩ := hgo
      have hjl' : (j : Int) < (la : Int) := by omega
      have hjm' : (j : Int) < (lb : Int) := by omega
      have hj0 : (0 : Int) ≤ (j : Int) := by omega
      have hCj : Hid (C = cmpVs ((intsV (za.take la)).drop j) ((intsV (zb.take lb)).drop j)) := Lib.hid (by
        rcases HN.out with ⟨_, h⟩ | ⟨h, _⟩
        · exact h
        · exact absurd hn0 h)
      rcases HRA.out wr hbr with ⟨_, h0, _⟩ | ⟨x, rfl, _, _, hza, hca, _⟩
      · omega
      rcases HRB.out wr hbr with ⟨_, h0, _⟩ | ⟨y, rfl, _, _, hzb, hcb, _⟩
      · omega
      have q0 := hca j (by omega)
      have p0 := hcb j (by omega)
      have hst := ints_at (a := za.take la) (b := zb.take lb) (j := j) (by rw [HLA.out]; exact hjl) (by rw [HLB.out]; exact hjm)
      have hga : (za.take la)[j]'(by rw [HLA.out]; exact hjl) = za.getD j 0 := by rw [List.getElem_take]; simp [List.getD, List.getElem?_eq_getElem (show j < za.length by omega)]
      have hgb : (zb.take lb)[j]'(by rw [HLB.out]; exact hjm) = zb.getD j 0 := by rw [List.getElem_take]; simp [List.getD, List.getElem?_eq_getElem (show j < zb.length by omega)]
      rw [hga, hgb] at hst
      generalize za.getD j 0 = s at q0 hst
      generalize zb.getD j 0 = t at p0 hst
      have HST := Lib.hid hst
      obtain rfl := hn0
      clear hst hga hgb hca hcb hza hzb HN
      by_cases hlt : s < t
      · have hE : Hid (C = -1) := Lib.hid (by
          have e : cmpI s t = -1 := by unfold cmpI; rw [if_pos hlt]
          rw [hCj.out, HST.out, e]; simp)
        have hlt2 : ¬ t < s := by omega
        go_wp2_with fail
        go_quiet (fail)
        go_wp2_with fail
        go_quiet (fail)
        go_wp2
        go_roundw
        case rel => exact ⟨j + 1, -1, by omega, by omega, by go_num, rfl, rowB.below_drewN hbr _, Lib.hid (.inr ⟨by decide, hE.out⟩)⟩
        case measure => simp [intOf]; omega
      · by_cases hgt : t < s
        · have hE : Hid (C = 1) := Lib.hid (by
            have e : cmpI s t = 1 := by unfold cmpI; rw [if_neg hlt, if_pos hgt]
            rw [hCj.out, HST.out, e]; simp)
          go_wp2_with fail
          go_quiet (fail)
          go_wp2_with fail
          go_quiet (fail)
          go_wp2
          go_roundw
          case rel => exact ⟨j + 1, 1, by omega, by omega, by go_num, rfl, rowB.below_drewN hbr _, Lib.hid (.inr ⟨by decide, hE.out⟩)⟩
          case measure => simp [intOf]; omega
        · have hE : Hid (C = cmpVs ((intsV (za.take la)).drop (j + 1)) ((intsV (zb.take lb)).drop (j + 1))) := Lib.hid (by
            have e : cmpI s t = 0 := by unfold cmpI; rw [if_neg hlt, if_neg hgt]
            rw [hCj.out, HST.out, e]; simp)
          go_wp2_with fail
          go_quiet (fail)
          go_wp2_with fail
          go_quiet (fail)
          go_wp2
          go_roundw
          case rel => exact ⟨j + 1, 0, by omega, by omega, by go_num, rfl, rowB.below_drewN hbr _, Lib.hid (.inl ⟨rfl, hE.out⟩)⟩
          case measure => simp [intOf]; omega
    · have hz : n = 0 → Hid (C = min 1 (max (-1) ((la : Int) - lb))) := fun h0 => Lib.hid (by
        rcases HN.out with ⟨_, h⟩ | ⟨h, _⟩
        · rw [h, ints_end (by rw [HLA.out]; exact hj) (by rw [HLB.out]; exact hj2) (by rw [HLA.out, HLB.out]; exact fun g => hgo ⟨g, h0⟩), HLA.out, HLB.out]
        · exact absurd h0 h)
      have hnz : n ≠ 0 → Hid (C = n) := fun h0 => Lib.hid (by
        rcases HN.out with ⟨h, _⟩ | ⟨_, h⟩
        · exact absurd h h0
        · exact h)
      -- behind the loop: the same for every way out of it
      have hways : (n = 0 ∧ ¬ j < la) ∨ (n = 0 ∧ j < la ∧ ¬ j < lb) ∨ (n ≠ 0 ∧ ¬ j < la) ∨ (n ≠ 0 ∧ j < la ∧ ¬ j < lb) ∨ (n ≠ 0 ∧ j < la ∧ j < lb) := by
        by_cases h1 : n = 0
        · by_cases h2 : j < la
          · exact .inr (.inl ⟨h1, h2, fun h3 => hgo ⟨⟨h2, h3⟩, h1⟩⟩)
          · exact .inl ⟨h1, h2⟩
        · by_cases h2 : j < la
          · by_cases h3 : j < lb
            · exact .inr (.inr (.inr (.inr ⟨h1, h2, h3⟩)))
            · exact .inr (.inr (.inr (.inl ⟨h1, h2, h3⟩)))
          · exact .inr (.inr (.inl ⟨h1, h2⟩))
      clear HN hgo
      rcases hways with ⟨h1, h2⟩ | ⟨h1, h2, h3⟩ | ⟨h1, h2⟩ | ⟨h1, h2, h3⟩ | ⟨h1, h2, h3⟩
      · have g1 : (n == 0) = true := by rw [beq_iff_eq]; exact h1
        have hEQ : (min 1 (max (-1) C) == min 1 (max (-1) ((la : Int) - (lb : Int)))) = true := by
          have h := (hz h1).out
          rw [beq_iff_eq]; omega
        have g2 : ¬ (j : Int) < (la : Int) := by omega
        clear hz hnz h1 h2
        go_wp2_with fail
        refine (listOf_any a la ca za _ (HRA.out _ hbr) (by omega)).mono ?_
        rintro e w2 ⟨lv2, rfl, hat2, hb2⟩
        have hbw2 := hbr.trans (hb2.mono hzr)
        go_wp2_with fail
        refine (listOf_any b lb cb zb _ (HRB.out _ hbw2) (by omega)).mono ?_
        rintro e w3 ⟨lv3, rfl, hat3, hb3⟩
        have hbw3 := hbw2.trans (hb3.mono hbw2.size)
        have hcmp := cmp_any (V.ofList (intsV (za.take la))) (V.ofList (intsV (zb.take lb))) _ _ _ _ w3 (V.Is.below hat2.is hb3) hat3.is
        rw [cmp_list (V.ofList (intsV (za.take la))) (V.ofList (intsV (zb.take lb))) rfl rfl, show cmpVs (V.ofList (intsV (za.take la))).list (V.ofList (intsV (zb.take lb))).list = C from HC.out.symm] at hcmp
        clear hb2 hat2 hb3 hat3 hbw2
        go_wp2_with fail
        refine hcmp.mono ?_
        rintro e w4 ⟨rfl, hb4⟩
        have hbw4 := hbw3.trans (hb4.mono hbw3.size)
        clear hcmp hb4 hbw3
        go_wp2_with fail
        refine (listOf_any a la ca za _ (HRA.out _ hbw4) (by omega)).mono ?_
        rintro e w5 ⟨lv5, rfl, hat5, hb5⟩
        have hbw5 := hbw4.trans (hb5.mono hbw4.size)
        have hri := right_any (V.ofList (intsV (za.take la))) _ _ w5 hat5.is
        rw [ints_right] at hri
        clear hb5 hbw4 hat5
        go_wp2_with fail
        refine hri.mono ?_
        rintro e w6 ⟨rfl, hb6⟩
        have hbw6 := hbw5.trans (hb6.mono hbw5.size)
        clear hri hb6 hbw5
        go_wp2_with fail
        refine (ofBool_any false w6).mono ?_
        rintro e w7 ⟨rfl, hb7⟩
        have hbw7 := hbw6.trans (hb7.mono hbw6.size)
        clear hb7 hbw6
        go_wp2_with fail
        refine (ofBool_any true w7).mono ?_
        rintro e w8 ⟨rfl, hb8⟩
        have hbw8 := hbw7.trans (hb8.mono hbw7.size)
        clear hb8 hbw7
        have hcmp := cmp_any (V.ofBool false) (V.ofBool true) _ _ _ _ w8 (none_at w8 All (V.ofBool false) rfl rfl) (none_at w8 All (V.ofBool true) rfl rfl)
        rw [cmp_bool (V.ofBool false) (V.ofBool true) rfl rfl, show cmpYes (V.ofBool false).yes (V.ofBool true).yes = -1 from rfl] at hcmp
        go_wp2_with fail
        refine hcmp.mono ?_
        rintro e w9 ⟨rfl, hb9⟩
        have hbw9 := hbw8.trans (hb9.mono hbw8.size)
        clear hcmp hb9 hbw8
        go_wp2_with fail
        refine (listOf_any a la ca za _ (HRA.out _ hbw9) (by omega)).mono ?_
        rintro e w10 ⟨lv10, rfl, hat10, hb10⟩
        have hbw10 := hbw9.trans (hb10.mono hbw9.size)
        clear hb10 hbw9
        go_wp2_with fail
        refine (ofText_any _ w10).mono ?_
        rintro e w11 ⟨rfl, hb11⟩
        have hbw11 := hbw10.trans (hb11.mono hbw10.size)
        have hcmp := cmp_any (V.ofList (intsV (za.take la))) (V.ofText ⟨#[122]⟩) _ _ _ _ w11 (V.Is.below hat10.is hb11) (none_at w11 All (V.ofText ⟨#[122]⟩) rfl rfl)
        rw [cmp_kinds (V.ofList (intsV (za.take la))) (V.ofText ⟨#[122]⟩) (show (4 : Int) ≠ 3 by decide), show cmpI (V.ofList (intsV (za.take la))).kind (V.ofText ⟨#[122]⟩).kind = 1 from rfl] at hcmp
        clear hb11 hbw10 hat10
        go_wp2_with fail
        refine hcmp.mono ?_
        rintro e w12 ⟨rfl, hb12⟩
        have hbw12 := hbw11.trans (hb12.mono hbw11.size)
        clear hcmp hb12 hbw11
        go_wp2
        go_ret
        exact ⟨rfl, hbw12⟩
      · have g1 : (n == 0) = true := by rw [beq_iff_eq]; exact h1
        have hEQ : (min 1 (max (-1) C) == min 1 (max (-1) ((la : Int) - (lb : Int)))) = true := by
          have h := (hz h1).out
          rw [beq_iff_eq]; omega
        have g2 : (j : Int) < (la : Int) := by omega
        have g3 : ¬ (j : Int) < (lb : Int) := by omega
        clear hz hnz h1 h2 h3
        go_wp2_with fail
        refine (listOf_any a la ca za _ (HRA.out _ hbr) (by omega)).mono ?_
        rintro e w2 ⟨lv2, rfl, hat2, hb2⟩
        have hbw2 := hbr.trans (hb2.mono hzr)
        go_wp2_with fail
        refine (listOf_any b lb cb zb _ (HRB.out _ hbw2) (by omega)).mono ?_
        rintro e w3 ⟨lv3, rfl, hat3, hb3⟩
        have hbw3 := hbw2.trans (hb3.mono hbw2.size)
        have hcmp := cmp_any (V.ofList (intsV (za.take la))) (V.ofList (intsV (zb.take lb))) _ _ _ _ w3 (V.Is.below hat2.is hb3) hat3.is
        rw [cmp_list (V.ofList (intsV (za.take la))) (V.ofList (intsV (zb.take lb))) rfl rfl, show cmpVs (V.ofList (intsV (za.take la))).list (V.ofList (intsV (zb.take lb))).list = C from HC.out.symm] at hcmp
        clear hb2 hat2 hb3 hat3 hbw2
        go_wp2_with fail
        refine hcmp.mono ?_
        rintro e w4 ⟨rfl, hb4⟩
        have hbw4 := hbw3.trans (hb4.mono hbw3.size)
        clear hcmp hb4 hbw3
        go_wp2_with fail
        refine (listOf_any a la ca za _ (HRA.out _ hbw4) (by omega)).mono ?_
        rintro e w5 ⟨lv5, rfl, hat5, hb5⟩
        have hbw5 := hbw4.trans (hb5.mono hbw4.size)
        have hri := right_any (V.ofList (intsV (za.take la))) _ _ w5 hat5.is
        rw [ints_right] at hri
        clear hb5 hbw4 hat5
        go_wp2_with fail
        refine hri.mono ?_
        rintro e w6 ⟨rfl, hb6⟩
        have hbw6 := hbw5.trans (hb6.mono hbw5.size)
        clear hri hb6 hbw5
        go_wp2_with fail
        refine (ofBool_any false w6).mono ?_
        rintro e w7 ⟨rfl, hb7⟩
        have hbw7 := hbw6.trans (hb7.mono hbw6.size)
        clear hb7 hbw6
        go_wp2_with fail
        refine (ofBool_any true w7).mono ?_
        rintro e w8 ⟨rfl, hb8⟩
        have hbw8 := hbw7.trans (hb8.mono hbw7.size)
        clear hb8 hbw7
        have hcmp := cmp_any (V.ofBool false) (V.ofBool true) _ _ _ _ w8 (none_at w8 All (V.ofBool false) rfl rfl) (none_at w8 All (V.ofBool true) rfl rfl)
        rw [cmp_bool (V.ofBool false) (V.ofBool true) rfl rfl, show cmpYes (V.ofBool false).yes (V.ofBool true).yes = -1 from rfl] at hcmp
        go_wp2_with fail
        refine hcmp.mono ?_
        rintro e w9 ⟨rfl, hb9⟩
        have hbw9 := hbw8.trans (hb9.mono hbw8.size)
        clear hcmp hb9 hbw8
        go_wp2_with fail
        refine (listOf_any a la ca za _ (HRA.out _ hbw9) (by omega)).mono ?_
        rintro e w10 ⟨lv10, rfl, hat10, hb10⟩
        have hbw10 := hbw9.trans (hb10.mono hbw9.size)
        clear hb10 hbw9
        go_wp2_with fail
        refine (ofText_any _ w10).mono ?_
        rintro e w11 ⟨rfl, hb11⟩
        have hbw11 := hbw10.trans (hb11.mono hbw10.size)
        have hcmp := cmp_any (V.ofList (intsV (za.take la))) (V.ofText ⟨#[122]⟩) _ _ _ _ w11 (V.Is.below hat10.is hb11) (none_at w11 All (V.ofText ⟨#[122]⟩) rfl rfl)
        rw [cmp_kinds (V.ofList (intsV (za.take la))) (V.ofText ⟨#[122]⟩) (show (4 : Int) ≠ 3 by decide), show cmpI (V.ofList (intsV (za.take la))).kind (V.ofText ⟨#[122]⟩).kind = 1 from rfl] at hcmp
        clear hb11 hbw10 hat10
        go_wp2_with fail
        refine hcmp.mono ?_
        rintro e w12 ⟨rfl, hb12⟩
        have hbw12 := hbw11.trans (hb12.mono hbw11.size)
        clear hcmp hb12 hbw11
        go_wp2
        go_ret
        exact ⟨rfl, hbw12⟩
      · have g1 : (n == 0) = false := by rw [beq_eq_false_iff_ne]; exact h1
        have hEQ : (min 1 (max (-1) C) == n) = true := by
          have h := (hnz h1).out
          have h4 := H3.out
          rw [beq_iff_eq]; omega
        have g2 : ¬ (j : Int) < (la : Int) := by omega
        clear hz hnz h1 h2
        go_wp2_with fail
        refine (listOf_any a la ca za _ (HRA.out _ hbr) (by omega)).mono ?_
        rintro e w2 ⟨lv2, rfl, hat2, hb2⟩
        have hbw2 := hbr.trans (hb2.mono hzr)
        go_wp2_with fail
        refine (listOf_any b lb cb zb _ (HRB.out _ hbw2) (by omega)).mono ?_
        rintro e w3 ⟨lv3, rfl, hat3, hb3⟩
        have hbw3 := hbw2.trans (hb3.mono hbw2.size)
        have hcmp := cmp_any (V.ofList (intsV (za.take la))) (V.ofList (intsV (zb.take lb))) _ _ _ _ w3 (V.Is.below hat2.is hb3) hat3.is
        rw [cmp_list (V.ofList (intsV (za.take la))) (V.ofList (intsV (zb.take lb))) rfl rfl, show cmpVs (V.ofList (intsV (za.take la))).list (V.ofList (intsV (zb.take lb))).list = C from HC.out.symm] at hcmp
        clear hb2 hat2 hb3 hat3 hbw2
        go_wp2_with fail
        refine hcmp.mono ?_
        rintro e w4 ⟨rfl, hb4⟩
        have hbw4 := hbw3.trans (hb4.mono hbw3.size)
        clear hcmp hb4 hbw3
        go_wp2_with fail
        refine (listOf_any a la ca za _ (HRA.out _ hbw4) (by omega)).mono ?_
        rintro e w5 ⟨lv5, rfl, hat5, hb5⟩
        have hbw5 := hbw4.trans (hb5.mono hbw4.size)
        have hri := right_any (V.ofList (intsV (za.take la))) _ _ w5 hat5.is
        rw [ints_right] at hri
        clear hb5 hbw4 hat5
        go_wp2_with fail
        refine hri.mono ?_
        rintro e w6 ⟨rfl, hb6⟩
        have hbw6 := hbw5.trans (hb6.mono hbw5.size)
        clear hri hb6 hbw5
        go_wp2_with fail
        refine (ofBool_any false w6).mono ?_
        rintro e w7 ⟨rfl, hb7⟩
        have hbw7 := hbw6.trans (hb7.mono hbw6.size)
        clear hb7 hbw6
        go_wp2_with fail
        refine (ofBool_any true w7).mono ?_
        rintro e w8 ⟨rfl, hb8⟩
        have hbw8 := hbw7.trans (hb8.mono hbw7.size)
        clear hb8 hbw7
        have hcmp := cmp_any (V.ofBool false) (V.ofBool true) _ _ _ _ w8 (none_at w8 All (V.ofBool false) rfl rfl) (none_at w8 All (V.ofBool true) rfl rfl)
        rw [cmp_bool (V.ofBool false) (V.ofBool true) rfl rfl, show cmpYes (V.ofBool false).yes (V.ofBool true).yes = -1 from rfl] at hcmp
        go_wp2_with fail
        refine hcmp.mono ?_
        rintro e w9 ⟨rfl, hb9⟩
        have hbw9 := hbw8.trans (hb9.mono hbw8.size)
        clear hcmp hb9 hbw8
        go_wp2_with fail
        refine (listOf_any a la ca za _ (HRA.out _ hbw9) (by omega)).mono ?_
        rintro e w10 ⟨lv10, rfl, hat10, hb10⟩
        have hbw10 := hbw9.trans (hb10.mono hbw9.size)
        clear hb10 hbw9
        go_wp2_with fail
        refine (ofText_any _ w10).mono ?_
        rintro e w11 ⟨rfl, hb11⟩
        have hbw11 := hbw10.trans (hb11.mono hbw10.size)
        have hcmp := cmp_any (V.ofList (intsV (za.take la))) (V.ofText ⟨#[122]⟩) _ _ _ _ w11 (V.Is.below hat10.is hb11) (none_at w11 All (V.ofText ⟨#[122]⟩) rfl rfl)
        rw [cmp_kinds (V.ofList (intsV (za.take la))) (V.ofText ⟨#[122]⟩) (show (4 : Int) ≠ 3 by decide), show cmpI (V.ofList (intsV (za.take la))).kind (V.ofText ⟨#[122]⟩).kind = 1 from rfl] at hcmp
        clear hb11 hbw10 hat10
        go_wp2_with fail
        refine hcmp.mono ?_
        rintro e w12 ⟨rfl, hb12⟩
        have hbw12 := hbw11.trans (hb12.mono hbw11.size)
        clear hcmp hb12 hbw11
        go_wp2
        go_ret
        exact ⟨rfl, hbw12⟩
      · have g1 : (n == 0) = false := by rw [beq_eq_false_iff_ne]; exact h1
        have hEQ : (min 1 (max (-1) C) == n) = true := by
          have h := (hnz h1).out
          have h4 := H3.out
          rw [beq_iff_eq]; omega
        have g2 : (j : Int) < (la : Int) := by omega
        have g3 : ¬ (j : Int) < (lb : Int) := by omega
        clear hz hnz h1 h2 h3
        go_wp2_with fail
        refine (listOf_any a la ca za _ (HRA.out _ hbr) (by omega)).mono ?_
        rintro e w2 ⟨lv2, rfl, hat2, hb2⟩
        have hbw2 := hbr.trans (hb2.mono hzr)
        go_wp2_with fail
        refine (listOf_any b lb cb zb _ (HRB.out _ hbw2) (by omega)).mono ?_
        rintro e w3 ⟨lv3, rfl, hat3, hb3⟩
        have hbw3 := hbw2.trans (hb3.mono hbw2.size)
        have hcmp := cmp_any (V.ofList (intsV (za.take la))) (V.ofList (intsV (zb.take lb))) _ _ _ _ w3 (V.Is.below hat2.is hb3) hat3.is
        rw [cmp_list (V.ofList (intsV (za.take la))) (V.ofList (intsV (zb.take lb))) rfl rfl, show cmpVs (V.ofList (intsV (za.take la))).list (V.ofList (intsV (zb.take lb))).list = C from HC.out.symm] at hcmp
        clear hb2 hat2 hb3 hat3 hbw2
        go_wp2_with fail
        refine hcmp.mono ?_
        rintro e w4 ⟨rfl, hb4⟩
        have hbw4 := hbw3.trans (hb4.mono hbw3.size)
        clear hcmp hb4 hbw3
        go_wp2_with fail
        refine (listOf_any a la ca za _ (HRA.out _ hbw4) (by omega)).mono ?_
        rintro e w5 ⟨lv5, rfl, hat5, hb5⟩
        have hbw5 := hbw4.trans (hb5.mono hbw4.size)
        have hri := right_any (V.ofList (intsV (za.take la))) _ _ w5 hat5.is
        rw [ints_right] at hri
        clear hb5 hbw4 hat5
        go_wp2_with fail
        refine hri.mono ?_
        rintro e w6 ⟨rfl, hb6⟩
        have hbw6 := hbw5.trans (hb6.mono hbw5.size)
        clear hri hb6 hbw5
        go_wp2_with fail
        refine (ofBool_any false w6).mono ?_
        rintro e w7 ⟨rfl, hb7⟩
        have hbw7 := hbw6.trans (hb7.mono hbw6.size)
        clear hb7 hbw6
        go_wp2_with fail
        refine (ofBool_any true w7).mono ?_
        rintro e w8 ⟨rfl, hb8⟩
        have hbw8 := hbw7.trans (hb8.mono hbw7.size)
        clear hb8 hbw7
        have hcmp := cmp_any (V.ofBool false) (V.ofBool true) _ _ _ _ w8 (none_at w8 All (V.ofBool false) rfl rfl) (none_at w8 All (V.ofBool true) rfl rfl)
        rw [cmp_bool (V.ofBool false) (V.ofBool true) rfl rfl, show cmpYes (V.ofBool false).yes (V.ofBool true).yes = -1 from rfl] at hcmp
        go_wp2_with fail
        refine hcmp.mono ?_
        rintro e w9 ⟨rfl, hb9⟩
        have hbw9 := hbw8.trans (hb9.mono hbw8.size)
        clear hcmp hb9 hbw8
        go_wp2_with fail
        refine (listOf_any a la ca za _ (HRA.out _ hbw9) (by omega)).mono ?_
        rintro e w10 ⟨lv10, rfl, hat10, hb10⟩
        have hbw10 := hbw9.trans (hb10.mono hbw9.size)
        clear hb10 hbw9
        go_wp2_with fail
        refine (ofText_any _ w10).mono ?_
        rintro e w11 ⟨rfl, hb11⟩
        have hbw11 := hbw10.trans (hb11.mono hbw10.size)
        have hcmp := cmp_any (V.ofList (intsV (za.take la))) (V.ofText ⟨#[122]⟩) _ _ _ _ w11 (V.Is.below hat10.is hb11) (none_at w11 All (V.ofText ⟨#[122]⟩) rfl rfl)
        rw [cmp_kinds (V.ofList (intsV (za.take la))) (V.ofText ⟨#[122]⟩) (show (4 : Int) ≠ 3 by decide), show cmpI (V.ofList (intsV (za.take la))).kind (V.ofText ⟨#[122]⟩).kind = 1 from rfl] at hcmp
        clear hb11 hbw10 hat10
        go_wp2_with fail
        refine hcmp.mono ?_
        rintro e w12 ⟨rfl, hb12⟩
        have hbw12 := hbw11.trans (hb12.mono hbw11.size)
        clear hcmp hb12 hbw11
        go_wp2
        go_ret
        exact ⟨rfl, hbw12⟩
      · have g1 : (n == 0) = false := by rw [beq_eq_false_iff_ne]; exact h1
        have hEQ : (min 1 (max (-1) C) == n) = true := by
          have h := (hnz h1).out
          have h4 := H3.out
          rw [beq_iff_eq]; omega
        have g2 : (j : Int) < (la : Int) := by omega
        have g3 : (j : Int) < (lb : Int) := by omega
        clear hz hnz h1 h2 h3
        go_wp2_with fail
        refine (listOf_any a la ca za _ (HRA.out _ hbr) (by omega)).mono ?_
        rintro e w2 ⟨lv2, rfl, hat2, hb2⟩
        have hbw2 := hbr.trans (hb2.mono hzr)
        go_wp2_with fail
        refine (listOf_any b lb cb zb _ (HRB.out _ hbw2) (by omega)).mono ?_
        rintro e w3 ⟨lv3, rfl, hat3, hb3⟩
        have hbw3 := hbw2.trans (hb3.mono hbw2.size)
        have hcmp := cmp_any (V.ofList (intsV (za.take la))) (V.ofList (intsV (zb.take lb))) _ _ _ _ w3 (V.Is.below hat2.is hb3) hat3.is
        rw [cmp_list (V.ofList (intsV (za.take la))) (V.ofList (intsV (zb.take lb))) rfl rfl, show cmpVs (V.ofList (intsV (za.take la))).list (V.ofList (intsV (zb.take lb))).list = C from HC.out.symm] at hcmp
        clear hb2 hat2 hb3 hat3 hbw2
        go_wp2_with fail
        refine hcmp.mono ?_
        rintro e w4 ⟨rfl, hb4⟩
        have hbw4 := hbw3.trans (hb4.mono hbw3.size)
        clear hcmp hb4 hbw3
        go_wp2_with fail
        refine (listOf_any a la ca za _ (HRA.out _ hbw4) (by omega)).mono ?_
        rintro e w5 ⟨lv5, rfl, hat5, hb5⟩
        have hbw5 := hbw4.trans (hb5.mono hbw4.size)
        have hri := right_any (V.ofList (intsV (za.take la))) _ _ w5 hat5.is
        rw [ints_right] at hri
        clear hb5 hbw4 hat5
        go_wp2_with fail
        refine hri.mono ?_
        rintro e w6 ⟨rfl, hb6⟩
        have hbw6 := hbw5.trans (hb6.mono hbw5.size)
        clear hri hb6 hbw5
        go_wp2_with fail
        refine (ofBool_any false w6).mono ?_
        rintro e w7 ⟨rfl, hb7⟩
        have hbw7 := hbw6.trans (hb7.mono hbw6.size)
        clear hb7 hbw6
        go_wp2_with fail
        refine (ofBool_any true w7).mono ?_
        rintro e w8 ⟨rfl, hb8⟩
        have hbw8 := hbw7.trans (hb8.mono hbw7.size)
        clear hb8 hbw7
        have hcmp := cmp_any (V.ofBool false) (V.ofBool true) _ _ _ _ w8 (none_at w8 All (V.ofBool false) rfl rfl) (none_at w8 All (V.ofBool true) rfl rfl)
        rw [cmp_bool (V.ofBool false) (V.ofBool true) rfl rfl, show cmpYes (V.ofBool false).yes (V.ofBool true).yes = -1 from rfl] at hcmp
        go_wp2_with fail
        refine hcmp.mono ?_
        rintro e w9 ⟨rfl, hb9⟩
        have hbw9 := hbw8.trans (hb9.mono hbw8.size)
        clear hcmp hb9 hbw8
        go_wp2_with fail
        refine (listOf_any a la ca za _ (HRA.out _ hbw9) (by omega)).mono ?_
        rintro e w10 ⟨lv10, rfl, hat10, hb10⟩
        have hbw10 := hbw9.trans (hb10.mono hbw9.size)
        clear hb10 hbw9
        go_wp2_with fail
        refine (ofText_any _ w10).mono ?_
        rintro e w11 ⟨rfl, hb11⟩
        have hbw11 := hbw10.trans (hb11.mono hbw10.size)
        have hcmp := cmp_any (V.ofList (intsV (za.take la))) (V.ofText ⟨#[122]⟩) _ _ _ _ w11 (V.Is.below hat10.is hb11) (none_at w11 All (V.ofText ⟨#[122]⟩) rfl rfl)
        rw [cmp_kinds (V.ofList (intsV (za.take la))) (V.ofText ⟨#[122]⟩) (show (4 : Int) ≠ 3 by decide), show cmpI (V.ofList (intsV (za.take la))).kind (V.ofText ⟨#[122]⟩).kind = 1 from rfl] at hcmp
        clear hb11 hbw10 hat10
        go_wp2_with fail
        refine hcmp.mono ?_
        rintro e w12 ⟨rfl, hb12⟩
        have hbw12 := hbw11.trans (hb12.mono hbw11.size)
        clear hcmp hb12 hbw11
        go_wp2
        go_ret
        exact ⟨rfl, hbw12⟩

end Go.Proofs.Ytmpdmiloolbpbaa.valLists
