/-
  The walk of mailbaglaw04.DiskMoves.
-/
import Derived.Test.YtkeopkhbcmeplaaDCuts
namespace Go.Proofs.Ytkeopkhbcmeplaa
open Go.RowKit

def twoM (la : L8) (sa : Nat) (lb : L8) (sb : Nat) (R F : Int) : MS := ⟨[⟨[120], la, sa⟩, ⟨[121], lb, sb⟩], R, false, F⟩

theorem app_second (b : ByteArray) (la : L8) (sa : Nat) (R F : Int) (hb : (la.length : Int) + (b.size : Int) ≤ R) : (oneM [120] la sa R F).app ⟨#[121]⟩ b = (0, twoM la sa (bl b) 0 R F) := by
  unfold MS.app
  rw [if_neg (by rw [nameB_eq]; decide), if_neg (by unfold MS.room oneM sumF; simp; omega)]
  rfl
theorem sync_second (la : L8) (sa : Nat) (lb : L8) (sb : Nat) (R F : Int) : (twoM la sa lb sb R F).sync ⟨#[121]⟩ = (0, twoM la sa lb lb.length R F) := rfl
theorem ren_over (la : L8) (sa : Nat) (lb : L8) (sb : Nat) (R F : Int) : (twoM la sa lb sb R F).ren ⟨#[120]⟩ ⟨#[121]⟩ = (0, oneM [121] la sa R F) := by
  unfold MS.ren
  rw [if_neg (by rw [nameB_eq]; decide)]
  rfl
theorem ren_self (la : L8) (sa : Nat) (lb : L8) (sb : Nat) (R F : Int) : (twoM la sa lb sb R F).ren ⟨#[120]⟩ ⟨#[120]⟩ = (0, twoM la sa lb sb R F) := by
  unfold MS.ren
  rw [if_neg (by rw [nameB_eq]; decide)]
  rfl
theorem ren_none2 (la : L8) (sa : Nat) (lb : L8) (sb : Nat) (R F : Int) : (twoM la sa lb sb R F).ren ⟨#[110, 111, 110, 101]⟩ ⟨#[122]⟩ = (5, twoM la sa lb sb R F) := by
  unfold MS.ren
  rw [if_neg (by rw [nameB_eq]; decide)]
  rfl
theorem ren_none1 (la : L8) (sa : Nat) (R F : Int) : (oneM [121] la sa R F).ren ⟨#[110, 111, 110, 101]⟩ ⟨#[122]⟩ = (5, oneM [121] la sa R F) := by
  unfold MS.ren
  rw [if_neg (by rw [nameB_eq]; decide)]
  rfl

end Go.Proofs.Ytkeopkhbcmeplaa
namespace Go.Proofs.Ytkeopkhbcmeplaa.diskMoves
open Go.RowKit

set_option maxHeartbeats 4000000 in
set_option maxRecDepth 100000 in
theorem walk_few {w : World} (a b : ByteArray) (z : Int) (g : Bool) (ha : a.size ≤ 60) (hb : b.size ≤ 60) :
    Calls Try.prog 8 #[.string a, .string b, .int .i64 z, .bool g] w fun e w' => e = .returned (.bool true) ∧ Below w.heap.size w w' := by
  obtain ⟨k, hk, hk2⟩ := mask_255 z
  obtain ⟨s, hs, hs2⟩ : ∃ s : Nat, (k : Int) % ((a.size : Int) + 1) = (s : Int) ∧ s ≤ a.size := by
    have h1 := Int.emod_nonneg (k : Int) (show ((a.size : Int) + 1) ≠ 0 by omega)
    have h2 := Int.emod_lt_of_pos (k : Int) (show 0 < ((a.size : Int) + 1) by omega)
    exact ⟨((k : Int) % ((a.size : Int) + 1)).toNat, by omega, by omega⟩
  have hs3 : (s : Int) ≤ (a.size : Int) := by omega
  have hs1 : Int.tmod (k : Int) ((a.size : Int) + 1) = (s : Int) := by rw [Int.tmod_eq_emod_of_nonneg (by omega)]; exact hs
  have ha2 : ¬ (60 : Int) < (a.size : Int) := by omega
  have hb2 : ¬ (60 : Int) < (b.size : Int) := by omega
  have e1 : turned (noneM 1000 (-1)) (fun M => M.app ⟨#[120]⟩ (a.extract 0 s)) = (0, oneM [120] ((bl a).take s) 0 1000 (-1)) := by
    rw [turn_on rfl rfl]
    have := app_first ⟨#[120]⟩ (a.extract 0 s) 1000 (-1) (by rw [nameB_eq]; rfl) (by rw [ByteArray.size_extract]; omega)
    rw [bl_extract, Nat.sub_zero, List.drop_zero] at this
    exact this
  have e2 : turned (oneM [120] ((bl a).take s) 0 1000 (-1)) (fun M => M.sync ⟨#[120]⟩) = (0, oneM [120] ((bl a).take s) s 1000 (-1)) := by
    rw [turn_on rfl rfl]
    have := sync_one ⟨#[120]⟩ ((bl a).take s) 0 1000 (-1)
    rw [show ((bl a).take s).length = s by rw [List.length_take, bl_length]; omega] at this
    exact this
  have e3 : turned (oneM [120] ((bl a).take s) s 1000 (-1)) (fun M => M.app ⟨#[120]⟩ (a.extract s a.size)) = (0, oneM [120] (bl a) s 1000 (-1)) := by
    rw [turn_on rfl rfl]
    have := app_more ⟨#[120]⟩ (a.extract s a.size) ((bl a).take s) s 1000 (-1) (by rw [nameB_eq]; rfl) (by rw [ByteArray.size_extract, List.length_take]; omega)
    rw [bl_extract, List.take_of_length_le (l := (bl a).drop s) (by rw [List.length_drop, bl_length]; omega), List.take_append_drop] at this
    exact this
  have e4 : turned (oneM [120] (bl a) s 1000 (-1)) (fun M => M.app ⟨#[121]⟩ b) = (0, twoM (bl a) s (bl b) 0 1000 (-1)) := by
    rw [turn_on rfl rfl]; exact app_second b (bl a) s 1000 (-1) (by rw [bl_length]; omega)
  have e5 : turned (twoM (bl a) s (bl b) 0 1000 (-1)) (fun M => M.sync ⟨#[121]⟩) = (0, twoM (bl a) s (bl b) (bl b).length 1000 (-1)) := by
    rw [turn_on rfl rfl]; rfl
  have E1 := Lib.hid e1
  have E2 := Lib.hid e2
  have E3 := Lib.hid e3
  have E4 := Lib.hid e4
  have E5 := Lib.hid e5
  have HS := Lib.hid hs
  clear e1 e2 e3 e4 e5 hs
  go_enter Try.func8, Try.ntmps8
  go_wp2_with fail
  refine (dhead_any _).mono ?_
  rintro e w0 ⟨rfl, hb0⟩
  have H0 := Lib.hid hb0
  clear hb0
  go_wp2_with fail
  refine (new_dm _ 1000).mono ?_
  rintro e w1 ⟨d, rfl, hD1, hb1⟩
  have H1 := Lib.hid (And.intro (show DM w1 w0.heap.size d 0 (noneM 1000 (-1)) from hD1) (And.intro (H0.out.trans (hb1.mono H0.out.size)) (show w0.heap.size ≤ w1.heap.size from hb1.size)))
  clear hD1 hb1
  go_wp2_with fail
  have HC := app_told H1.out.1 (by omega) ⟨#[120]⟩ (a.extract 0 s) (by decide)
  rw [E1.out] at HC
  refine HC.mono ?_
  rintro e w2 ⟨rfl, hT⟩
  have H2 := Lib.hid (And.intro hT.1 (And.intro (H1.out.2.1.trans ((hT.below H1.out.2.2).mono H0.out.size)) (Nat.le_trans H1.out.2.2 (hT.below H1.out.2.2).size)))
  clear hT HC H1 E1
  go_wp2_with fail
  have HC := sync_told H2.out.1 (by omega) ⟨#[120]⟩ (by decide)
  rw [E2.out] at HC
  refine HC.mono ?_
  rintro e w3 ⟨rfl, hT⟩
  have H3 := Lib.hid (And.intro hT.1 (And.intro (H2.out.2.1.trans ((hT.below H2.out.2.2).mono H0.out.size)) (Nat.le_trans H2.out.2.2 (hT.below H2.out.2.2).size)))
  clear hT HC H2 E2
  go_wp2_with fail
  have HC := app_told H3.out.1 (by omega) ⟨#[120]⟩ (a.extract s a.size) (by decide)
  rw [E3.out] at HC
  refine HC.mono ?_
  rintro e w4 ⟨rfl, hT⟩
  have H4 := Lib.hid (And.intro hT.1 (And.intro (H3.out.2.1.trans ((hT.below H3.out.2.2).mono H0.out.size)) (Nat.le_trans H3.out.2.2 (hT.below H3.out.2.2).size)))
  clear hT HC H3 E3
  go_wp2_with fail
  have HC := app_told H4.out.1 (by omega) ⟨#[121]⟩ b (by decide)
  rw [E4.out] at HC
  refine HC.mono ?_
  rintro e w5 ⟨rfl, hT⟩
  have H5 := Lib.hid (And.intro hT.1 (And.intro (H4.out.2.1.trans ((hT.below H4.out.2.2).mono H0.out.size)) (Nat.le_trans H4.out.2.2 (hT.below H4.out.2.2).size)))
  clear hT HC H4 E4
  go_wp2_with fail
  have HC := sync_told H5.out.1 (by omega) ⟨#[121]⟩ (by decide)
  rw [E5.out] at HC
  refine HC.mono ?_
  rintro e w6 ⟨rfl, hT⟩
  have H6 := Lib.hid (And.intro hT.1 (And.intro (H5.out.2.1.trans ((hT.below H5.out.2.2).mono H0.out.size)) (Nat.le_trans H5.out.2.2 (hT.below H5.out.2.2).size)))
  clear hT HC H5 E5
  obtain ⟨tn, to2, M, hto, hto2, hren, hrd, hrx, hcr, hnone⟩ : ∃ (tn : ByteArray) (to2 : L8) (M : MS), tn = (if g then ⟨#[120]⟩ else ⟨#[121]⟩) ∧ bl tn = to2 ∧ turned (twoM (bl a) s (bl b) (bl b).length 1000 (-1)) (fun M => M.ren ⟨#[120]⟩ tn) = (0, M) ∧ M.rd to2 = (a, 0) ∧ M.rd [120] = ((if g then a else ⟨#[]⟩), (if g then 0 else 5)) ∧
      (M.crash (moreAt [] 0)).rd to2 = (a.extract 0 s, 0) ∧ turned M (fun M => M.ren ⟨#[110, 111, 110, 101]⟩ ⟨#[122]⟩) = (5, M) := by
    have hz : crZ (bl a).length s (moreAt [] 0 0) = s := by
      show crZ (bl a).length s 0 = s
      unfold crZ; rw [bl_length]; omega
    have hx : (⟨((bl a).take s).toArray⟩ : ByteArray) = a.extract 0 s := bl_inj (by rw [bl_of, bl_extract]; simp)
    cases g
    · refine ⟨⟨#[121]⟩, [121], oneM [121] (bl a) s 1000 (-1), rfl, rfl, ?_, ?_, rfl, ?_, ?_⟩
      · rw [turn_on rfl rfl]; exact ren_over _ _ _ _ _ _
      · rw [rd_one, of_bl]
      · rw [crash_one, hz, rd_one, hx]
      · rw [turn_on rfl rfl]; exact ren_none1 _ _ _ _
    · refine ⟨⟨#[120]⟩, [120], twoM (bl a) s (bl b) (bl b).length 1000 (-1), rfl, rfl, ?_, ?_, ?_, ?_, ?_⟩
      · rw [turn_on rfl rfl]; exact ren_self _ _ _ _ _ _
      · show ((⟨(bl a).toArray⟩ : ByteArray), (0 : Int)) = _
        rw [of_bl]
      · show ((⟨(bl a).toArray⟩ : ByteArray), (0 : Int)) = _
        rw [of_bl]; rfl
      · show ((⟨((bl a).take (crZ (bl a).length s (moreAt [] 0 0))).toArray⟩ : ByteArray), (0 : Int)) = _
        rw [hz, hx]
      · rw [turn_on rfl rfl]; exact ren_none2 _ _ _ _ _ _
  have htn : tn.size ≤ maxLen := by rw [hto]; cases g <;> decide
  have HREN := Lib.hid (hren ▸ ren_told H6.out.1 (by omega) ⟨#[120]⟩ tn (by decide) htn)
  have HRD := Lib.hid hrd
  have HRX := Lib.hid hrx
  have HCR := Lib.hid hcr
  have HNO := Lib.hid hnone
  have HT2 := Lib.hid hto2
  have HTN := Lib.hid htn
  clear hren hrd hrx hcr hnone hto2 htn
  have hs4 : ¬ (s : Int) < 0 := by omega
  cases g
  · simp only [Bool.false_eq_true, if_false] at hto HRX
    rw [hto] at HREN HT2 HTN
    clear hto
    go_wp2_with fail
    refine HREN.out.mono ?_
    rintro e w7 ⟨rfl, hT⟩
    have H7 := Lib.hid (And.intro hT.1 (And.intro (H6.out.2.1.trans ((hT.below H6.out.2.2).mono H0.out.size)) (Nat.le_trans H6.out.2.2 (hT.below H6.out.2.2).size)))
    clear hT HREN H6
    have HC := read_dm H7.out.1 ⟨#[121]⟩ HTN.out
    rw [HT2.out, HRD.out] at HC
    have HC := Lib.hid HC
    go_wp2_with fail
    refine HC.out.mono ?_
    rintro e w8 ⟨rfl, hb8⟩
    have H8 := Lib.hid (And.intro (H7.out.1.below hb8) (And.intro (H7.out.2.1.trans (hb8.mono H7.out.2.1.size)) (Nat.le_trans H7.out.2.2 hb8.size)))
    clear hb8 HC H7
    go_wp2_with fail
    refine (crash_dm H8.out.1 (by omega) none 0 0 [] (.inl ⟨rfl, rfl, rfl, rfl⟩)).mono ?_
    rintro e w9 ⟨d3, rfl, hD9, hb9⟩
    have H9 := Lib.hid (And.intro hD9 hb9)
    have H9b := Lib.hid (And.intro (H8.out.1.below hb9) (And.intro (H8.out.2.1.trans (hb9.mono H8.out.2.1.size)) (Nat.le_trans H8.out.2.2 hb9.size)))
    clear hD9 hb9 H8
    have HC := read_dm H9.out.1 ⟨#[121]⟩ HTN.out
    rw [HT2.out, HCR.out] at HC
    have HC := Lib.hid HC
    go_wp2_with fail
    refine HC.out.mono ?_
    rintro e w10 ⟨rfl, hb10⟩
    have H10 := Lib.hid (And.intro (H9b.out.1.below hb10) (And.intro (H9b.out.2.1.trans (hb10.mono H9b.out.2.1.size)) (Nat.le_trans H9b.out.2.2 hb10.size)))
    clear hb10 HC H9 H9b
    have HC := read_dm H10.out.1 ⟨#[120]⟩ (by decide)
    rw [show bl ⟨#[120]⟩ = [120] from rfl, HRX.out] at HC
    have HC := Lib.hid HC
    go_wp2_with fail
    refine HC.out.mono ?_
    rintro e w11 ⟨rfl, hb11⟩
    have H11 := Lib.hid (And.intro (H10.out.1.below hb11) (And.intro (H10.out.2.1.trans (hb11.mono H10.out.2.1.size)) (Nat.le_trans H10.out.2.2 hb11.size)))
    clear hb11 HC H10
    have HC := ren_told H11.out.1 (by omega) ⟨#[110, 111, 110, 101]⟩ ⟨#[122]⟩ (by decide) (by decide)
    rw [HNO.out] at HC
    have HC := Lib.hid HC
    go_wp2_with fail
    refine HC.out.mono ?_
    rintro e w12 ⟨rfl, hT⟩
    have H12 := Lib.hid (H11.out.2.1.trans ((hT.below H11.out.2.2).mono H0.out.size))
    clear hT HC H11
    go_wp2
    go_ret
    exact ⟨rfl, H12.out⟩
  · simp only [if_true] at hto HRX
    rw [hto] at HREN HT2 HTN
    clear hto
    go_wp2_with fail
    refine HREN.out.mono ?_
    rintro e w7 ⟨rfl, hT⟩
    have H7 := Lib.hid (And.intro hT.1 (And.intro (H6.out.2.1.trans ((hT.below H6.out.2.2).mono H0.out.size)) (Nat.le_trans H6.out.2.2 (hT.below H6.out.2.2).size)))
    clear hT HREN H6
    have HC := read_dm H7.out.1 ⟨#[120]⟩ HTN.out
    rw [HT2.out, HRD.out] at HC
    have HC := Lib.hid HC
    go_wp2_with fail
    refine HC.out.mono ?_
    rintro e w8 ⟨rfl, hb8⟩
    have H8 := Lib.hid (And.intro (H7.out.1.below hb8) (And.intro (H7.out.2.1.trans (hb8.mono H7.out.2.1.size)) (Nat.le_trans H7.out.2.2 hb8.size)))
    clear hb8 HC H7
    go_wp2_with fail
    refine (crash_dm H8.out.1 (by omega) none 0 0 [] (.inl ⟨rfl, rfl, rfl, rfl⟩)).mono ?_
    rintro e w9 ⟨d3, rfl, hD9, hb9⟩
    have H9 := Lib.hid (And.intro hD9 hb9)
    have H9b := Lib.hid (And.intro (H8.out.1.below hb9) (And.intro (H8.out.2.1.trans (hb9.mono H8.out.2.1.size)) (Nat.le_trans H8.out.2.2 hb9.size)))
    clear hD9 hb9 H8
    have HC := read_dm H9.out.1 ⟨#[120]⟩ HTN.out
    rw [HT2.out, HCR.out] at HC
    have HC := Lib.hid HC
    go_wp2_with fail
    refine HC.out.mono ?_
    rintro e w10 ⟨rfl, hb10⟩
    have H10 := Lib.hid (And.intro (H9b.out.1.below hb10) (And.intro (H9b.out.2.1.trans (hb10.mono H9b.out.2.1.size)) (Nat.le_trans H9b.out.2.2 hb10.size)))
    clear hb10 HC H9 H9b
    have HC := read_dm H10.out.1 ⟨#[120]⟩ (by decide)
    rw [show bl ⟨#[120]⟩ = [120] from rfl, HRX.out] at HC
    have HC := Lib.hid HC
    go_wp2_with fail
    refine HC.out.mono ?_
    rintro e w11 ⟨rfl, hb11⟩
    have H11 := Lib.hid (And.intro (H10.out.1.below hb11) (And.intro (H10.out.2.1.trans (hb11.mono H10.out.2.1.size)) (Nat.le_trans H10.out.2.2 hb11.size)))
    clear hb11 HC H10
    have HC := ren_told H11.out.1 (by omega) ⟨#[110, 111, 110, 101]⟩ ⟨#[122]⟩ (by decide) (by decide)
    rw [HNO.out] at HC
    have HC := Lib.hid HC
    go_wp2_with fail
    refine HC.out.mono ?_
    rintro e w12 ⟨rfl, hT⟩
    have H12 := Lib.hid (H11.out.2.1.trans ((hT.below H11.out.2.2).mono H0.out.size))
    clear hT HC H11
    go_wp2
    go_ret
    exact ⟨rfl, H12.out⟩

theorem walk_long {w : World} (a b : ByteArray) (z : Int) (g : Bool) (h : 60 < a.size ∨ 60 < b.size) :
    Calls Try.prog 8 #[.string a, .string b, .int .i64 z, .bool g] w fun e w' => e = .returned (.bool true) ∧ Below w.heap.size w w' := by
  by_cases ha : 60 < a.size
  · have ha2 : (60 : Int) < (a.size : Int) := by omega
    go_enter Try.func8, Try.ntmps8
    go_wp2_with fail
    refine (dhead_any _).mono ?_
    rintro e w0 ⟨rfl, hb0⟩
    have H0 := Lib.hid hb0
    clear hb0
    go_wp2
    go_ret
    exact ⟨rfl, H0.out⟩
  · have ha2 : ¬ (60 : Int) < (a.size : Int) := by omega
    have hb2 : (60 : Int) < (b.size : Int) := by omega
    go_enter Try.func8, Try.ntmps8
    go_wp2_with fail
    refine (dhead_any _).mono ?_
    rintro e w0 ⟨rfl, hb0⟩
    have H0 := Lib.hid hb0
    clear hb0
    go_wp2
    go_ret
    exact ⟨rfl, H0.out⟩

theorem walk {w : World} (a : ByteArray) (_ : a.size ≤ maxLen) (b : ByteArray) (_ : b.size ≤ maxLen) (z : Int) (_ : Lit.wf (.int .i64 z) = true) (g : Bool) :
    Calls Try.prog 8 #[.string a, .string b, .int .i64 z, .bool g] w fun e w' => e = .returned (.bool true) ∧ Below w.heap.size w w' := by
  by_cases h : 60 < a.size ∨ 60 < b.size
  · exact walk_long a b z g h
  · exact walk_few a b z g (by omega) (by omega)

end Go.Proofs.Ytkeopkhbcmeplaa.diskMoves
