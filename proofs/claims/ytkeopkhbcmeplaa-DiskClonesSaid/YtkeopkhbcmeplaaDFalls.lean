/-
  The walk of mailbaglaw04.DiskFalls.
-/
import Derived.Test.YtkeopkhbcmeplaaDHead
namespace Go.Proofs.Ytkeopkhbcmeplaa
open Go.RowKit

theorem and_maskJ (n : Int) (j : Nat) (m : Int) (hc : (BitVec.ofInt 64 m).toNat = 2 ^ j - 1) (hj : j < 63) : bits .and .i64 n m = n % (2 ^ j : Nat) := by
  have key : (BitVec.ofInt 64 n &&& BitVec.ofInt 64 m).toNat = (n % ((2 ^ 64 : Nat) : Int)).toNat % 2 ^ j := by
    rw [BitVec.toNat_and, BitVec.toNat_ofInt, hc, Nat.and_two_pow_sub_one_eq_mod]
  have hp : (2 ^ j : Nat) ∣ 2 ^ 64 := Nat.pow_dvd_pow 2 (by omega)
  have hlt : (2 ^ j : Nat) < 2 ^ 63 := Nat.pow_lt_pow_right (by omega) hj
  have hpos : 0 < (2 ^ j : Nat) := Nat.pow_pos (by omega)
  show IntKind.i64.wrap ((BitVec.ofInt 64 n &&& BitVec.ofInt 64 m).toNat : Nat) = _
  rw [key]
  generalize hq : (2 ^ j : Nat) = q at *
  have h1 : ((n % ((2 ^ 64 : Nat) : Int)).toNat : Int) = n % ((2 ^ 64 : Nat) : Int) := Int.toNat_of_nonneg (Int.emod_nonneg _ (by decide))
  have h2 : (((n % ((2 ^ 64 : Nat) : Int)).toNat % q : Nat) : Int) = n % (q : Int) := by
    rw [Int.natCast_emod, h1]
    exact Int.emod_emod_of_dvd n (Int.natCast_dvd_natCast.2 hp)
  rw [h2, IntKind.wrap_i64]
  have h3 : n % (q : Int) < (q : Int) := Int.emod_lt_of_pos _ (by omega)
  have h4 : 0 ≤ n % (q : Int) := Int.emod_nonneg _ (by omega)
  have h5 : (q : Int) < 9223372036854775808 := by
    have : ((2 ^ 63 : Nat) : Int) = 9223372036854775808 := by decide
    omega
  omega

theorem mask_31 (n : Int) : ∃ k : Nat, bits .and .i64 n 31 = (k : Int) ∧ k < 32 := ⟨(n % 32).toNat, by rw [and_maskJ n 5 31 (by decide) (by decide)]; show n % 32 = _; omega, by omega⟩

def xs (k : Nat) : L8 := List.replicate k 120
/-- behind k turns, of which n have power -/
def fallM (n k : Nat) : MS := ⟨if min n k = 0 then [] else [⟨[102], xs (min n k), 0⟩], 1000, decide (n < k), ((n - min n k : Nat) : Int)⟩

theorem fall_step (n k : Nat) (hk : k < 32) : turned (fallM n k) (fun M => M.app ⟨#[102]⟩ ⟨#[120]⟩) = (if n ≤ k then 8 else 0, fallM n (k + 1)) := by
  by_cases h : n ≤ k
  · rw [if_pos h]
    have e1 : (fallM n k).turn = (false, fallM n (k + 1)) := by
      unfold MS.turn
      rw [if_pos]
      · unfold fallM
        rw [Nat.min_eq_left h, Nat.min_eq_left (show n ≤ k + 1 by omega), decide_eq_true (show n < k + 1 by omega)]
      · unfold fallM
        simp only [Nat.min_eq_left h, Nat.sub_self]
        simp
    unfold turned
    rw [e1, if_pos rfl]
  · rw [if_neg h]
    have hm : min n k = k := by omega
    have hm2 : min n (k + 1) = k + 1 := by omega
    have e1 : (fallM n k).turn = (true, ⟨if k = 0 then [] else [⟨[102], xs k, 0⟩], 1000, false, ((n - (k + 1) : Nat) : Int)⟩) := by
      unfold MS.turn
      rw [if_neg]
      · unfold fallM
        simp only [hm]
        rw [decide_eq_false (show ¬ n < k by omega), if_pos (show (0 : Int) < ((n - k : Nat) : Int) by omega), show ((n - k : Nat) : Int) - 1 = ((n - (k + 1) : Nat) : Int) by omega]
      · unfold fallM
        simp only [hm]
        rw [decide_eq_false (show ¬ n < k by omega)]
        simp
        omega
    unfold turned
    rw [e1, if_neg (by simp)]
    show MS.app _ _ _ = _
    have e9 : fallM n (k + 1) = oneM [102] (xs (k + 1)) 0 1000 ((n - (k + 1) : Nat) : Int) := by
      unfold fallM oneM
      rw [hm2, if_neg (show ¬ k + 1 = 0 by omega), decide_eq_false (show ¬ n < k + 1 by omega)]
    rw [e9]
    by_cases h0 : k = 0
    · subst h0
      rw [if_pos rfl]
      exact app_first ⟨#[102]⟩ ⟨#[120]⟩ 1000 _ (by rw [nameB_eq]; rfl) (by decide)
    · rw [if_neg h0]
      have := app_more ⟨#[102]⟩ ⟨#[120]⟩ (xs k) 0 1000 ((n - (k + 1) : Nat) : Int) (by rw [nameB_eq]; rfl) (by unfold xs; rw [List.length_replicate]; show (k : Int) + 1 ≤ 1000; omega)
      have e8 : xs (k + 1) = xs k ++ [120] := by unfold xs; rw [List.replicate_succ']
      rw [e8]
      exact this

theorem fall_crash (n k : Nat) (z : Int) : (fallM n k).crash (moreAt [z] 1) = if min n k = 0 then noneM 1000 (-1) else oneM [102] ((xs (min n k)).take (crZ (min n k) 0 z)) (crZ (min n k) 0 z) 1000 (-1) := by
  by_cases h : min n k = 0
  · rw [if_pos h]; unfold fallM MS.crash; rw [h]; rfl
  · rw [if_neg h]
    unfold fallM MS.crash
    simp only [h, if_false]
    have e : (xs (min n k)).length = min n k := by unfold xs; rw [List.length_replicate]
    show MS.mk [⟨[102], (xs (min n k)).take (crZ (xs (min n k)).length 0 z), crZ (xs (min n k)).length 0 z⟩] _ _ _ = _
    rw [e]
    rfl
theorem fall_crash0 (n k : Nat) : (fallM n k).crash (moreAt [] 0) = if min n k = 0 then noneM 1000 (-1) else oneM [102] [] 0 1000 (-1) := by
  by_cases h : min n k = 0
  · rw [if_pos h]; unfold fallM MS.crash; rw [h]; rfl
  · rw [if_neg h]
    unfold fallM MS.crash
    simp only [h, if_false]
    have e : crZ (xs (min n k)).length 0 0 = 0 := by unfold crZ; omega
    show MS.mk [⟨[102], (xs (min n k)).take (crZ (xs (min n k)).length 0 0), crZ (xs (min n k)).length 0 0⟩] _ _ _ = _
    rw [e]
    rfl

end Go.Proofs.Ytkeopkhbcmeplaa
namespace Go.Proofs.Ytkeopkhbcmeplaa.diskFalls
open Go.RowKit

set_option maxHeartbeats 4000000 in
set_option maxRecDepth 100000 in
theorem walk {w : World} (a : Int) (_ : Lit.wf (.int .i64 a) = true) (b : Int) (_ : Lit.wf (.int .i64 b) = true) :
    Calls Try.prog 6 #[.int .i64 a, .int .i64 b] w fun e w' => e = .returned (.bool true) ∧ Below w.heap.size w w' := by
  obtain ⟨n, hn, hn2⟩ := mask_31 a
  obtain ⟨m, hm, hm2⟩ := mask_31 b
  go_enter Try.func6, Try.ntmps6
  go_wp2_with fail
  refine (dhead_any _).mono ?_
  rintro e w0 ⟨rfl, hb0⟩
  have H0 := Lib.hid hb0
  clear hb0
  go_wp2_with fail
  refine (new_dm _ 1000).mono ?_
  rintro e w1 ⟨d, rfl, hD1, hb1⟩
  have H1 := Lib.hid (And.intro (show DM w1 w0.heap.size d 0 (noneM 1000 (-1)) from hD1) (H0.out.trans (hb1.mono H0.out.size)))
  have HB0 := Lib.hid (And.intro H0.out.size hb1.size)
  clear hD1 hb1
  go_wp2_with fail
  have HC := fall_told H1.out.1 (by omega) (n : Int) (by omega)
  have hfm : ({ noneM 1000 (-1) with falls := max (n : Int) 0 } : MS) = fallM n 0 := by
    unfold noneM fallM
    simp
  rw [hfm] at HC
  refine HC.mono ?_
  rintro e w2 ⟨rfl, hT⟩
  have HST : Hid (DM w2 w0.heap.size d 1 (fallM n 0) ∧ Below w.heap.size w w2 ∧ w0.heap.size ≤ w2.heap.size) := Lib.hid ⟨hT.1, H1.out.2.trans ((hT.below (by have := HB0.out; omega)).mono H0.out.size), by have := HB0.out; have := (hT.below (by have := HB0.out; omega)).size; omega⟩
  clear hT HC hfm
  go_wp2_with fail
  go_loopw [6] (fun i wr => ∃ k : Nat, k ≤ m ∧ i = .int .i64 k ∧ Hid (DM wr w0.heap.size d (k + 1) (fallM n k) ∧ Below w.heap.size w wr ∧ w0.heap.size ≤ wr.heap.size)) (fun i _ => m - (intOf i).toNat)
  case atStart => exact ⟨0, Nat.zero_le _, rfl, HST⟩
  case round =>
    obtain ⟨k, hk, rfl, HR⟩ := hrel
    clear HST
    by_cases hlt : k < m
    · have hlt2 : (k : Int) < (m : Int) := by omega
      have HC := app_told HR.out.1 (by omega) ⟨#[102]⟩ ⟨#[120]⟩ (by decide)
      rw [fall_step n k (by omega)] at HC
      by_cases hkn : n ≤ k
      · have hkn2 : (n : Int) ≤ (k : Int) := by omega
        rw [if_pos hkn] at HC
        have HCC := Lib.hid HC
        have HDN : Hid (fallM n (k + 1)).down := Lib.hid (decide_eq_true (by omega))
        clear HC hkn
        go_wp2_with fail
        refine HCC.out.mono ?_
        rintro e w3 ⟨rfl, hT⟩
        have HT := Lib.hid hT
        clear hT
        have HD := Lib.hid (down_dm HT.out.1)
        rw [HDN.out] at HD
        go_wp2_with fail
        refine HD.out.mono ?_
        rintro e w4 ⟨rfl, rfl⟩
        have HF : Hid (DM w3 w0.heap.size d (k + 1 + 1) (fallM n (k + 1)) ∧ Below w.heap.size w w3 ∧ w0.heap.size ≤ w3.heap.size) := Lib.hid (by
          have hb := HT.out.below HR.out.2.2
          exact ⟨HT.out.1, HR.out.2.1.trans (hb.mono H0.out.size), by have := hb.size; have := HR.out.2.2; omega⟩)
        go_wp2
        go_roundw
        case rel => exact ⟨k + 1, by omega, by go_num, HF⟩
        case measure => simp [intOf]; omega
      · have hkn2 : ¬ (n : Int) ≤ (k : Int) := by omega
        rw [if_neg hkn] at HC
        have HCC := Lib.hid HC
        have HDN : Hid ((fallM n (k + 1)).down = false) := Lib.hid (decide_eq_false (by omega))
        clear HC hkn
        go_wp2_with fail
        refine HCC.out.mono ?_
        rintro e w3 ⟨rfl, hT⟩
        have HT := Lib.hid hT
        clear hT
        have HD := Lib.hid (down_dm HT.out.1)
        rw [HDN.out] at HD
        go_wp2_with fail
        refine HD.out.mono ?_
        rintro e w4 ⟨rfl, rfl⟩
        have HF : Hid (DM w3 w0.heap.size d (k + 1 + 1) (fallM n (k + 1)) ∧ Below w.heap.size w w3 ∧ w0.heap.size ≤ w3.heap.size) := Lib.hid (by
          have hb := HT.out.below HR.out.2.2
          exact ⟨HT.out.1, HR.out.2.1.trans (hb.mono H0.out.size), by have := hb.size; have := HR.out.2.2; omega⟩)
        go_wp2
        go_roundw
        case rel => exact ⟨k + 1, by omega, by go_num, HF⟩
        case measure => simp [intOf]; omega
    · obtain rfl : k = m := by omega
      have hge : ¬ (k : Int) < (k : Int) := by omega
      clear hlt
      have HA := Lib.hid (And.intro (HR.out.1.below ((Below.refl wr.heap.size wr).alloc (Nat.le_refl _) (.cells #[.int .i64 1000] 3))) (row_one wr 1000 (by omega)))
      have HLEN : Hid (crZ (min n k) 0 1000 = min n k) := Lib.hid (by unfold crZ; omega)
      go_wp2_with fail
      refine (crash_dm HA.out.1 (by omega) _ 1 1 [1000] HA.out.2).mono ?_
      rintro e w5 ⟨d2, rfl, hD5, hb5⟩
      rw [fall_crash, HLEN.out] at hD5
      have H5 := Lib.hid (And.intro hD5 (((Below.refl wr.heap.size wr).alloc (Nat.le_refl _) (.cells #[.int .i64 1000] 3)).trans (hb5.mono (by simp))))
      clear hD5 hb5 HA
      go_wp2_with fail
      have HC := read_dm H5.out.1 ⟨#[102]⟩ (by decide)
      refine HC.mono ?_
      rintro e w6 ⟨rfl, hb6⟩
      have H6 := Lib.hid (H5.out.2.trans (hb6.mono H5.out.2.size))
      clear HC hb6
      by_cases h0 : min n k = 0
      · rw [if_pos h0, show bl ⟨#[102]⟩ = [102] from rfl, rd_none]
        have hmin : min (n : Int) (k : Int) = 0 := by omega
        have HF := Lib.hid (HR.out.2.1.trans (H6.out.mono HR.out.2.1.size))
        clear HR H5 H6 H1 H0 HB0 HLEN
        go_wp2
        go_ret
        exact ⟨rfl, HF.out⟩
      · rw [if_neg h0, show bl ⟨#[102]⟩ = [102] from rfl, rd_one]
        have hmin : ¬ min (n : Int) (k : Int) = 0 := by omega
        obtain ⟨L, hL⟩ : ∃ L, L = min n k := ⟨_, rfl⟩
        have hmin2 : min (n : Int) (k : Int) = (L : Int) := by omega
        have hL0 : ¬ (L : Int) = 0 := by omega
        have htk : (⟨((xs L).take L).toArray⟩ : ByteArray).size = L := by
          show ((xs L).take L).toArray.size = L
          unfold xs; simp
        rw [← hL]
        obtain ⟨tx, htx⟩ : ∃ tx : ByteArray, tx = ⟨((xs L).take L).toArray⟩ := ⟨_, rfl⟩
        rw [← htx] at htk ⊢
        have HW := Lib.hid (HR.out.1.below H6.out)
        have HBW := Lib.hid (HR.out.2.1.trans (H6.out.mono HR.out.2.1.size))
        have HMIN := Lib.hid h0
        clear HR H5 H6 H1 H0 HB0 HLEN hL h0 htx
        go_wp2_with fail
        refine (crash_dm HW.out (by omega) none 0 0 [] (.inl ⟨rfl, rfl, rfl, rfl⟩)).mono ?_
        rintro e w7 ⟨d3, rfl, hD7, hb7⟩
        rw [fall_crash0, if_neg HMIN.out] at hD7
        have H7 := Lib.hid (And.intro hD7 hb7)
        clear hD7 hb7 HW
        go_wp2_with fail
        have HC := read_dm H7.out.1 ⟨#[102]⟩ (by decide)
        rw [show bl ⟨#[102]⟩ = [102] from rfl, rd_one] at HC
        refine HC.mono ?_
        rintro e w8 ⟨rfl, hb8⟩
        have H8 := Lib.hid (HBW.out.trans ((H7.out.2.trans (hb8.mono H7.out.2.size)).mono HBW.out.size))
        clear HC hb8 H7 HBW HMIN
        go_wp2
        go_ret
        exact ⟨rfl, H8.out⟩

end Go.Proofs.Ytkeopkhbcmeplaa.diskFalls
