/-
  The walk of mailbaglaw04.DiskCuts.
-/
import Derived.Test.YtkeopkhbcmeplaaDFalls
namespace Go.Proofs.Ytkeopkhbcmeplaa
open Go.RowKit

theorem tru_one (s : ByteArray) (l : L8) (sf : Nat) (R F z : Int) : (oneM (bl s) l sf R F).tru s z = if z < 0 ∨ (l.length : Int) < z then (1, oneM (bl s) l sf R F) else (0, oneM (bl s) (l.take z.toNat) (min sf z.toNat) R F) := by
  unfold MS.tru oneM
  simp only [one_file, one_hd, one_tl2, one_at]
  rfl

theorem mask_255 (n : Int) : ∃ k : Nat, bits .and .i64 n 255 = (k : Int) ∧ k < 256 := ⟨(n % 256).toNat, by rw [and_maskJ n 8 255 (by decide) (by decide)]; show n % 256 = _; omega, by omega⟩

theorem bl_inj {s t : ByteArray} (h : bl s = bl t) : s = t := by apply ByteArray.ext; exact Array.toList_inj.1 h
theorem bl_of (l : L8) : bl ⟨l.toArray⟩ = l := by unfold bl; simp
theorem of_bl (s : ByteArray) : (⟨(bl s).toArray⟩ : ByteArray) = s := bl_inj (bl_of _)
theorem bl_append (s t : ByteArray) : bl (s ++ t) = bl s ++ bl t := by unfold bl; simp
theorem bl_extract (s : ByteArray) (i j : Nat) : bl (s.extract i j) = ((bl s).drop i).take (j - i) := by unfold bl; rw [Lib.extract_data]

end Go.Proofs.Ytkeopkhbcmeplaa
namespace Go.Proofs.Ytkeopkhbcmeplaa.diskCuts
open Go.RowKit

set_option maxHeartbeats 4000000 in
set_option maxRecDepth 100000 in
theorem walk_few {w : World} (a b : ByteArray) (c z : Int) (ha : a.size ≤ 60) (hb : b.size ≤ 60) :
    Calls Try.prog 9 #[.string a, .string b, .int .i64 c, .int .i64 z] w fun e w' => e = .returned (.bool true) ∧ Below w.heap.size w w' := by
  obtain ⟨k, hk, hk2⟩ := mask_255 z
  have ha2 : ¬ (60 : Int) < (a.size : Int) := by omega
  have hb2 : ¬ (60 : Int) < (b.size : Int) := by omega
  have e1 : turned (noneM 1000 (-1)) (fun M => M.app ⟨#[102]⟩ a) = (0, oneM [102] (bl a) 0 1000 (-1)) := by
    rw [turn_on rfl rfl]; exact app_first ⟨#[102]⟩ a _ _ (by rw [nameB_eq]; rfl) (by omega)
  have e2 : turned (oneM [102] (bl a) 0 1000 (-1)) (fun M => M.sync ⟨#[102]⟩) = (0, oneM [102] (bl a) (bl a).length 1000 (-1)) := by
    rw [turn_on rfl rfl]; exact sync_one ⟨#[102]⟩ (bl a) 0 1000 (-1)
  have e3 : turned (oneM [102] (bl a) (bl a).length 1000 (-1)) (fun M => M.app ⟨#[102]⟩ b) = (0, oneM [102] (bl (a ++ b)) a.size 1000 (-1)) := by
    rw [turn_on rfl rfl, bl_append, ← bl_length a]; exact app_more ⟨#[102]⟩ b (bl a) _ 1000 (-1) (by rw [nameB_eq]; rfl) (by rw [bl_length]; omega)
  have e4 : turned (oneM [102] (bl (a ++ b)) a.size 1000 (-1)) (fun M => M.tru ⟨#[102]⟩ c) = if c < 0 ∨ ((a ++ b).size : Int) < c then (1, oneM [102] (bl (a ++ b)) a.size 1000 (-1)) else (0, oneM [102] ((bl (a ++ b)).take c.toNat) (min a.size c.toNat) 1000 (-1)) := by
    rw [turn_on rfl rfl]; have := tru_one ⟨#[102]⟩ (bl (a ++ b)) a.size 1000 (-1) c; rw [bl_length] at this; exact this
  have hsz : (a ++ b).size = a.size + b.size := by rw [← bl_length, bl_append, List.length_append, bl_length, bl_length]
  obtain ⟨A, hA⟩ : ∃ A, A = a ++ b := ⟨_, rfl⟩
  rw [← hA] at e3 e4 hsz
  have E1 := Lib.hid e1
  have E2 := Lib.hid e2
  have E3 := Lib.hid e3
  have E4 := Lib.hid e4
  have HA := Lib.hid hA
  clear e1 e2 e3 e4 hA
  go_enter Try.func9, Try.ntmps9
  go_wp2_with fail
  refine (dhead_any _).mono ?_
  rintro e w0 ⟨rfl, hb0⟩
  have H0 := Lib.hid hb0
  clear hb0
  go_wp2_with fail
  refine (new_dm _ 1000).mono ?_
  rintro e w1 ⟨d, rfl, hD1, hb1⟩
  have H1 := Lib.hid (And.intro (show DM w1 w0.heap.size d 0 (noneM 1000 (-1)) from hD1) (And.intro (H0.out.trans (hb1.mono H0.out.size)) (show w0.heap.size ≤ w1.heap.size from hb1.size)))
  clear hD1 hb1
  go_wp2_with fail
  have HC := app_told H1.out.1 (by omega) ⟨#[102]⟩ a (by decide)
  rw [E1.out] at HC
  refine HC.mono ?_
  rintro e w2 ⟨rfl, hT⟩
  have H2 := Lib.hid (And.intro hT.1 (And.intro (H1.out.2.1.trans ((hT.below H1.out.2.2).mono H0.out.size)) (Nat.le_trans H1.out.2.2 (hT.below H1.out.2.2).size)))
  clear hT HC H1 E1
  go_wp2_with fail
  have HC := sync_told H2.out.1 (by omega) ⟨#[102]⟩ (by decide)
  rw [E2.out] at HC
  refine HC.mono ?_
  rintro e w3 ⟨rfl, hT⟩
  have H3 := Lib.hid (And.intro hT.1 (And.intro (H2.out.2.1.trans ((hT.below H2.out.2.2).mono H0.out.size)) (Nat.le_trans H2.out.2.2 (hT.below H2.out.2.2).size)))
  clear hT HC H2 E2
  go_wp2_with fail
  have HC := app_told H3.out.1 (by omega) ⟨#[102]⟩ b (by decide)
  rw [E3.out] at HC
  refine HC.mono ?_
  rintro e w4 ⟨rfl, hT⟩
  have H4 := Lib.hid (And.intro hT.1 (And.intro (H3.out.2.1.trans ((hT.below H3.out.2.2).mono H0.out.size)) (Nat.le_trans H3.out.2.2 (hT.below H3.out.2.2).size)))
  clear hT HC H3 E3
  have hadd : (a ++ b) = A := HA.out.symm
  go_wp2_with fail
  have HC := tru_told H4.out.1 (by omega) ⟨#[102]⟩ (by decide) c
  rw [E4.out] at HC
  clear E4
  by_cases hc : c < 0 ∨ (A.size : Int) < c
  · rw [if_pos hc] at HC
    refine HC.mono ?_
    rintro e w5 ⟨rfl, hT⟩
    have H5 := Lib.hid (And.intro hT.1 (And.intro (H4.out.2.1.trans ((hT.below H4.out.2.2).mono H0.out.size)) (Nat.le_trans H4.out.2.2 (hT.below H4.out.2.2).size)))
    clear hT HC H4
    have HRD := read_dm H5.out.1 ⟨#[102]⟩ (by decide)
    rw [show bl ⟨#[102]⟩ = [102] from rfl, rd_one, of_bl] at HRD
    have HRD := Lib.hid HRD
    rcases hc with hc | hc
    · go_wp2_with fail
      refine HRD.out.mono ?_
      rintro e w6 ⟨rfl, hb6⟩
      have H6 := Lib.hid (H5.out.2.1.trans (hb6.mono H5.out.2.1.size))
      clear hb6
      go_wp2
      go_ret
      exact ⟨rfl, H6.out⟩
    · have hc0 : ¬ c < 0 := by omega
      go_wp2_with fail
      refine HRD.out.mono ?_
      rintro e w6 ⟨rfl, hb6⟩
      have H6 := Lib.hid (H5.out.2.1.trans (hb6.mono H5.out.2.1.size))
      clear hb6
      go_wp2
      go_ret
      exact ⟨rfl, H6.out⟩
  · rw [if_neg hc] at HC
    obtain ⟨q, rfl⟩ : ∃ q : Nat, c = (q : Int) := ⟨c.toNat, by omega⟩
    have hq : q ≤ A.size := by omega
    have hq0 : ¬ (q : Int) < 0 := by omega
    have hq1 : ¬ (A.size : Int) < (q : Int) := by omega
    rw [Int.toNat_natCast] at HC
    clear hc
    refine HC.mono ?_
    rintro e w5 ⟨rfl, hT⟩
    have H5 := Lib.hid (And.intro hT.1 (And.intro (H4.out.2.1.trans ((hT.below H4.out.2.2).mono H0.out.size)) (Nat.le_trans H4.out.2.2 (hT.below H4.out.2.2).size)))
    clear hT HC H4
    have HRD := read_dm H5.out.1 ⟨#[102]⟩ (by decide)
    have hx : (⟨((bl A).take q).toArray⟩ : ByteArray) = A.extract 0 q := bl_inj (by rw [bl_of, bl_extract]; simp)
    rw [show bl ⟨#[102]⟩ = [102] from rfl, rd_one, hx] at HRD
    have HRD := Lib.hid HRD
    have hq2 : (q : Int) ≤ (A.size : Int) := by omega
    go_wp2_with fail
    refine HRD.out.mono ?_
    rintro e w6 ⟨rfl, hb6⟩
    have H6 := Lib.hid (And.intro (H5.out.1.below hb6) (H5.out.2.1.trans (hb6.mono H5.out.2.1.size)))
    clear hb6 hx H5 HRD
    have HCR := Lib.hid (And.intro (H6.out.1.below ((Below.refl w6.heap.size w6).alloc (Nat.le_refl _) (.cells #[.int .i64 (k : Int)] 3))) (row_one w6 (k : Int) (by omega)))
    go_wp2_with fail
    refine (crash_dm HCR.out.1 (by omega) _ 1 1 [(k : Int)] HCR.out.2).mono ?_
    rintro e w7 ⟨d2, rfl, hD7, hb7⟩
    rw [crash_one] at hD7
    have H7 := Lib.hid (And.intro hD7 (H6.out.2.trans (((Below.refl w6.heap.size w6).alloc (Nat.le_refl _) (.cells #[.int .i64 (k : Int)] 3)).trans (hb7.mono (by simp)) |>.mono H6.out.2.size)))
    clear hD7 hb7 H6 HCR
    have HRD := read_dm H7.out.1 ⟨#[102]⟩ (by decide)
    obtain ⟨r, hr⟩ : ∃ r : Nat, min (q : Int) (min (a.size : Int) (q : Int) + (k : Int)) = (r : Int) := ⟨min q (min a.size q + k), by omega⟩
    have hz : crZ ((bl A).take q).length (min a.size q) (moreAt [(k : Int)] 1 0) = r := by
      have e1 : ((bl A).take q).length = q := by rw [List.length_take, bl_length]; omega
      have e2 : moreAt [(k : Int)] 1 0 = k := rfl
      rw [e1, e2]
      unfold crZ
      omega
    have hx : (⟨(((bl A).take q).take r).toArray⟩ : ByteArray) = A.extract 0 r := bl_inj (by
      rw [bl_of, bl_extract, List.take_take]
      have : min r q = r := by omega
      rw [this]; simp)
    rw [show bl ⟨#[102]⟩ = [102] from rfl, rd_one, hz, hx] at HRD
    have HRD := Lib.hid HRD
    have hr2 : (r : Int) ≤ (A.size : Int) := by omega
    clear hx hz
    go_wp2_with fail
    refine HRD.out.mono ?_
    rintro e w8 ⟨rfl, hb8⟩
    have H8 := Lib.hid (H7.out.2.trans (hb8.mono H7.out.2.size))
    clear hb8 H7 HRD
    go_wp2
    go_ret
    exact ⟨rfl, H8.out⟩

theorem walk_long {w : World} (a b : ByteArray) (c z : Int) (h : 60 < a.size ∨ 60 < b.size) :
    Calls Try.prog 9 #[.string a, .string b, .int .i64 c, .int .i64 z] w fun e w' => e = .returned (.bool true) ∧ Below w.heap.size w w' := by
  by_cases ha : 60 < a.size
  · have ha2 : (60 : Int) < (a.size : Int) := by omega
    go_enter Try.func9, Try.ntmps9
    go_wp2_with fail
    refine (dhead_any _).mono ?_
    rintro e w0 ⟨rfl, hb0⟩
    have H0 := Lib.hid hb0
    clear hb0
    go_wp2
    go_ret
    exact ⟨rfl, H0.out⟩
  · have ha2 : ¬ (60 : Int) < (a.size : Int) := by omega
    have hb2 : (60 : Int) < (b.size : Int) := by omega
    go_enter Try.func9, Try.ntmps9
    go_wp2_with fail
    refine (dhead_any _).mono ?_
    rintro e w0 ⟨rfl, hb0⟩
    have H0 := Lib.hid hb0
    clear hb0
    go_wp2
    go_ret
    exact ⟨rfl, H0.out⟩

theorem walk {w : World} (a : ByteArray) (_ : a.size ≤ maxLen) (b : ByteArray) (_ : b.size ≤ maxLen) (c : Int) (_ : Lit.wf (.int .i64 c) = true) (z : Int) (_ : Lit.wf (.int .i64 z) = true) :
    Calls Try.prog 9 #[.string a, .string b, .int .i64 c, .int .i64 z] w fun e w' => e = .returned (.bool true) ∧ Below w.heap.size w w' := by
  by_cases h : 60 < a.size ∨ 60 < b.size
  · exact walk_long a b c z h
  · exact walk_few a b c z (by omega) (by omega)

end Go.Proofs.Ytkeopkhbcmeplaa.diskCuts
