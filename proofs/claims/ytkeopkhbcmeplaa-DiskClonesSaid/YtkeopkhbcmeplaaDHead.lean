/-
  mailbaglaw04.head; a model of one file.
-/
import Derived.Test.YtkeopkhbcmeplaaDOut2
import Derived.Lib.Strings
namespace Go.Proofs.Ytkeopkhbcmeplaa
open Go.RowKit

theorem nameB_eq (s : ByteArray) : nameB s = (!(bl s).isEmpty && decide (((bl s).length : Int) ≤ 40)) := by
  unfold nameB
  rw [bl_length, Lib.toList_data]
  rfl

theorem one_hd (k l : L8) (sf : Nat) : hd k [⟨k, l, sf⟩] = [] := by rw [hd_cons, if_neg (by rw [show bytesBefore k k = false from Go.WideAt.bytes_irrefl k]; simp)]
theorem one_tl (k l : L8) (sf : Nat) : tl k [⟨k, l, sf⟩] = [⟨k, l, sf⟩] := by rw [tl_cons, if_neg (by rw [show bytesBefore k k = false from Go.WideAt.bytes_irrefl k]; simp)]
theorem one_at (k l : L8) (sf : Nat) : isAt k [⟨k, l, sf⟩] = true := by unfold isAt; rw [one_tl]; simp
theorem one_tl2 (k l : L8) (sf : Nat) : tl2 k [⟨k, l, sf⟩] = [] := by unfold tl2; rw [one_at, one_tl]; rfl
theorem one_file (k l : L8) (sf : Nat) : mfile k [⟨k, l, sf⟩] = ⟨k, l, sf⟩ := by unfold mfile; rw [one_at, one_tl]; rfl

def oneM (k l : L8) (sf : Nat) (R F : Int) : MS := ⟨[⟨k, l, sf⟩], R, false, F⟩
def noneM (R F : Int) : MS := ⟨[], R, false, F⟩

theorem turn_on {M : MS} (hd : M.down = false) (hf : M.falls = -1) (f : MS → Int × MS) : turned M f = f M := by
  obtain ⟨a, b, c, e⟩ := M
  obtain rfl : c = false := hd
  obtain rfl : e = -1 := hf
  rfl

theorem app_first (s b : ByteArray) (R F : Int) (hn : nameB s = true) (hb : (b.size : Int) ≤ R) : (noneM R F).app s b = (0, oneM (bl s) (bl b) 0 R F) := by
  unfold MS.app
  rw [if_neg (by rw [hn]; simp), if_neg (by unfold MS.room noneM sumF; simp; omega)]
  rfl

theorem app_more (s b : ByteArray) (l : L8) (sf : Nat) (R F : Int) (hn : nameB s = true) (hb : (l.length : Int) + (b.size : Int) ≤ R) : (oneM (bl s) l sf R F).app s b = (0, oneM (bl s) (l ++ bl b) sf R F) := by
  unfold MS.app
  rw [if_neg (by rw [hn]; simp), if_neg (by unfold MS.room oneM sumF; simp; omega)]
  unfold oneM mput
  simp only [one_file, one_hd, one_tl2]
  rfl

theorem sync_one (s : ByteArray) (l : L8) (sf : Nat) (R F : Int) : (oneM (bl s) l sf R F).sync s = (0, oneM (bl s) l l.length R F) := by
  unfold MS.sync oneM
  simp only [one_file, one_hd, one_tl2, one_at]
  rfl

theorem rd_one (k l : L8) (sf : Nat) (R F : Int) : (oneM k l sf R F).rd k = (⟨l.toArray⟩, 0) := by
  unfold MS.rd oneM
  simp only [one_file, one_at]
  rfl
theorem rd_none (k : L8) (R F : Int) : (noneM R F).rd k = (⟨#[]⟩, 5) := rfl

theorem crash_one (k l : L8) (sf : Nat) (R F : Int) (more : Nat → Int) : (oneM k l sf R F).crash more = oneM k (l.take (crZ l.length sf (more 0))) (crZ l.length sf (more 0)) R (-1) := rfl
theorem crash_none (R F : Int) (more : Nat → Int) : (noneM R F).crash more = noneM R (-1) := rfl

/-- one number, new -/
theorem row_one (w : World) (z : Int) (hz : -9223372036854775808 ≤ z ∧ z ≤ 9223372036854775807) : IsRow .i64 (w.alloc (.cells #[.int .i64 z] 3)) (some ⟨w.heap.size, 0, none⟩) 1 1 [z] := by
  refine .inr ⟨_, rfl, Nat.le_refl _, by unfold maxLen; omega, rfl, fun i hi => ?_, fun n hn => ?_⟩
  · obtain rfl : i = 0 := by simpa using hi
    simp [Addr.add]
  · obtain rfl : n = z := by simpa using hn
    have h1 : IntKind.i64.min = -9223372036854775808 := by kernel_rfl
    have h2 : IntKind.i64.max = 9223372036854775807 := by kernel_rfl
    show (decide (IntKind.i64.min ≤ n) && decide (n ≤ IntKind.i64.max)) = true
    rw [h1, h2, decide_eq_true hz.1, decide_eq_true hz.2]; rfl

set_option maxHeartbeats 1000000 in
/-- mailbaglaw04.head -/
theorem dhead_any (w : World) : Calls Try.prog 10 #[] w fun e w' => e = .returned (.bool true) ∧ Below w.heap.size w w' := by
  have e1 : turned (noneM 100 (-1)) (fun M => M.app ⟨#[102]⟩ ⟨#[97, 98]⟩) = (0, oneM [102] [97, 98] 0 100 (-1)) := by
    rw [turn_on rfl rfl, app_first _ _ _ _ (by rw [nameB_eq]; rfl) (by decide)]; rfl
  have e2 : turned (oneM [102] [97, 98] 0 100 (-1)) (fun M => M.sync ⟨#[102]⟩) = (0, oneM [102] [97, 98] 2 100 (-1)) := by
    rw [turn_on rfl rfl]; exact sync_one ⟨#[102]⟩ [97, 98] 0 100 (-1)
  have e3 : turned (oneM [102] [97, 98] 2 100 (-1)) (fun M => M.app ⟨#[102]⟩ ⟨#[99, 100]⟩) = (0, oneM [102] [97, 98, 99, 100] 2 100 (-1)) := by
    rw [turn_on rfl rfl]; exact app_more ⟨#[102]⟩ ⟨#[99, 100]⟩ [97, 98] 2 100 (-1) (by rw [nameB_eq]; rfl) (by decide)
  go_enter Try.func10, Try.ntmps10
  go_wp2_with fail
  refine (new_dm _ 100).mono ?_
  rintro e w1 ⟨d, rfl, hD1, hb1⟩
  have H1 := Lib.hid (And.intro (show DM w1 w.heap.size d 0 (noneM 100 (-1)) from hD1) hb1)
  clear hD1 hb1
  go_wp2_with fail
  have HC := app_told H1.out.1 (by omega) ⟨#[102]⟩ ⟨#[97, 98]⟩ (by decide)
  rw [e1] at HC
  refine HC.mono ?_
  rintro e w2 ⟨rfl, hT⟩
  have H2 := Lib.hid (And.intro hT.1 (H1.out.2.trans (hT.below H1.out.2.size)))
  clear hT HC H1
  go_wp2_with fail
  have HC := sync_told H2.out.1 (by omega) ⟨#[102]⟩ (by decide)
  rw [e2] at HC
  refine HC.mono ?_
  rintro e w3 ⟨rfl, hT⟩
  have H3 := Lib.hid (And.intro hT.1 (H2.out.2.trans (hT.below H2.out.2.size)))
  clear hT HC H2
  go_wp2_with fail
  have HC := app_told H3.out.1 (by omega) ⟨#[102]⟩ ⟨#[99, 100]⟩ (by decide)
  rw [e3] at HC
  refine HC.mono ?_
  rintro e w4 ⟨rfl, hT⟩
  have H4 := Lib.hid (And.intro hT.1 (H3.out.2.trans (hT.below H3.out.2.size)))
  clear hT HC H3
  have HA := Lib.hid (And.intro (H4.out.1.below ((Below.refl w4.heap.size w4).alloc (Nat.le_refl _) (.cells #[.int .i64 1] 3))) (row_one w4 1 (by omega)))
  go_wp2_with fail
  refine (crash_dm HA.out.1 (by omega) _ 1 1 [1] HA.out.2).mono ?_
  rintro e w5 ⟨d2, rfl, hD5, hb5⟩
  have H5 := Lib.hid (And.intro (show DM w5 _ d2 _ (oneM [102] [97, 98, 99] 3 100 (-1)) from hD5) (((H4.out.2.alloc H4.out.2.size (.cells #[.int .i64 1] 3)).trans (hb5.mono (by have := H4.out.2.size; simp; omega)))))
  clear hD5 hb5 HA H4
  go_wp2_with fail
  have HC := read_dm H5.out.1 ⟨#[102]⟩ (by decide)
  rw [show bl ⟨#[102]⟩ = [102] from rfl, rd_one] at HC
  refine HC.mono ?_
  rintro e w6 ⟨rfl, hb6⟩
  have H6 := Lib.hid (H5.out.2.trans (hb6.mono H5.out.2.size))
  clear HC H5 hb6 e1 e2 e3
  go_wp2
  go_ret
  exact ⟨rfl, H6.out⟩

end Go.Proofs.Ytkeopkhbcmeplaa
