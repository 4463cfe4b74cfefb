/-
  OctetMosts: for every two ints, text and flag the law's function returns true, and writes nothing that was there.
-/
import Derived.Test.YtecejmefnbejhaaRound
namespace Go.Proofs.Ytecejmefnbejhaa

theorem ReadPost.got {α : Type} {z : Value} {f : α → Value} {v : α} {r : List UInt8} {b : Nat} {bad : Bool} {w : World} {e : Ending} {w' : World} (h : ReadPost z f (some (v, r)) b bad w e w') : e = .returned (f v) ∧ Goes w b ⟨r.toArray⟩ bad w' := by
  rcases h with ⟨ho, _⟩ | ⟨v', r', ho, he, hg⟩
  · cases ho
  · simp only [Option.some.injEq, Prod.mk.injEq] at ho
    obtain ⟨rfl, rfl⟩ := ho
    exact ⟨he, hg⟩

theorem ReadPost.gone {α : Type} {z : Value} {f : α → Value} {b : Nat} {bad : Bool} {w : World} {e : Ending} {w' : World} (h : ReadPost z f none b bad w e w') : e = .returned z ∧ Goes w b ⟨#[]⟩ true w' := by
  rcases h with ⟨_, he, hg⟩ | ⟨v', r', ho, _⟩
  · exact ⟨he, hg⟩
  · cases ho

end Go.Proofs.Ytecejmefnbejhaa
namespace Go.Proofs.Ytecejmefnbejhaa.octetMosts
open Go.RowKit

theorem walk_long (n most : Int) (s : ByteArray) (text : Bool) (w : World) (hs : 200 < s.size) :
    Calls Try.prog 4 #[.int .i64 n, .int .i64 most, .string s, .bool text] w fun e w' => e = .returned (.bool true) ∧ Below w.heap.size w w' := by
  have hs' : (200 : Int) < (s.size : Int) := by omega
  go_enter Try.func4, Try.ntmps4
  go_wp2_with (go_at_call 10; refine (head_any _).mono ?_; rintro e w1 ⟨rfl, hb1⟩)
  go_ret
  exact ⟨rfl, hb1⟩

set_option maxHeartbeats 1000000 in
theorem num_ok (n most : Int) (s : ByteArray) (w : World) (hs : s.size ≤ 200) (hmost : most ≤ 9223372036854775807) (m M : Nat) (hm : bits .and .i64 n 16777215 = (m : Int)) (hm2 : m < 16777216) (hM : max most 0 = (M : Int)) (hMm : most.toNat = M) (hok : m ≤ M) :
    Calls Try.prog 4 #[.int .i64 n, .int .i64 most, .string s, .bool false] w fun e w' => e = .returned (.bool true) ∧ Below w.heap.size w w' := by
  have hs' : ¬ (200 : Int) < (s.size : Int) := by omega
  have hok' : (m : Int) ≤ (M : Int) := by omega
  have hrd := numRead_laid m M [1] (by omega)
  rw [if_pos hok] at hrd
  have HR := Lib.hid hrd
  have HM := Lib.hid hMm
  have h9 := octN_lt m (by omega)
  clear hrd hMm
  go_enter Try.func4, Try.ntmps4
  go_wp2_with fail
  refine (head_any _).mono ?_
  rintro e w1 ⟨rfl, hb1⟩
  have hz1 := hb1.size
  go_wp2_with fail
  refine (num_nat w.heap.size (.slice none 0 0) [] m (by omega) w1 (by simp) hz1 (Bs.nil _ _ _)).mono ?_
  rintro e w2 ⟨v2, rfl, hown2, hup2⟩
  have hb2 := hb1.trans (hup2.below (Bs.nil 5 w.heap.size w1) hz1)
  have hz2 := hb2.size
  clear hb1 hup2
  go_wp2_with fail
  refine (flag_any w.heap.size v2 ([] ++ octN m) true w2 (by simp; omega) hz2 hown2).mono ?_
  rintro e w3 ⟨v3, rfl, hown3, hup3⟩
  have hb3 := hb2.trans (hup3.below hown2 hz2)
  have hz3 := hb3.size
  have c3 := conv_own (P := Try.prog) 5 w.heap.size w3 22 9 Try.underlying22 Try.underlying5 Try.underlying9 v3 _ hown3
  clear hb2 hup3 hown2 hown3
  go_wp2_with fail
  refine (read_any _ _).mono ?_
  rintro e w4 ⟨rfl, hr4, hb4'⟩
  have hb4 := hb3.trans (hb4'.mono hz3)
  have hz4 := hb4.size
  clear c3 hb4' hb3
  go_wp2_with fail
  have hnum := num_read w3.heap.size false _ most hmost w4 hr4
  rw [HM.out, show octN m ++ octF true = octN m ++ [1] from rfl, HR.out] at hnum
  refine hnum.mono ?_
  rintro e w5 hp
  obtain ⟨rfl, hg5⟩ := hp.got
  have hr5 := hg5.1
  have hb5 := hb4.trans (hg5.frame hz4 hz3)
  have hz5 := hb5.size
  clear hp hg5 hnum hr4 hb4
  go_wp2_with (first
    | (go_at_call 18; refine (err_good _ _ _ hr5).mono ?_; rintro e w' ⟨rfl, rfl⟩)
    | (go_at_call 22; refine (left_list _ _ _ _ hr5).mono ?_; rintro e w' ⟨rfl, rfl⟩)
    | (go_at_call 21; refine (end_left _ _ _ _ _ hr5).mono ?_; rintro e w' ⟨rfl, rfl⟩))
  have hfl := flag_read w3.heap.size false [1] w5 hr5
  rw [show flagRead [1] = some (true, []) from rfl] at hfl
  refine hfl.mono ?_
  rintro e w6 hp
  obtain ⟨rfl, hg6⟩ := hp.got
  have hr6 := hg6.1
  have hb6 := hb5.trans (hg6.frame hz5 hz3)
  clear hp hg6 hfl hr5 hb5
  go_wp2_with (go_at_call 21; refine (end_done _ _ hr6).mono ?_; rintro e w' ⟨rfl, rfl⟩)
  go_ret
  exact ⟨rfl, hb6⟩

set_option maxHeartbeats 1000000 in
theorem num_no (n most : Int) (s : ByteArray) (w : World) (hs : s.size ≤ 200) (hmost : most ≤ 9223372036854775807) (m M : Nat) (hm : bits .and .i64 n 16777215 = (m : Int)) (hm2 : m < 16777216) (hM : max most 0 = (M : Int)) (hMm : most.toNat = M) (hok : ¬ m ≤ M) :
    Calls Try.prog 4 #[.int .i64 n, .int .i64 most, .string s, .bool false] w fun e w' => e = .returned (.bool true) ∧ Below w.heap.size w w' := by
  have hs' : ¬ (200 : Int) < (s.size : Int) := by omega
  have hok' : ¬ (m : Int) ≤ (M : Int) := by omega
  have hrd := numRead_laid m M [1] (by omega)
  rw [if_neg hok] at hrd
  have HR := Lib.hid hrd
  have HM := Lib.hid hMm
  have h9 := octN_lt m (by omega)
  clear hrd hMm
  go_enter Try.func4, Try.ntmps4
  go_wp2_with fail
  refine (head_any _).mono ?_
  rintro e w1 ⟨rfl, hb1⟩
  have hz1 := hb1.size
  go_wp2_with fail
  refine (num_nat w.heap.size (.slice none 0 0) [] m (by omega) w1 (by simp) hz1 (Bs.nil _ _ _)).mono ?_
  rintro e w2 ⟨v2, rfl, hown2, hup2⟩
  have hb2 := hb1.trans (hup2.below (Bs.nil 5 w.heap.size w1) hz1)
  have hz2 := hb2.size
  clear hb1 hup2
  go_wp2_with fail
  refine (flag_any w.heap.size v2 ([] ++ octN m) true w2 (by simp; omega) hz2 hown2).mono ?_
  rintro e w3 ⟨v3, rfl, hown3, hup3⟩
  have hb3 := hb2.trans (hup3.below hown2 hz2)
  have hz3 := hb3.size
  have c3 := conv_own (P := Try.prog) 5 w.heap.size w3 22 9 Try.underlying22 Try.underlying5 Try.underlying9 v3 _ hown3
  clear hb2 hup3 hown2 hown3
  go_wp2_with fail
  refine (read_any _ _).mono ?_
  rintro e w4 ⟨rfl, hr4, hb4'⟩
  have hb4 := hb3.trans (hb4'.mono hz3)
  have hz4 := hb4.size
  clear c3 hb4' hb3
  go_wp2_with fail
  have hnum := num_read w3.heap.size false _ most hmost w4 hr4
  rw [HM.out, show octN m ++ octF true = octN m ++ [1] from rfl, HR.out] at hnum
  refine hnum.mono ?_
  rintro e w5 hp
  obtain ⟨rfl, hg5⟩ := hp.gone
  have hr5 := hg5.1
  have hb5 := hb4.trans (hg5.frame hz4 hz3)
  have hz5 := hb5.size
  clear hp hg5 hnum hr4 hb4
  go_wp2_with (first
    | (go_at_call 18; refine (err_bad _ _ _ (by assumption)).mono ?_; rintro e w' ⟨rfl, rfl⟩)
    | (go_at_call 22; refine (left_list _ [] _ _ (by assumption)).mono ?_; rintro e w' ⟨rfl, rfl⟩)
    | (go_at_call 21; refine (end_bad _ _ _ (by assumption)).mono ?_; rintro e w' ⟨rfl, rfl⟩)
    | (go_at_call 20; refine (flag_fail _ _ (by assumption)).mono ?_; rintro e w6 ⟨rfl, hg6⟩; have hr6 := hg6.1; clear hr5)
    | (go_at_call 17; refine (num_fail _ _ _ (by assumption)).mono ?_; rintro e w7 ⟨rfl, hg7⟩; have hr7 := hg7.1; clear hr6)
    | (go_at_call 19; refine (text_fail _ _ _ (by assumption)).mono ?_; rintro e w8 ⟨rfl, hg8⟩))
  go_ret
  exact ⟨rfl, hb5.trans (((hg6.trans hg7).trans hg8).frame hz5 hz3)⟩

set_option maxHeartbeats 1000000 in
theorem text_ok (n most : Int) (s : ByteArray) (w : World) (hs : s.size ≤ 200) (hmost : most ≤ 9223372036854775807) (m M : Nat) (hm : bits .and .i64 n 16777215 = (m : Int)) (hm2 : m < 16777216) (hM : max most 0 = (M : Int)) (hMm : most.toNat = M) (hok : s.size ≤ M) :
    Calls Try.prog 4 #[.int .i64 n, .int .i64 most, .string s, .bool true] w fun e w' => e = .returned (.bool true) ∧ Below w.heap.size w w' := by
  have hs' : ¬ (200 : Int) < (s.size : Int) := by omega
  have hok' : (s.size : Int) ≤ (M : Int) := by omega
  have hrd := textRead_laid s M [1] (by omega)
  rw [if_pos hok] at hrd
  have HR := Lib.hid hrd
  have HM := Lib.hid hMm
  have h9 := octN_lt s.size (by omega)
  have hl9 : (octT s).length ≤ 300 := by have e : s.data.toList.length = s.size := by simp
                                         unfold octT; rw [List.length_append, e]; omega
  clear h9
  clear hrd hMm
  go_enter Try.func4, Try.ntmps4
  go_wp2_with fail
  refine (head_any _).mono ?_
  rintro e w1 ⟨rfl, hb1⟩
  have hz1 := hb1.size
  go_wp2_with fail
  refine (num_nat w.heap.size (.slice none 0 0) [] m (by omega) w1 (by simp) hz1 (Bs.nil _ _ _)).mono ?_
  rintro e w2 ⟨v2, rfl, hown2, hup2⟩
  have hb2 := hb1.trans (hup2.below (Bs.nil 5 w.heap.size w1) hz1)
  have hz2 := hb2.size
  clear hb1 hup2
  go_wp2_with fail
  clear hown2
  refine (text_any w.heap.size (.slice none 0 0) [] s w2 (by simp; omega) hz2 (Bs.nil _ _ _)).mono ?_
  rintro e w2 ⟨v2, rfl, hown2, hup2⟩
  have hb2 := hb2.trans (hup2.below (Bs.nil 5 w.heap.size _) hz2)
  have hz2 := hb2.size
  clear hup2
  go_wp2_with fail
  refine (flag_any w.heap.size v2 ([] ++ octT s) true w2 (by simp; omega) hz2 hown2).mono ?_
  rintro e w3 ⟨v3, rfl, hown3, hup3⟩
  have hb3 := hb2.trans (hup3.below hown2 hz2)
  have hz3 := hb3.size
  have c3 := conv_own (P := Try.prog) 5 w.heap.size w3 22 9 Try.underlying22 Try.underlying5 Try.underlying9 v3 _ hown3
  clear hb2 hup3 hown2 hown3
  go_wp2_with fail
  refine (read_any _ _).mono ?_
  rintro e w4 ⟨rfl, hr4, hb4'⟩
  have hb4 := hb3.trans (hb4'.mono hz3)
  have hz4 := hb4.size
  clear c3 hb4' hb3
  go_wp2_with fail
  have hnum := text_read w3.heap.size false _ (by simp [octF]; omega) most hmost w4 hr4
  rw [HM.out, show octT s ++ octF true = octT s ++ [1] from rfl, HR.out] at hnum
  refine hnum.mono ?_
  rintro e w5 hp
  obtain ⟨rfl, hg5⟩ := hp.got
  have hr5 := hg5.1
  have hb5 := hb4.trans (hg5.frame hz4 hz3)
  have hz5 := hb5.size
  clear hp hg5 hnum hr4 hb4
  go_wp2_with (first
    | (go_at_call 18; refine (err_good _ _ _ hr5).mono ?_; rintro e w' ⟨rfl, rfl⟩)
    | (go_at_call 22; refine (left_list _ _ _ _ hr5).mono ?_; rintro e w' ⟨rfl, rfl⟩)
    | (go_at_call 21; refine (end_left _ _ _ _ _ hr5).mono ?_; rintro e w' ⟨rfl, rfl⟩))
  have hfl := flag_read w3.heap.size false [1] w5 hr5
  rw [show flagRead [1] = some (true, []) from rfl] at hfl
  refine hfl.mono ?_
  rintro e w6 hp
  obtain ⟨rfl, hg6⟩ := hp.got
  have hr6 := hg6.1
  have hb6 := hb5.trans (hg6.frame hz5 hz3)
  clear hp hg6 hfl hr5 hb5
  go_wp2_with (go_at_call 21; refine (end_done _ _ hr6).mono ?_; rintro e w' ⟨rfl, rfl⟩)
  go_ret
  exact ⟨rfl, hb6⟩

set_option maxHeartbeats 1000000 in
theorem text_no (n most : Int) (s : ByteArray) (w : World) (hs : s.size ≤ 200) (hmost : most ≤ 9223372036854775807) (m M : Nat) (hm : bits .and .i64 n 16777215 = (m : Int)) (hm2 : m < 16777216) (hM : max most 0 = (M : Int)) (hMm : most.toNat = M) (hok : ¬ s.size ≤ M) :
    Calls Try.prog 4 #[.int .i64 n, .int .i64 most, .string s, .bool true] w fun e w' => e = .returned (.bool true) ∧ Below w.heap.size w w' := by
  have hs' : ¬ (200 : Int) < (s.size : Int) := by omega
  have hok' : ¬ (s.size : Int) ≤ (M : Int) := by omega
  have hrd := textRead_laid s M [1] (by omega)
  rw [if_neg hok] at hrd
  have HR := Lib.hid hrd
  have HM := Lib.hid hMm
  have h9 := octN_lt s.size (by omega)
  have hl9 : (octT s).length ≤ 300 := by have e : s.data.toList.length = s.size := by simp
                                         unfold octT; rw [List.length_append, e]; omega
  clear h9
  clear hrd hMm
  go_enter Try.func4, Try.ntmps4
  go_wp2_with fail
  refine (head_any _).mono ?_
  rintro e w1 ⟨rfl, hb1⟩
  have hz1 := hb1.size
  go_wp2_with fail
  refine (num_nat w.heap.size (.slice none 0 0) [] m (by omega) w1 (by simp) hz1 (Bs.nil _ _ _)).mono ?_
  rintro e w2 ⟨v2, rfl, hown2, hup2⟩
  have hb2 := hb1.trans (hup2.below (Bs.nil 5 w.heap.size w1) hz1)
  have hz2 := hb2.size
  clear hb1 hup2
  go_wp2_with fail
  clear hown2
  refine (text_any w.heap.size (.slice none 0 0) [] s w2 (by simp; omega) hz2 (Bs.nil _ _ _)).mono ?_
  rintro e w2 ⟨v2, rfl, hown2, hup2⟩
  have hb2 := hb2.trans (hup2.below (Bs.nil 5 w.heap.size _) hz2)
  have hz2 := hb2.size
  clear hup2
  go_wp2_with fail
  refine (flag_any w.heap.size v2 ([] ++ octT s) true w2 (by simp; omega) hz2 hown2).mono ?_
  rintro e w3 ⟨v3, rfl, hown3, hup3⟩
  have hb3 := hb2.trans (hup3.below hown2 hz2)
  have hz3 := hb3.size
  have c3 := conv_own (P := Try.prog) 5 w.heap.size w3 22 9 Try.underlying22 Try.underlying5 Try.underlying9 v3 _ hown3
  clear hb2 hup3 hown2 hown3
  go_wp2_with fail
  refine (read_any _ _).mono ?_
  rintro e w4 ⟨rfl, hr4, hb4'⟩
  have hb4 := hb3.trans (hb4'.mono hz3)
  have hz4 := hb4.size
  clear c3 hb4' hb3
  go_wp2_with fail
  have hnum := text_read w3.heap.size false _ (by simp [octF]; omega) most hmost w4 hr4
  rw [HM.out, show octT s ++ octF true = octT s ++ [1] from rfl, HR.out] at hnum
  refine hnum.mono ?_
  rintro e w5 hp
  obtain ⟨rfl, hg5⟩ := hp.gone
  have hr5 := hg5.1
  have hb5 := hb4.trans (hg5.frame hz4 hz3)
  have hz5 := hb5.size
  clear hp hg5 hnum hr4 hb4
  go_wp2_with (first
    | (go_at_call 18; refine (err_bad _ _ _ (by assumption)).mono ?_; rintro e w' ⟨rfl, rfl⟩)
    | (go_at_call 22; refine (left_list _ [] _ _ (by assumption)).mono ?_; rintro e w' ⟨rfl, rfl⟩)
    | (go_at_call 21; refine (end_bad _ _ _ (by assumption)).mono ?_; rintro e w' ⟨rfl, rfl⟩)
    | (go_at_call 20; refine (flag_fail _ _ (by assumption)).mono ?_; rintro e w6 ⟨rfl, hg6⟩; have hr6 := hg6.1; clear hr5)
    | (go_at_call 17; refine (num_fail _ _ _ (by assumption)).mono ?_; rintro e w7 ⟨rfl, hg7⟩; have hr7 := hg7.1; clear hr6)
    | (go_at_call 19; refine (text_fail _ _ _ (by assumption)).mono ?_; rintro e w8 ⟨rfl, hg8⟩))
  go_ret
  exact ⟨rfl, hb5.trans (((hg6.trans hg7).trans hg8).frame hz5 hz3)⟩

theorem walk (n : Int) (_w0 : (Lit.int .i64 n).wf = true) (most : Int) (w1 : (Lit.int .i64 most).wf = true) (s : ByteArray) (_w2 : s.size ≤ maxLen) (text : Bool) (w : World) :
    Calls Try.prog 4 #[.int .i64 n, .int .i64 most, .string s, .bool text] w fun e w' => e = .returned (.bool true) ∧ Below w.heap.size w w' := by
  have hmost : most ≤ 9223372036854775807 := by
    have h : -9223372036854775808 ≤ most ∧ most ≤ 9223372036854775807 := by simpa [Lit.wf, IntKind.min, IntKind.max, IntKind.signed, IntKind.bits] using w1
    exact h.2
  by_cases hs : 200 < s.size
  · exact walk_long n most s text w hs
  · obtain ⟨m, hm⟩ : ∃ m : Nat, n % 16777216 = m := ⟨(n % 16777216).toNat, by omega⟩
    have e := and_mask24 n
    rw [hm] at e
    have hM : max most 0 = ((most.toNat : Nat) : Int) := by omega
    cases text
    · by_cases h : m ≤ most.toNat
      · exact num_ok n most s w (by omega) hmost m _ e (by omega) hM rfl h
      · exact num_no n most s w (by omega) hmost m _ e (by omega) hM rfl h
    · by_cases h : s.size ≤ most.toNat
      · exact text_ok n most s w (by omega) hmost m _ e (by omega) hM rfl h
      · exact text_no n most s w (by omega) hmost m _ e (by omega) hM rfl h

end Go.Proofs.Ytecejmefnbejhaa.octetMosts
