/-
  OctetRaws: for every text and every int the law's function returns true, and writes nothing that was there.
-/
import Derived.Test.YtecejmefnbejhaaNum
import Derived.Test.YtecejmefnbejhaaReader
namespace Go.Proofs.Ytecejmefnbejhaa.octetRaws
open Go.RowKit

theorem ends (s : ByteArray) (n : Nat) (h : n ≤ s.size) : ((errOf (decide (0 < s.size - n)) == 0) == ((n : Int) == (s.size : Int))) = true := by
  by_cases e : n = s.size
  · subst e; simp [errOf]
  · have h1 : 0 < s.size - n := by omega
    have h2 : ((n : Int) == (s.size : Int)) = false := by
      rw [beq_eq_false_iff_ne]; omega
    simp [errOf, h1, h2]

theorem walk_long (s : ByteArray) (n : Int) (w : World) (hs : 100 < s.size) :
    Calls Try.prog 8 #[.string s, .int .i64 n] w fun e w' => e = .returned (.bool true) ∧ Below w.heap.size w w' := by
  have hs' : (100 : Int) < (s.size : Int) := by omega
  go_enter Try.func8, Try.ntmps8
  go_wp2_with (go_at_call 10; refine (head_any _).mono ?_; rintro e w1 ⟨rfl, hb1⟩)
  go_ret
  exact ⟨rfl, hb1⟩

set_option maxHeartbeats 400000 in
theorem walk_none (s : ByteArray) (n : Int) (w : World) (hs : s.size ≤ 100) (hn : n < 1) :
    Calls Try.prog 8 #[.string s, .int .i64 n] w fun e w' => e = .returned (.bool true) ∧ Below w.heap.size w w' := by
  have hs' : ¬ (100 : Int) < (s.size : Int) := by omega
  go_enter Try.func8, Try.ntmps8
  go_wp2_with fail
  refine (head_any _).mono ?_
  rintro e w1 ⟨rfl, hb1⟩
  go_wp2_with fail
  refine (read_any s _).mono ?_
  rintro e w2 ⟨rfl, hr2, hb2⟩
  have hsz := hb1.size
  have hb12 := hb1.trans (hb2.mono hsz)
  have hz2 := hb12.size
  clear hb1 hb2
  go_wp2_with fail
  refine (raw_none w1.heap.size s false n hn w2 hr2).mono ?_
  rintro e w3 ⟨rfl, hg⟩
  have hb3 := hb12.trans (hg.frame (B := w.heap.size) hz2 hsz)
  have hr3 := hg.1
  clear hg hb12 hr2
  go_wp2_with (first
    | (go_at_call 18; refine (err_at _ s false _ hr3).mono ?_; rintro e w' ⟨rfl, rfl⟩)
    | (go_at_call 22; refine (left_at _ s false _ hr3).mono ?_; rintro e w' ⟨rfl, rfl⟩))
  go_ret
  exact ⟨rfl, hb3⟩

set_option maxHeartbeats 400000 in
theorem walk_few (s : ByteArray) (n : Nat) (w : World) (hs : s.size ≤ 100) (hn : 1 ≤ n) (hn2 : s.size < n) :
    Calls Try.prog 8 #[.string s, .int .i64 n] w fun e w' => e = .returned (.bool true) ∧ Below w.heap.size w w' := by
  have hs' : ¬ (100 : Int) < (s.size : Int) := by omega
  have hn' : ¬ (n : Int) < 1 := by omega
  have hn2' : (s.size : Int) < (n : Int) := by omega
  go_enter Try.func8, Try.ntmps8
  go_wp2_with fail
  refine (head_any _).mono ?_
  rintro e w1 ⟨rfl, hb1⟩
  go_wp2_with fail
  refine (read_any s _).mono ?_
  rintro e w2 ⟨rfl, hr2, hb2⟩
  have hsz := hb1.size
  have hb12 := hb1.trans (hb2.mono hsz)
  have hz2 := hb12.size
  clear hb1 hb2
  go_wp2_with fail
  refine (raw_few w1.heap.size s false n hn hn2 w2 hr2).mono ?_
  rintro e w3 ⟨rfl, hg⟩
  have hb3 := hb12.trans (hg.frame (B := w.heap.size) hz2 hsz)
  have hr3 := hg.1
  clear hg hb12 hr2
  go_wp2_with (first
    | (go_at_call 18; refine (err_at _ _ true _ hr3).mono ?_; rintro e w' ⟨rfl, rfl⟩)
    | (go_at_call 22; refine (left_at _ _ true _ hr3).mono ?_; rintro e w' ⟨rfl, rfl⟩))
  go_ret
  exact ⟨rfl, hb3⟩

set_option maxHeartbeats 400000 in
theorem walk_ok (s : ByteArray) (n : Nat) (w : World) (hs : s.size ≤ 100) (hn : 1 ≤ n) (hn2 : n ≤ s.size) :
    Calls Try.prog 8 #[.string s, .int .i64 n] w fun e w' => e = .returned (.bool true) ∧ Below w.heap.size w w' := by
  have hs' : ¬ (100 : Int) < (s.size : Int) := by omega
  have hn' : ¬ (n : Int) < 1 := by omega
  have hn2' : ¬ (s.size : Int) < (n : Int) := by omega
  go_enter Try.func8, Try.ntmps8
  go_wp2_with fail
  refine (head_any _).mono ?_
  rintro e w1 ⟨rfl, hb1⟩
  go_wp2_with fail
  refine (read_any s _).mono ?_
  rintro e w2 ⟨rfl, hr2, hb2⟩
  have hsz := hb1.size
  have hb12 := hb1.trans (hb2.mono hsz)
  have hz2 := hb12.size
  clear hb1 hb2
  go_wp2_with fail
  refine (raw_ok w1.heap.size s false n hn hn2 (by omega) w2 hr2).mono ?_
  rintro e w3 ⟨rfl, hg⟩
  have hb3 := hb12.trans (hg.frame (B := w.heap.size) hz2 hsz)
  have hr3 := hg.1
  clear hg hb12 hr2
  go_wp2_with (first
    | (go_at_call 22; refine (left_at _ _ false _ hr3).mono ?_; rintro e w' ⟨rfl, rfl⟩)
    | (go_at_call 23; refine (raw_nil _ _).mono ?_; rintro e w4 ⟨rfl, hb4⟩)
    | (go_at_call 21; refine (end_at _ _ false _ ((hb4.block _ hr3.lt).trans hr3)).mono ?_; rintro e w' ⟨rfl, rfl⟩))
  go_ret
  refine ⟨ret_bool (ends s n hn2), hb3.trans (hb4.mono hb3.size)⟩

theorem walk (s : ByteArray) (_w0 : s.size ≤ maxLen) (n : Int) (_w1 : (Lit.int .i64 n).wf = true) (w : World) :
    Calls Try.prog 8 #[.string s, .int .i64 n] w fun e w' => e = .returned (.bool true) ∧ Below w.heap.size w w' := by
  by_cases h1 : 100 < s.size
  · exact walk_long s n w h1
  · by_cases h2 : n < 1
    · exact walk_none s n w (by omega) h2
    · obtain ⟨m, rfl⟩ : ∃ m : Nat, n = m := ⟨n.toNat, by omega⟩
      by_cases h3 : s.size < m
      · exact walk_few s m w (by omega) (by omega) h3
      · exact walk_ok s m w (by omega) (by omega) (by omega)

end Go.Proofs.Ytecejmefnbejhaa.octetRaws
