/-
  OrdInts: for every two numbers and every text the law's function returns true, and writes nothing that was there.
-/
import Derived.Test.YtcmiflkalgpdjaaOBack
import Derived.Test.YtcmiflkalgpdjaaOKey
namespace Go.Proofs.Ytcmiflkalgpdjaa.ordInts
open Go.RowKit

theorem wf64 {z : Int} (h : (Lit.int .i64 z).wf = true) : Is64 z := by
  have h : -9223372036854775808 ≤ z ∧ z ≤ 9223372036854775807 := by simpa [Lit.wf, IntKind.min, IntKind.max, IntKind.signed, IntKind.bits] using h
  exact h

theorem walk_long (a b : Int) (s : ByteArray) (w : World) (hs : 20 < s.size) :
    Calls Try.prog 5 #[.int .i64 a, .int .i64 b, .string s] w fun e w' => e = .returned (.bool true) ∧ Below w.heap.size w w' := by
  have hs' : (20 : Int) < (s.size : Int) := by omega
  go_enter Try.func5, Try.ntmps5
  go_wp2_with (go_at_call 10; refine (ohead_any _).mono ?_; rintro e w1 ⟨rfl, hb1⟩)
  go_ret
  exact ⟨rfl, hb1⟩

/-- what the walk is told of a number's bytes -/
structure Of (B : Nat) (n : Int) (X : ByteArray) : Prop where
  size : X.size = 8
  conv : ∀ (w' : World) (v : Value), Bs 5 B w' v (oI n) → (convert 32 9 v).run Try.prog w' = .ok (.string X) w'
  num : ∀ w, Calls Try.prog 18 #[.string X] w fun e w' => e = .returned (.tuple #[.int .i64 n, .bool true]) ∧ w = w'
  data : X.data.toList = oI n

theorem of_num (B : Nat) (n : Int) (hn : Is64 n) : ∃ X, Of B n X := by
  have h8 : (⟨(oI n).toArray⟩ : ByteArray).size = 8 := oI_length n
  refine ⟨⟨(oI n).toArray⟩, h8, fun w' v h => conv_bs (P := Try.prog) 5 B w' 32 9 Try.underlying32 Try.underlying5 Try.underlying9 v _ h, fun w => ?_, rfl⟩
  have h := number_any ⟨(oI n).toArray⟩ h8 w
  have e : unI (⟨(oI n).toArray⟩ : ByteArray).data.toList = n := unI_oI hn
  rw [e] at h
  exact h

theorem of_text (B : Nat) (s : ByteArray) (h : s.size = 8) : Of B (unI s.data.toList) s := by
  have hl : s.data.toList.length = 8 := by rw [Array.length_toList]; exact h
  have e := oI_unI hl
  refine ⟨h, fun w' v hv => ?_, fun w => number_any s h w, e.symm⟩
  rw [e] at hv
  have hc := conv_bs (P := Try.prog) 5 B w' 32 9 Try.underlying32 Try.underlying5 Try.underlying9 v _ hv
  have es : (⟨s.data.toList.toArray⟩ : ByteArray) = s := by cases s; simp
  rw [es] at hc
  exact hc

set_option maxHeartbeats 2000000 in
theorem walk_main (a b : Int) (ha : Is64 a) (hb : Is64 b) (s : ByteArray) (hs : s.size ≤ 20) (w : World) :
    Calls Try.prog 5 #[.int .i64 a, .int .i64 b, .string s] w fun e w' => e = .returned (.bool true) ∧ Below w.heap.size w w' := by
  have hs' : ¬ (20 : Int) < (s.size : Int) := by omega
  obtain ⟨X, hX⟩ := of_num w.heap.size a ha
  obtain ⟨Y, hY⟩ := of_num w.heap.size b hb
  have hXs := hX.size
  have hby : ∀ w, Calls Try.prog 12 #[.string X, .string Y] w fun e w' => e = .returned (.int .i64 (if a < b then -1 else if b < a then 1 else 0)) ∧ w = w' := fun w => by
    have h := by_any X Y w
    have hc := cmpL_oI ha hb [] []
    rw [List.append_nil, List.append_nil, cmpL_self] at hc
    rw [hX.data, hY.data, hc] at h
    exact h
  have HBY := Lib.hid hby
  have HX := Lib.hid hX
  have HY := Lib.hid hY
  clear hby hX hY
  go_enter Try.func5, Try.ntmps5
  go_wp2_with fail
  refine (ohead_any _).mono ?_
  rintro e w1 ⟨rfl, hb1⟩
  have hz1 := hb1.size
  go_wp2_with fail
  refine (oint_any w.heap.size (.slice none 0 0) [] a ha w1 (by decide) hz1 (Bs.nil _ _ _)).mono ?_
  rintro e w2 ⟨v2, rfl, hown2, hup2⟩
  have cv2 := HX.out.conv w2 v2 hown2
  have hb2 := hb1.trans (hup2.below (Bs.nil 5 w.heap.size w1) hz1)
  have hz2 := hb2.size
  clear hb1 hup2 hown2
  go_wp2_with fail
  refine (oint_any w.heap.size (.slice none 0 0) [] b hb w2 (by decide) hz2 (Bs.nil _ _ _)).mono ?_
  rintro e w3 ⟨v3, rfl, hown3, hup3⟩
  have cv3 := HY.out.conv w3 v3 hown3
  have hb3 := hb2.trans (hup3.below (Bs.nil 5 w.heap.size w2) hz2)
  have hz3 := hb3.size
  clear hb2 hup3 hown3 cv2
  by_cases h1 : a < b
  · have h2 : ¬ b < a := by omega
    have hbw := HBY.out w3
    rw [if_pos h1] at hbw
    by_cases h8 : s.size = 8
    · have hS := of_text w.heap.size s h8
      have hl8 : s.data.toList.length = 8 := by rw [Array.length_toList]; exact h8
      have hm := unI_is64 hl8
      generalize unI s.data.toList = m at hS hm
      have HS := Lib.hid hS
      clear hS hl8
      go_wp2_with fail
      refine (HX.out.num w3).mono ?_
      rintro e w4 ⟨rfl, rfl⟩
      go_wp2_with fail
      refine (HS.out.num w3).mono ?_
      rintro e w4 ⟨rfl, rfl⟩
      go_wp2_with fail
      refine hbw.mono ?_
      rintro e w4 ⟨rfl, rfl⟩
      go_wp2_with fail
      refine (oint_any w.heap.size (.slice none 0 0) [] m hm w3 (by decide) hz3 (Bs.nil _ _ _)).mono ?_
      rintro e w5 ⟨v5, rfl, hown5, hup5⟩
      have cv5 := HS.out.conv w5 v5 hown5
      have hb5 := hb3.trans (hup5.below (Bs.nil 5 w.heap.size w3) hz3)
      clear hb3 hup5 hown5 cv3
      go_wp2
      go_ret
      exact ⟨rfl, hb5⟩
    · have hN := number_none s h8 w3
      have h8' : ((s.size : Int) == 8) = false := by rw [beq_eq_false_iff_ne]; omega
      clear h8
      go_wp2_with fail
      refine (HX.out.num w3).mono ?_
      rintro e w4 ⟨rfl, rfl⟩
      go_wp2_with fail
      refine hN.mono ?_
      rintro e w4 ⟨rfl, rfl⟩
      go_wp2_with fail
      refine hbw.mono ?_
      rintro e w4 ⟨rfl, rfl⟩
      go_wp2
      go_ret
      exact ⟨rfl, hb3⟩
  · by_cases h2 : b < a
    all_goals
      have hbw := HBY.out w3
      first | rw [if_neg h1, if_pos h2] at hbw | rw [if_neg h1, if_neg h2] at hbw
      by_cases h8 : s.size = 8
      · have hS := of_text w.heap.size s h8
        have hl8 : s.data.toList.length = 8 := by rw [Array.length_toList]; exact h8
        have hm := unI_is64 hl8
        generalize unI s.data.toList = m at hS hm
        have HS := Lib.hid hS
        clear hS hl8
        go_wp2_with fail
        refine (HX.out.num w3).mono ?_
        rintro e w4 ⟨rfl, rfl⟩
        go_wp2_with fail
        refine (HS.out.num w3).mono ?_
        rintro e w4 ⟨rfl, rfl⟩
        go_wp2_with fail
        refine hbw.mono ?_
        rintro e w4 ⟨rfl, rfl⟩
        go_wp2_with fail
        refine (oint_any w.heap.size (.slice none 0 0) [] m hm w3 (by decide) hz3 (Bs.nil _ _ _)).mono ?_
        rintro e w5 ⟨v5, rfl, hown5, hup5⟩
        have cv5 := HS.out.conv w5 v5 hown5
        have hb5 := hb3.trans (hup5.below (Bs.nil 5 w.heap.size w3) hz3)
        clear hb3 hup5 hown5 cv3
        go_wp2
        go_ret
        exact ⟨rfl, hb5⟩
      · have hN := number_none s h8 w3
        have h8' : ((s.size : Int) == 8) = false := by rw [beq_eq_false_iff_ne]; omega
        clear h8
        go_wp2_with fail
        refine (HX.out.num w3).mono ?_
        rintro e w4 ⟨rfl, rfl⟩
        go_wp2_with fail
        refine hN.mono ?_
        rintro e w4 ⟨rfl, rfl⟩
        go_wp2_with fail
        refine hbw.mono ?_
        rintro e w4 ⟨rfl, rfl⟩
        go_wp2
        go_ret
        exact ⟨rfl, hb3⟩

theorem walk (a : Int) (wa : (Lit.int .i64 a).wf = true) (b : Int) (wb : (Lit.int .i64 b).wf = true) (s : ByteArray) (_ws : s.size ≤ maxLen) (w : World) :
    Calls Try.prog 5 #[.int .i64 a, .int .i64 b, .string s] w fun e w' => e = .returned (.bool true) ∧ Below w.heap.size w w' := by
  by_cases h : 20 < s.size
  · exact walk_long a b s w h
  · exact walk_main a b (wf64 wa) (wf64 wb) s (by omega) w

end Go.Proofs.Ytcmiflkalgpdjaa.ordInts
