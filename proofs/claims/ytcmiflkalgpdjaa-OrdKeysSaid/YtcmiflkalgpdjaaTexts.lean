/-
  OrdTexts: for every two texts and every two rows of bytes the law's function returns true, and writes nothing that was there.
-/
import Derived.Test.YtcmiflkalgpdjaaOBack
import Derived.Test.YtcmiflkalgpdjaaOKey
import Derived.Test.YtcmiflkalgpdjaaRowB
import Derived.Deep.QuietTactic
import Derived.BigQuiet
namespace Go.Proofs.Ytcmiflkalgpdjaa.ordTexts
open Go.RowKit Go.Proofs.Ytcmiflkalgpdjaa.rowB

theorem walk_long (a b : ByteArray) (am : Option Addr) (lm cm : Nat) (ao : Option Addr) (lo co : Nat) (w : World) (h : 60 < a.size ∨ 60 < b.size ∨ 20 < lm ∨ 20 < lo) :
    Calls Try.prog 8 #[.string a, .string b, .slice am lm cm, .slice ao lo co] w fun e w' => e = .returned (.bool true) ∧ Below w.heap.size w w' := by
  by_cases h1 : 60 < a.size
  · have h1' : (60 : Int) < (a.size : Int) := by omega
    clear h
    go_enter Try.func8, Try.ntmps8
    go_wp2_with (go_at_call 10; refine (ohead_any _).mono ?_; rintro e w1 ⟨rfl, hb1⟩)
    go_ret
    exact ⟨rfl, hb1⟩
  · have h1' : ¬ (60 : Int) < (a.size : Int) := by omega
    by_cases h2 : 60 < b.size
    · have h2' : (60 : Int) < (b.size : Int) := by omega
      clear h
      go_enter Try.func8, Try.ntmps8
      go_wp2_with (go_at_call 10; refine (ohead_any _).mono ?_; rintro e w1 ⟨rfl, hb1⟩)
      go_ret
      exact ⟨rfl, hb1⟩
    · have h2' : ¬ (60 : Int) < (b.size : Int) := by omega
      by_cases h3 : 20 < lm
      · have h3' : (20 : Int) < (lm : Int) := by omega
        clear h
        go_enter Try.func8, Try.ntmps8
        go_wp2_with (go_at_call 10; refine (ohead_any _).mono ?_; rintro e w1 ⟨rfl, hb1⟩)
        go_ret
        exact ⟨rfl, hb1⟩
      · have h3' : ¬ (20 : Int) < (lm : Int) := by omega
        have h4' : (20 : Int) < (lo : Int) := by omega
        clear h
        go_enter Try.func8, Try.ntmps8
        go_wp2_with (go_at_call 10; refine (ohead_any _).mono ?_; rintro e w1 ⟨rfl, hb1⟩)
        go_ret
        exact ⟨rfl, hb1⟩

theorem by_lists (x y : L8) (w : World) : Calls Try.prog 12 #[.string ⟨x.toArray⟩, .string ⟨y.toArray⟩] w fun e w' => e = .returned (.int .i64 (cmpL x y)) ∧ w = w' := by_any ⟨x.toArray⟩ ⟨y.toArray⟩ w

set_option maxHeartbeats 2000000 in
theorem walk_main (a b : ByteArray) (am : Option Addr) (lm cm : Nat) (zm : List Int) (ao : Option Addr) (lo co : Nat) (zo : List Int) (w : World) (wm : IsRow .u8 w am lm cm zm) (wo : IsRow .u8 w ao lo co zo)
    (h1 : a.size ≤ 60) (h2 : b.size ≤ 60) (h3 : lm ≤ 20) (h4 : lo ≤ 20) :
    Calls Try.prog 8 #[.string a, .string b, .slice am lm cm, .slice ao lo co] w fun e w' => e = .returned (.bool true) ∧ Below w.heap.size w w' := by
  have h1' : ¬ (60 : Int) < (a.size : Int) := by omega
  have h2' : ¬ (60 : Int) < (b.size : Int) := by omega
  have h3' : ¬ (20 : Int) < (lm : Int) := by omega
  have h4' : ¬ (20 : Int) < (lo : Int) := by omega
  have CV := Lib.hid (fun (w' : World) (v : Value) (l : List UInt8) (h : Bs 5 w.heap.size w' v l) => conv_bs (P := Try.prog) 5 w.heap.size w' 32 9 Try.underlying32 Try.underlying5 Try.underlying9 v l h)
  have hcmp := cmpL_oT (txt a) (txt b) (bytesOf (zm.take lm)) (bytesOf (zo.take lo))
  have la := oT_length (txt a)
  have lb := oT_length (txt b)
  have lla := txt_length a
  have llb := txt_length b
  have hoa : (oT (txt a)).length ≤ 200 := by omega
  have hob : (oT (txt b)).length ≤ 200 := by omega
  have LM := Lib.hid (bytesOf_length (zm.take lm))
  obtain ⟨M, hM⟩ : ∃ M, M = bytesOf (zm.take lm) := ⟨_, rfl⟩
  obtain ⟨O, hO⟩ : ∃ O, O = bytesOf (zo.take lo) := ⟨_, rfl⟩
  rw [← hM, ← hO] at hcmp
  have HM := Lib.hid hM
  have HO := Lib.hid hO
  have HC := Lib.hid hcmp
  clear la lb lla llb hM hO hcmp
  have oA : Hid (oT (txt a) = oT a.data.toList) := Lib.hid rfl
  have oB : Hid (oT (txt b) = oT b.data.toList) := Lib.hid rfl
  generalize hA : oT (txt a) = A at hoa HC oA
  generalize hB : oT (txt b) = B at hob HC oB
  clear hA hB
  go_enter Try.func8, Try.ntmps8
  go_wp2_with fail
  refine (ohead_any _).mono ?_
  rintro e w1 ⟨rfl, hb1⟩
  have hz1 := hb1.size
  go_wp2_with fail
  refine (otext_any w.heap.size (.slice none 0 0) [] a w1 (by simp only [List.length_nil]; omega) hz1 (Bs.nil _ _ _)).mono ?_
  rintro e w2 ⟨v2, rfl, hown2, hup2⟩
  rw [List.nil_append, ← oA.out] at hown2
  have hb2 := hb1.trans (hup2.below (Bs.nil 5 w.heap.size w1) hz1)
  have hz2 := hb2.size
  have hrow2 := isRow_below wm hb2
  clear hb1 hup2
  go_wp2_with (at_builtin; refine wpList_app_b _ rfl (.tmp 32) (.tmp 33) 32 rfl 5 w.heap.size Try.underlying32 infoB _ _ rfl hown2 am lm cm zm hrow2 rfl (by omega) hz2 ?_; intro v3 w3 hown3 hup3; rw [← HM.out] at hown3; have cv3 := CV.out w3 v3 _ hown3)
  have hb3 := hb2.trans (hup3.below hown2 hz2)
  have hz3 := hb3.size
  clear hb2 hup3 hown2 hrow2 hz2
  refine (otext_any w.heap.size (.slice none 0 0) [] b w3 (by simp only [List.length_nil]; omega) hz3 (Bs.nil _ _ _)).mono ?_
  rintro e w4 ⟨v4, rfl, hown4, hup4⟩
  rw [List.nil_append, ← oB.out] at hown4
  have hb4 := hb3.trans (hup4.below (Bs.nil 5 w.heap.size w3) hz3)
  have hz4 := hb4.size
  have hrow4 := isRow_below wo hb4
  clear hb3 hup4 cv3
  by_cases hab : txt a = txt b
  · have hE : (a.toList == b.toList) = true := by rw [Lib.toList_data, Lib.toList_data, beq_iff_eq]; exact hab
    go_wp2_with (at_builtin; refine wpList_app_b _ rfl (.tmp 37) (.tmp 38) 32 rfl 5 w.heap.size Try.underlying32 infoB _ _ rfl hown4 ao lo co zo hrow4 rfl (by omega) hz4 ?_; intro v5 w5 hown5 hup5; rw [← HO.out] at hown5; have cv5 := CV.out w5 v5 _ hown5)
    have hb5 := hb4.trans (hup5.below hown4 hz4)
    clear hb4 hup5 hown4 hrow4 hz4
    have hc := HC.out
    rw [if_pos hab] at hc
    have HC2 := Lib.hid hc
    have cvm : ∀ q, (convert 32 9 (.slice am lm cm)).run Try.prog (w5.drewN q) = .ok (.string ⟨M.toArray⟩) (w5.drewN q) := fun q => by
      rw [HM.out]; exact conv_b (P := Try.prog) (w5.drewN q) 32 9 5 Try.underlying32 Try.underlying5 Try.underlying9 am lm cm zm (isRow_below (isRow_below wm hb5) (below_drewN (Below.refl _ _) q))
    have cvo : ∀ q, (convert 32 9 (.slice ao lo co)).run Try.prog (w5.drewN q) = .ok (.string ⟨O.toArray⟩) (w5.drewN q) := fun q => by
      rw [HO.out]; exact conv_b (P := Try.prog) (w5.drewN q) 32 9 5 Try.underlying32 Try.underlying5 Try.underlying9 ao lo co zo (isRow_below (isRow_below wo hb5) (below_drewN (Below.refl _ _) q))
    clear hab hc
    go_wp2_with fail
    go_quiet ((first | (rw [cvm]; exact ⟨rfl, rfl⟩) | (rw [cvo]; exact ⟨rfl, rfl⟩) | (go_at_call 12; exact quiet_l (by_lists _ _ _))))
    go_wp2
    go_ret
    exact ⟨ret_bool (by rw [HC2.out]; simp), below_drewN hb5 _⟩
  · have hE : (a.toList == b.toList) = false := by rw [Lib.toList_data, Lib.toList_data, beq_eq_false_iff_ne]; exact hab
    go_wp2_with (at_builtin; refine wpList_app_b _ rfl (.tmp 37) (.tmp 38) 32 rfl 5 w.heap.size Try.underlying32 infoB _ _ rfl hown4 ao lo co zo hrow4 rfl (by omega) hz4 ?_; intro v5 w5 hown5 hup5; rw [← HO.out] at hown5; have cv5 := CV.out w5 v5 _ hown5)
    have hb5 := hb4.trans (hup5.below hown4 hz4)
    clear hb4 hup5 hown4 hrow4 hz4
    have hbw := by_lists (A ++ M) (B ++ O) w5
    have hbm := by_any a b w5
    have hc := HC.out
    rw [if_neg hab] at hc
    rw [hc] at hbw
    have hcc : Hid (cmpL a.data.toList b.data.toList = cmpL (txt a) (txt b)) := Lib.hid rfl
    rw [hcc.out] at hbm
    generalize cmpL (txt a) (txt b) = c at hbw hbm
    clear hab hc hcc
    refine hbw.mono ?_
    rintro e w6 ⟨rfl, rfl⟩
    go_wp2_with fail
    refine hbm.mono ?_
    rintro e w6 ⟨rfl, rfl⟩
    go_wp2
    go_ret
    exact ⟨by simp, hb5⟩

theorem walk {w : World} (a : ByteArray) (_wa : a.size ≤ maxLen) (b : ByteArray) (_wb : b.size ≤ maxLen) (am : Option Addr) (lm cm : Nat) (zm : List Int) (wm : IsRow .u8 w am lm cm zm) (ao : Option Addr) (lo co : Nat) (zo : List Int) (wo : IsRow .u8 w ao lo co zo) :
    Calls Try.prog 8 #[.string a, .string b, .slice am lm cm, .slice ao lo co] w fun e w' => e = .returned (.bool true) ∧ Below w.heap.size w w' := by
  by_cases h : 60 < a.size ∨ 60 < b.size ∨ 20 < lm ∨ 20 < lo
  · exact walk_long a b am lm cm ao lo co w h
  · exact walk_main a b am lm cm zm ao lo co zo w wm wo (by omega) (by omega) (by omega) (by omega)

end Go.Proofs.Ytcmiflkalgpdjaa.ordTexts
