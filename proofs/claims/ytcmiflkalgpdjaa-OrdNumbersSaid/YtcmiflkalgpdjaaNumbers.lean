/-
  OrdNumbers: for every two numbers, a text and two rows of bytes the law's function returns true, and writes nothing that was there.
-/
import Derived.Test.YtcmiflkalgpdjaaInts
import Derived.Test.YtcmiflkalgpdjaaOKey
import Derived.Test.YtcmiflkalgpdjaaRowB
import Derived.Deep.QuietTactic
import Derived.BigQuiet
namespace Go.Proofs.Ytcmiflkalgpdjaa.ordNumbers
open Go.RowKit Go.Proofs.Ytcmiflkalgpdjaa.rowB

theorem walk_long (a b : Int) (s : ByteArray) (am : Option Addr) (lm cm : Nat) (ao : Option Addr) (lo co : Nat) (w : World) (h : 40 < s.size ∨ 20 < lm ∨ 20 < lo) :
    Calls Try.prog 9 #[.int .i64 a, .int .i64 b, .string s, .slice am lm cm, .slice ao lo co] w fun e w' => e = .returned (.bool true) ∧ Below w.heap.size w w' := by
  by_cases h1 : 40 < s.size
  · have h1' : (40 : Int) < (s.size : Int) := by omega
    clear h
    go_enter Try.func9, Try.ntmps9
    go_wp2_with (go_at_call 10; refine (ohead_any _).mono ?_; rintro e w1 ⟨rfl, hb1⟩)
    go_ret
    exact ⟨rfl, hb1⟩
  · have h1' : ¬ (40 : Int) < (s.size : Int) := by omega
    by_cases h3 : 20 < lm
    · have h3' : (20 : Int) < (lm : Int) := by omega
      clear h
      go_enter Try.func9, Try.ntmps9
      go_wp2_with (go_at_call 10; refine (ohead_any _).mono ?_; rintro e w1 ⟨rfl, hb1⟩)
      go_ret
      exact ⟨rfl, hb1⟩
    · have h3' : ¬ (20 : Int) < (lm : Int) := by omega
      have h4' : (20 : Int) < (lo : Int) := by omega
      clear h
      go_enter Try.func9, Try.ntmps9
      go_wp2_with (go_at_call 10; refine (ohead_any _).mono ?_; rintro e w1 ⟨rfl, hb1⟩)
      go_ret
      exact ⟨rfl, hb1⟩

theorem by_lists (x y : L8) (w : World) : Calls Try.prog 12 #[.string ⟨x.toArray⟩, .string ⟨y.toArray⟩] w fun e w' => e = .returned (.int .i64 (cmpL x y)) ∧ w = w' := by_any ⟨x.toArray⟩ ⟨y.toArray⟩ w

theorem cmp_num {a b : Int} (ha : Is64 a) (hb : Is64 b) (S M O : L8) : cmpL (oT S ++ oI a ++ M) (oT S ++ oI b ++ O) = if a < b then -1 else if b < a then 1 else cmpL M O := by
  rw [List.append_assoc, List.append_assoc, cmpL_append_left, cmpL_oI ha hb]

theorem bl_of {x y : L8} (h : cmpL x y = -1) : Op.bytesLess x y = true := by
  rw [Proofs.bytesLess_eq]
  refine decide_eq_true ?_
  show x < y
  rcases lt_tri x y with g | g | g
  · exact g
  · rw [cmpL_zero.2 g] at h; omega
  · rw [cmpL_gt g] at h; omega

theorem bg_of {x y : L8} (h : cmpL x y = 1) : (Op.bytesLess x y = false) ∧ (x == y) = false := by
  rw [Proofs.bytesLess_eq]
  rcases lt_tri x y with g | g | g
  · rw [cmpL_lt g] at h; omega
  · rw [cmpL_zero.2 g] at h; omega
  · refine ⟨decide_eq_false (show ¬ x < y from lt_asym g), ?_⟩
    rw [beq_eq_false_iff_ne]
    show x ≠ y
    intro e; subst e; exact lt_irr _ g

set_option maxHeartbeats 2000000 in
theorem walk_main (a b : Int) (ha : Is64 a) (hb : Is64 b) (s : ByteArray) (am : Option Addr) (lm cm : Nat) (zm : List Int) (ao : Option Addr) (lo co : Nat) (zo : List Int) (w : World) (wm : IsRow .u8 w am lm cm zm) (wo : IsRow .u8 w ao lo co zo)
    (h1 : s.size ≤ 40) (h3 : lm ≤ 20) (h4 : lo ≤ 20) :
    Calls Try.prog 9 #[.int .i64 a, .int .i64 b, .string s, .slice am lm cm, .slice ao lo co] w fun e w' => e = .returned (.bool true) ∧ Below w.heap.size w w' := by
  have h1' : ¬ (40 : Int) < (s.size : Int) := by omega
  have h3' : ¬ (20 : Int) < (lm : Int) := by omega
  have h4' : ¬ (20 : Int) < (lo : Int) := by omega
  have CV := Lib.hid (fun (w' : World) (v : Value) (l : List UInt8) (h : Bs 5 w.heap.size w' v l) => conv_bs (P := Try.prog) 5 w.heap.size w' 32 9 Try.underlying32 Try.underlying5 Try.underlying9 v l h)
  have hcmp := cmp_num ha hb (txt s) (bytesOf (zm.take lm)) (bytesOf (zo.take lo))
  have la := oT_length (txt s)
  have lla := txt_length s
  have ia := oI_length a
  have ib := oI_length b
  have hoa : (oT (txt s) ++ oI a).length ≤ 200 := by rw [List.length_append]; omega
  have hob : (oT (txt s) ++ oI b).length ≤ 200 := by rw [List.length_append]; omega
  have hos : (oT (txt s)).length ≤ 200 := by omega
  obtain ⟨M, hM⟩ : ∃ M, M = bytesOf (zm.take lm) := ⟨_, rfl⟩
  obtain ⟨O, hO⟩ : ∃ O, O = bytesOf (zo.take lo) := ⟨_, rfl⟩
  rw [← hM, ← hO] at hcmp
  have HM := Lib.hid hM
  have HO := Lib.hid hO
  clear la lla ia ib hM hO
  have oA : Hid (oT (txt s) ++ oI a = oT (txt s) ++ oI a) := Lib.hid rfl
  have oB : Hid (oT (txt s) ++ oI b = oT (txt s) ++ oI b) := Lib.hid rfl
  have oS : Hid (oT (txt s) = oT s.data.toList) := Lib.hid rfl
  obtain ⟨A, hA⟩ : ∃ A, A = oT (txt s) ++ oI a := ⟨_, rfl⟩
  obtain ⟨B, hB⟩ : ∃ B, B = oT (txt s) ++ oI b := ⟨_, rfl⟩
  rw [← hA] at hoa hcmp
  rw [← hB] at hob hcmp
  have HC := Lib.hid hcmp
  have HA := Lib.hid hA
  have HB := Lib.hid hB
  clear hA hB hcmp oA oB
  go_enter Try.func9, Try.ntmps9
  go_wp2_with fail
  refine (ohead_any _).mono ?_
  rintro e w1 ⟨rfl, hb1⟩
  have hz1 := hb1.size
  go_wp2_with fail
  refine (otext_any w.heap.size (.slice none 0 0) [] s w1 (by simp only [List.length_nil]; omega) hz1 (Bs.nil _ _ _)).mono ?_
  rintro e w2 ⟨v2, rfl, hown2, hup2⟩
  rw [List.nil_append, ← oS.out] at hown2
  have hb2 := hb1.trans (hup2.below (Bs.nil 5 w.heap.size w1) hz1)
  have hz2 := hb2.size
  clear hb1 hup2
  go_wp2_with fail
  refine (oint_any w.heap.size v2 _ a ha w2 (by omega) hz2 hown2).mono ?_
  rintro e w2b ⟨v2b, rfl, hown2b, hup2b⟩
  rw [← HA.out] at hown2b
  have hb2b := hb2.trans (hup2b.below hown2 hz2)
  have hz2b := hb2b.size
  have hrow2 := isRow_below wm hb2b
  clear hb2 hup2b hown2 hz2
  go_wp2_with (at_builtin; refine wpList_app_b _ rfl (.tmp 31) (.tmp 32) 32 rfl 5 w.heap.size Try.underlying32 infoB _ _ rfl hown2b am lm cm zm hrow2 rfl (by omega) hz2b ?_; intro v3 w3 hown3 hup3; rw [← HM.out] at hown3; have cv3 := CV.out w3 v3 _ hown3)
  have hb3 := hb2b.trans (hup3.below hown2b hz2b)
  have hz3 := hb3.size
  clear hb2b hup3 hown2b hrow2 hz2b
  refine (otext_any w.heap.size (.slice none 0 0) [] s w3 (by simp only [List.length_nil]; omega) hz3 (Bs.nil _ _ _)).mono ?_
  rintro e w4 ⟨v4, rfl, hown4, hup4⟩
  rw [List.nil_append, ← oS.out] at hown4
  have hb4 := hb3.trans (hup4.below (Bs.nil 5 w.heap.size w3) hz3)
  have hz4 := hb4.size
  clear hb3 hup4 cv3
  go_wp2_with fail
  refine (oint_any w.heap.size v4 _ b hb w4 (by omega) hz4 hown4).mono ?_
  rintro e w4b ⟨v4b, rfl, hown4b, hup4b⟩
  rw [← HB.out] at hown4b
  have hb4b := hb4.trans (hup4b.below hown4 hz4)
  have hz4b := hb4b.size
  have hrow4 := isRow_below wo hb4b
  clear hb4 hup4b hown4 hz4
  by_cases hab : a < b
  · have hc := HC.out
    rw [if_pos hab] at hc
    have HC3 := Lib.hid hc
    clear hc
    go_wp2_with (at_builtin; refine wpList_app_b _ rfl (.tmp 38) (.tmp 39) 32 rfl 5 w.heap.size Try.underlying32 infoB _ _ rfl hown4b ao lo co zo hrow4 rfl (by omega) hz4b ?_; intro v5 w5 hown5 hup5; rw [← HO.out] at hown5; have cv5 := CV.out w5 v5 _ hown5)
    have hb5 := hb4b.trans (hup5.below hown4b hz4b)
    clear hb4b hup5 hown4b hrow4 hz4b
    have hc := HC3.out
    have hlt := bl_of hc
    clear hc
    go_wp2
    go_ret
    exact ⟨ret_bool hlt, hb5⟩
  · by_cases hba : b < a
    · have hc := HC.out
      rw [if_neg hab, if_pos hba] at hc
      have HC3 := Lib.hid hc
      clear hc
      go_wp2_with (at_builtin; refine wpList_app_b _ rfl (.tmp 38) (.tmp 39) 32 rfl 5 w.heap.size Try.underlying32 infoB _ _ rfl hown4b ao lo co zo hrow4 rfl (by omega) hz4b ?_; intro v5 w5 hown5 hup5; rw [← HO.out] at hown5; have cv5 := CV.out w5 v5 _ hown5)
      have hb5 := hb4b.trans (hup5.below hown4b hz4b)
      clear hb4b hup5 hown4b hrow4 hz4b
      have hc := HC3.out
      obtain ⟨hlt, heq⟩ := bg_of hc
      clear hc
      go_wp2
      go_ret
      exact ⟨ret_bool (by rw [hlt, heq]; rfl), hb5⟩
    · have hc := HC.out
      rw [if_neg hab, if_neg hba] at hc
      have HC3 := Lib.hid hc
      clear hc
      go_wp2_with (at_builtin; refine wpList_app_b _ rfl (.tmp 38) (.tmp 39) 32 rfl 5 w.heap.size Try.underlying32 infoB _ _ rfl hown4b ao lo co zo hrow4 rfl (by omega) hz4b ?_; intro v5 w5 hown5 hup5; rw [← HO.out] at hown5; have cv5 := CV.out w5 v5 _ hown5)
      have hb5 := hb4b.trans (hup5.below hown4b hz4b)
      clear hb4b hup5 hown4b hrow4 hz4b
      have hc := HC3.out
      have HC2 := Lib.hid hc
      have cvm : ∀ q, (convert 32 9 (.slice am lm cm)).run Try.prog (w5.drewN q) = .ok (.string ⟨M.toArray⟩) (w5.drewN q) := fun q => by
        rw [HM.out]; exact conv_b (P := Try.prog) (w5.drewN q) 32 9 5 Try.underlying32 Try.underlying5 Try.underlying9 am lm cm zm (isRow_below (isRow_below wm hb5) (below_drewN (Below.refl _ _) q))
      have cvo : ∀ q, (convert 32 9 (.slice ao lo co)).run Try.prog (w5.drewN q) = .ok (.string ⟨O.toArray⟩) (w5.drewN q) := fun q => by
        rw [HO.out]; exact conv_b (P := Try.prog) (w5.drewN q) 32 9 5 Try.underlying32 Try.underlying5 Try.underlying9 ao lo co zo (isRow_below (isRow_below wo hb5) (below_drewN (Below.refl _ _) q))
      clear hc
      go_wp2_with fail
      go_quiet ((first | (rw [cvm]; exact ⟨rfl, rfl⟩) | (rw [cvo]; exact ⟨rfl, rfl⟩) | (go_at_call 12; exact quiet_l (by_lists _ _ _))))
      go_wp2
      go_ret
      exact ⟨ret_bool (by rw [HC2.out]; simp), below_drewN hb5 _⟩

theorem walk {w : World} (a : Int) (wa : (Lit.int .i64 a).wf = true) (b : Int) (wb : (Lit.int .i64 b).wf = true) (s : ByteArray) (_ws : s.size ≤ maxLen) (am : Option Addr) (lm cm : Nat) (zm : List Int) (wm : IsRow .u8 w am lm cm zm) (ao : Option Addr) (lo co : Nat) (zo : List Int) (wo : IsRow .u8 w ao lo co zo) :
    Calls Try.prog 9 #[.int .i64 a, .int .i64 b, .string s, .slice am lm cm, .slice ao lo co] w fun e w' => e = .returned (.bool true) ∧ Below w.heap.size w w' := by
  by_cases h : 40 < s.size ∨ 20 < lm ∨ 20 < lo
  · exact walk_long a b s am lm cm ao lo co w h
  · exact walk_main a b (ordInts.wf64 wa) (ordInts.wf64 wb) s am lm cm zm ao lo co zo w wm wo (by omega) (by omega) (by omega)

end Go.Proofs.Ytcmiflkalgpdjaa.ordNumbers
