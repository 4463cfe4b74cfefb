/-
  The walk of mailbaglaw04.DiskCrashes, at every argument.
-/
import Derived.Test.YtkeopkhbcmeplaaDCrW
namespace Go.Proofs.Ytkeopkhbcmeplaa.diskCrashes
open Go.RowKit

set_option maxHeartbeats 1000000 in
set_option maxRecDepth 100000 in
theorem walk_out {w : World} (z : Int) (a : Option Addr) (len cap : Nat) (vs : List ActS) (hc : ActsCame w a len cap vs) (ak : Option Addr) (lk ck : Nat)
    (a2 : Option Addr) (len2 cap2 : Nat) (vs2 : List ActS) (hc2 : ActsCame w a2 len2 cap2 vs2) (ag : Option Addr) (lg cg : Nat) (h : fewB vs = false ∨ fewB vs2 = false ∨ 50 < lk ∨ 50 < lg) :
    Calls Try.prog 4 #[.int .i64 z, .slice a len cap, .slice ak lk ck, .slice a2 len2 cap2, .slice ag lg cg] w fun e w' => e = .returned (.bool true) ∧ Below w.heap.size w w' := by
  have HFW : Hid (∀ W, Below w.heap.size w W → Calls Try.prog 11 #[.slice a len cap] W fun e w' => e = .returned (.bool (fewB vs)) ∧ Below W.heap.size W w') := Lib.hid fun W hB => few_any a len cap vs ⟨hc.1, hc.2.1, hc.2.2.1, hc.2.2.2.1.below hB, hc.2.2.2.2⟩
  have HFW2 : Hid (∀ W, Below w.heap.size w W → Calls Try.prog 11 #[.slice a2 len2 cap2] W fun e w' => e = .returned (.bool (fewB vs2)) ∧ Below W.heap.size W w') := Lib.hid fun W hB => few_any a2 len2 cap2 vs2 ⟨hc2.1, hc2.2.1, hc2.2.2.1, hc2.2.2.2.1.below hB, hc2.2.2.2.2⟩
  clear hc hc2
  cases hf : fewB vs
  · rw [hf] at HFW
    clear h hf HFW2
    go_enter Try.func4, Try.ntmps4
    go_wp2_with fail
    refine (dhead_any _).mono ?_
    rintro e w0 ⟨rfl, hb0⟩
    have H0 := Lib.hid hb0
    clear hb0
    go_wp2_with fail
    refine (HFW.out _ H0.out).mono ?_
    rintro e w1 ⟨rfl, hb1⟩
    have H1 := Lib.hid (H0.out.trans (hb1.mono H0.out.size))
    clear hb1 H0
    go_wp2
    go_ret
    exact ⟨rfl, H1.out⟩
  cases hf2 : fewB vs2
  · rw [hf] at HFW
    rw [hf2] at HFW2
    clear h hf hf2
    go_enter Try.func4, Try.ntmps4
    go_wp2_with fail
    refine (dhead_any _).mono ?_
    rintro e w0 ⟨rfl, hb0⟩
    have H0 := Lib.hid hb0
    clear hb0
    go_wp2_with fail
    refine (HFW.out _ H0.out).mono ?_
    rintro e w1 ⟨rfl, hb1⟩
    have H1 := Lib.hid (H0.out.trans (hb1.mono H0.out.size))
    clear hb1 H0
    go_wp2_with fail
    refine (HFW2.out _ H1.out).mono ?_
    rintro e w2 ⟨rfl, hb2⟩
    have H2 := Lib.hid (H1.out.trans (hb2.mono H1.out.size))
    clear hb2 H1
    go_wp2
    go_ret
    exact ⟨rfl, H2.out⟩
  rw [hf] at HFW
  rw [hf2] at HFW2
  rw [hf, hf2] at h
  simp only [Bool.true_eq_false, false_or] at h
  clear hf hf2
  by_cases hk : 50 < lk
  · have hk2 : (50 : Int) < (lk : Int) := by omega
    clear h
    go_enter Try.func4, Try.ntmps4
    go_wp2_with fail
    refine (dhead_any _).mono ?_
    rintro e w0 ⟨rfl, hb0⟩
    have H0 := Lib.hid hb0
    clear hb0
    go_wp2_with fail
    refine (HFW.out _ H0.out).mono ?_
    rintro e w1 ⟨rfl, hb1⟩
    have H1 := Lib.hid (H0.out.trans (hb1.mono H0.out.size))
    clear hb1 H0
    go_wp2_with fail
    refine (HFW2.out _ H1.out).mono ?_
    rintro e w2 ⟨rfl, hb2⟩
    have H2 := Lib.hid (H1.out.trans (hb2.mono H1.out.size))
    clear hb2 H1
    go_wp2
    go_ret
    exact ⟨rfl, H2.out⟩
  · have hk2 : ¬ (50 : Int) < (lk : Int) := by omega
    have hg2 : (50 : Int) < (lg : Int) := by omega
    clear h
    go_enter Try.func4, Try.ntmps4
    go_wp2_with fail
    refine (dhead_any _).mono ?_
    rintro e w0 ⟨rfl, hb0⟩
    have H0 := Lib.hid hb0
    clear hb0
    go_wp2_with fail
    refine (HFW.out _ H0.out).mono ?_
    rintro e w1 ⟨rfl, hb1⟩
    have H1 := Lib.hid (H0.out.trans (hb1.mono H0.out.size))
    clear hb1 H0
    go_wp2_with fail
    refine (HFW2.out _ H1.out).mono ?_
    rintro e w2 ⟨rfl, hb2⟩
    have H2 := Lib.hid (H1.out.trans (hb2.mono H1.out.size))
    clear hb2 H1
    go_wp2
    go_ret
    exact ⟨rfl, H2.out⟩

theorem walk {w : World} (z : Int) (_ : Lit.wf (.int .i64 z) = true) (a : Option Addr) (len cap : Nat) (hc : ∃ vs, ActsCame w a len cap vs) (ak : Option Addr) (lk ck : Nat) (zk : List Int) (hk : IsRow .i64 w ak lk ck zk)
    (a2 : Option Addr) (len2 cap2 : Nat) (hc2 : ∃ vs, ActsCame w a2 len2 cap2 vs) (ag : Option Addr) (lg cg : Nat) (zg : List Int) (hg : IsRow .i64 w ag lg cg zg) :
    Calls Try.prog 4 #[.int .i64 z, .slice a len cap, .slice ak lk ck, .slice a2 len2 cap2, .slice ag lg cg] w fun e w' => e = .returned (.bool true) ∧ Below w.heap.size w w' := by
  obtain ⟨vs, hc⟩ := hc
  obtain ⟨vs2, hc2⟩ := hc2
  by_cases h : fewB vs = false ∨ fewB vs2 = false ∨ 50 < lk ∨ 50 < lg
  · exact walk_out z a len cap vs hc ak lk ck a2 len2 cap2 vs2 hc2 ag lg cg h
  · have h1 : fewB vs = true := by cases e : fewB vs with
      | true => rfl
      | false => exact absurd (.inl e) h
    have h2 : fewB vs2 = true := by cases e : fewB vs2 with
      | true => rfl
      | false => exact absurd (.inr (.inl e)) h
    exact walk_few z a len cap vs hc h1 ak lk ck zk hk (by omega) a2 len2 cap2 vs2 hc2 h2 ag lg cg zg hg (by omega)

end Go.Proofs.Ytkeopkhbcmeplaa.diskCrashes
