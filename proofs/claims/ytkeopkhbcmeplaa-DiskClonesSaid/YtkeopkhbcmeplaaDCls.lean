/-
  The walk of mailbaglaw04.DiskClones, at every argument.
-/
import Derived.Test.YtkeopkhbcmeplaaDClsW
namespace Go.Proofs.Ytkeopkhbcmeplaa.diskClones
open Go.RowKit

set_option maxHeartbeats 1000000 in
set_option maxRecDepth 100000 in
theorem walk_out {w : World} (z : Int) (a : Option Addr) (len cap : Nat) (vs : List ActS) (hc : ActsCame w a len cap vs)
    (a2 : Option Addr) (len2 cap2 : Nat) (vs2 : List ActS) (hc2 : ActsCame w a2 len2 cap2 vs2) (h : fewB vs = false ∨ fewB vs2 = false) :
    Calls Try.prog 5 #[.int .i64 z, .slice a len cap, .slice a2 len2 cap2] w fun e w' => e = .returned (.bool true) ∧ Below w.heap.size w w' := by
  have HFW : Hid (∀ W, Below w.heap.size w W → Calls Try.prog 11 #[.slice a len cap] W fun e w' => e = .returned (.bool (fewB vs)) ∧ Below W.heap.size W w') := Lib.hid fun W hB => few_any a len cap vs ⟨hc.1, hc.2.1, hc.2.2.1, hc.2.2.2.1.below hB, hc.2.2.2.2⟩
  have HFW2 : Hid (∀ W, Below w.heap.size w W → Calls Try.prog 11 #[.slice a2 len2 cap2] W fun e w' => e = .returned (.bool (fewB vs2)) ∧ Below W.heap.size W w') := Lib.hid fun W hB => few_any a2 len2 cap2 vs2 ⟨hc2.1, hc2.2.1, hc2.2.2.1, hc2.2.2.2.1.below hB, hc2.2.2.2.2⟩
  clear hc hc2
  cases hf : fewB vs
  · rw [hf] at HFW
    clear h hf HFW2
    go_enter Try.func5, Try.ntmps5
    go_wp2_with fail
    refine (dhead_any _).mono ?_
    rintro e w0 ⟨rfl, hb0⟩
    have H0 := Lib.hid hb0
    clear hb0
    go_wp2_with fail
    refine (HFW.out _ H0.out).mono ?_
    rintro e w1 ⟨rfl, hb1⟩
    have H1 := Lib.hid (H0.out.trans (hb1.mono H0.out.size))
    clear hb1 H0
    go_wp2
    go_ret
    exact ⟨rfl, H1.out⟩
  · have hf2 : fewB vs2 = false := by
      rcases h with h | h
      · rw [hf] at h; cases h
      · exact h
    rw [hf] at HFW
    rw [hf2] at HFW2
    clear h hf hf2
    go_enter Try.func5, Try.ntmps5
    go_wp2_with fail
    refine (dhead_any _).mono ?_
    rintro e w0 ⟨rfl, hb0⟩
    have H0 := Lib.hid hb0
    clear hb0
    go_wp2_with fail
    refine (HFW.out _ H0.out).mono ?_
    rintro e w1 ⟨rfl, hb1⟩
    have H1 := Lib.hid (H0.out.trans (hb1.mono H0.out.size))
    clear hb1 H0
    go_wp2_with fail
    refine (HFW2.out _ H1.out).mono ?_
    rintro e w2 ⟨rfl, hb2⟩
    have H2 := Lib.hid (H1.out.trans (hb2.mono H1.out.size))
    clear hb2 H1
    go_wp2
    go_ret
    exact ⟨rfl, H2.out⟩

theorem walk {w : World} (z : Int) (_ : Lit.wf (.int .i64 z) = true) (a : Option Addr) (len cap : Nat) (hc : ∃ vs, ActsCame w a len cap vs)
    (a2 : Option Addr) (len2 cap2 : Nat) (hc2 : ∃ vs, ActsCame w a2 len2 cap2 vs) :
    Calls Try.prog 5 #[.int .i64 z, .slice a len cap, .slice a2 len2 cap2] w fun e w' => e = .returned (.bool true) ∧ Below w.heap.size w w' := by
  obtain ⟨vs, hc⟩ := hc
  obtain ⟨vs2, hc2⟩ := hc2
  by_cases h : fewB vs = false ∨ fewB vs2 = false
  · exact walk_out z a len cap vs hc a2 len2 cap2 vs2 hc2 h
  · have h1 : fewB vs = true := by cases e : fewB vs with
      | true => rfl
      | false => exact absurd (.inl e) h
    have h2 : fewB vs2 = true := by cases e : fewB vs2 with
      | true => rfl
      | false => exact absurd (.inr e) h
    exact walk_few z a len cap vs hc h1 a2 len2 cap2 vs2 hc2 h2

end Go.Proofs.Ytkeopkhbcmeplaa.diskClones
