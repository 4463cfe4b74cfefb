/-
  mailbaglaw03's head.
-/
import Derived.Test.YtacphlceggbfcaaOKeyA
namespace Go.Proofs.Ytacphlceggbfcaa
open Go.RowKit

set_option maxHeartbeats 1000000 in
/-- mailbaglaw03.head -/
theorem ohead_any (w : World) : Calls Try.prog 21 #[] w fun e w' => e = .returned (.bool true) ∧ Below w.heap.size w w' := by
  have CV := Lib.hid (fun (w' : World) (v : Value) (h : Bs 5 w.heap.size w' v [0, 255, 0, 1]) => conv_bs (P := Try.prog) 5 w.heap.size w' 44 9 Try.underlying44 Try.underlying5 Try.underlying9 v _ h)
  have hkey : ∀ w : World, Calls Try.prog 36 #[.slice (some ⟨w.heap.size, 0, none⟩) 1 1] (w.alloc (.cells #[.string ⟨#[97]⟩] 9)) fun e w' => e = .returned (.string ⟨#[97, 0, 1]⟩) ∧ Below (w.alloc (.cells #[.string ⟨#[97]⟩] 9)).heap.size (w.alloc (.cells #[.string ⟨#[97]⟩] 9)) w' := fun w => by
    refine key_any _ 1 [⟨#[97]⟩] (w.alloc (.cells #[.string ⟨#[97]⟩] 9)) (.inr ⟨w.heap.size, 0, rfl, by simp, fun i hi => ?_⟩) (by decide) (by decide)
    obtain rfl : i = 0 := by simpa using hi
    simp
  go_enter Try.func21, Try.ntmps21
  go_wp2_with fail
  refine (hkey w).mono ?_
  rintro e w1 ⟨rfl, hb1⟩
  have hb0 : Below w.heap.size w w1 := ((Below.refl _ w).alloc (Nat.le_refl _) _).trans (hb1.mono (by simp))
  have hz := hb0.size
  clear hkey hb1
  go_wp2_with fail
  refine (otext_any w.heap.size (.slice none 0 0) [] ⟨#[0]⟩ w1 (by decide) hz (Bs.nil _ _ _)).mono ?_
  rintro e w2 ⟨v2, rfl, hown2, hup2⟩
  have hcv := CV.out w2 v2 hown2
  have hb2 := hb0.trans (hup2.below (Bs.nil 5 w.heap.size w1) hz)
  clear hup2 hown2
  go_wp2
  go_ret
  exact ⟨rfl, hb2⟩

end Go.Proofs.Ytacphlceggbfcaa
