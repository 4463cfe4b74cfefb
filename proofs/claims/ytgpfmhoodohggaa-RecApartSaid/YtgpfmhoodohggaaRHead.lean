/-
  mailbaglaw11.head.
-/
import Derived.Test.YtgpfmhoodohggaaRSame
namespace Go.Proofs.Ytgpfmhoodohggaa
open Go.RowKit

set_option linter.unusedVariables false
set_option linter.unusedSimpArgs false

def hdW : Wr := ⟨⟨#[97]⟩, ⟨#[120]⟩, false⟩
theorem hdW_right : rightC ((1 : Nat) : Int) ((0 : Nat) : Int) [hdW] = true := by kernel_rfl
theorem hdW_oct : octC 1 0 [hdW] = [1, 1, 0, 1, 1, 1, 1, 97, 0, 1, 1, 120] := by kernel_rfl

theorem hdW_is (w : World) : WrsIs (w.alloc (.cells #[.string ⟨#[97]⟩, .string ⟨#[120]⟩, .bool false] 43)) (some ⟨w.heap.size, 0, none⟩) [hdW] := by
  have hx : ∀ i, (w.alloc (.cells #[.string ⟨#[97]⟩, .string ⟨#[120]⟩, .bool false] 43)).cell? ⟨w.heap.size, i, none⟩ = (#[.string ⟨#[97]⟩, .string ⟨#[120]⟩, .bool false] : Array Value)[i]? := fun i => cell_of_row _ _ i _ _ (0, 0) (heap_alloc_new w _)
  refine .inr ⟨w.heap.size, 0, rfl, by simp, fun i hi => ?_⟩
  obtain rfl : i = 0 := by simpa using hi
  exact ⟨hx 0, hx 1, hx 2⟩

theorem head11_any (w : World) : Calls Try.prog 7 #[] w fun e w' => e = .returned (.bool true) ∧ Below w.heap.size w w' := by
  have hc : Calls Try.prog 9 #[.agg #[.int .i64 1, .int .i64 0, .slice (some ⟨w.heap.size, 0, none⟩) 1 1]] (w.alloc (.cells #[.string ⟨#[97]⟩, .string ⟨#[120]⟩, .bool false] 43)) fun e w' => e = .returned (.tuple #[.string ⟨#[1, 1, 0, 1, 1, 1, 1, 97, 0, 1, 1, 120]⟩, .int .i64 0]) ∧ Below w.heap.size w w' := by
    refine (commit_yes (cap := 1) (hdW_is w) rfl 1 0 hdW_right).mono ?_
    rintro e w' ⟨rfl, hb⟩
    rw [hdW_oct]
    have h0 := (Below.refl w.heap.size w).alloc (Nat.le_refl _) (.cells #[.string ⟨#[97]⟩, .string ⟨#[120]⟩, .bool false] 43)
    exact ⟨rfl, h0.trans (hb.mono h0.size)⟩
  have HC := Lib.hid hc
  clear hc
  go_enter Try.func7, Try.ntmps7
  go_wp2_with fail
  refine HC.out.mono ?_
  rintro e w' ⟨rfl, hb⟩
  go_wp2
  go_ret
  exact ⟨rfl, hb⟩

end Go.Proofs.Ytgpfmhoodohggaa
