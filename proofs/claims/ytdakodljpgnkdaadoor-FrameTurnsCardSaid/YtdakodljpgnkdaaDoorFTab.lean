/-
  From the row's condition (what the table of remainders reads as when the call begins) to what the walks ask; the start of the witness.
-/
import Derived.Test.YtdakodljpgnkdaaDoorRows
import Derived.Test.YtdakodljpgnkdaaDoorFSum
import Derived.Lib.LaidTab
import Derived.Lay
import Derived.MakeChecks
namespace Go.Proofs.YtdakodljpgnkdaaDoor
open Go.RowKit

def laidR : List (String × DataW Unit) := [("mailbag/frame.remainders", Rows.laid_mailbag_frame_remainders)]

theorem gName : Tryd.prog.globalNamed "mailbag/frame.remainders" = some 0 := by kernel_rfl
theorem gType : (Tryd.prog.globals[0]?).map (·.type) = some 44 := by kernel_rfl

theorem tab_of {W : World} (h : laidMetH Tryd.prog laidR W) : Tab W := by
  rw [MakeChecks.laidMetH_plain _ _ _ (by kernel_rfl)] at h
  have hT : Lib.TabIs Tryd.prog W "mailbag/frame.remainders" .u32 (List.map (fun n : Nat => (n : Int)) tabL) :=
    Lib.tabIs_of_head gName gType Tryd.underlying44 Tryd.underlying35 (by kernel_rfl) (by kernel_rfl) h
  intro k hk
  have hc := hT.cell gName k (by simpa [tabL] using hk)
  have e : (List.map (fun n : Nat => (n : Int)) tabL).getD k 0 = ((tabN k : Nat) : Int) := by
    have : ∀ k : Fin 16, (List.map (fun n : Nat => (n : Int)) tabL).getD k.val 0 = ((tabN k.val : Nat) : Int) := by decide +kernel
    exact this ⟨k, hk⟩
  rw [e] at hc
  exact hc

end Go.Proofs.YtdakodljpgnkdaaDoor
