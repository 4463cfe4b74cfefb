/-
  tree: the calls at a nil tree: none of them finds anything, and none turns anything (trees of int).
-/
import Derived.Test.YtkohmiegkebmeaaTFromI
import Derived.Test.YtkohmiegkebmeaaRangeR
import Derived.Shelf.Abstract
import Derived.Shelf.RegionOpen
import Derived.OwnWalkIn
import Derived.TacticsInMore
import Derived.WalkMore
namespace Go.Proofs.Ytkohmiegkebmeaa.tI
open Go.RowKit Go.Proofs.Ytkohmiegkebmeaa.rgR

set_option linter.unusedVariables false
attribute [local go_sem] Oper.semAt_some

theorem len_no (w : World) : Calls Try.prog 15 #[.pointer none] w fun e w' => e = .returned (.int .i64 0) ∧ Below w.heap.size w w' := by
  go_enter Try.func15, Try.ntmps15
  go_wp2
  go_ret
  exact ⟨rfl, Below.refl _ _⟩

theorem place_nil (key : ByteArray) (w : World) : Calls Try.prog 24 #[.pointer none, .string key] w fun e w' => e = .returned (.tuple #[.int .i64 0, .int .i64 0, .bool false]) ∧ Below w.heap.size w w' := by
  have HL : Hid (∀ W, Calls Try.prog 15 #[.pointer none] W fun e w' => e = .returned (.int .i64 0) ∧ Below W.heap.size W w') := Lib.hid len_no
  have HB := Lib.hid (Below.refl w.heap.size w)
  go_enter Try.func24, Try.ntmps24
  go_wp2_with fail
  refine (HL.out _).mono ?_
  rintro e w2 ⟨rfl, hb2⟩
  have HB2 := Lib.hid hb2
  clear hb2
  go_wp2
  refine bodyPost_ret (v := .tuple #[.int .i64 0, .int .i64 0, .bool false]) (by simp [results, Try.results24, go_sem]) rfl ⟨rfl, HB2.out⟩

theorem put_nil (key : ByteArray) (v : Value) (w : World) : Calls Try.prog 16 #[.pointer none, .string key, v] w fun e w' => e = .returned (.bool false) ∧ Below w.heap.size w w' := by
  go_enter Try.func16, Try.ntmps16
  go_wp2
  go_ret
  exact ⟨rfl, Below.refl _ _⟩

theorem clone_nil (w : World) : Calls Try.prog 18 #[.pointer none] w fun e w' => e = .returned (.pointer none) ∧ Below w.heap.size w w' := by
  go_enter Try.func18, Try.ntmps18
  go_wp2
  go_ret
  exact ⟨rfl, Below.refl _ _⟩

theorem drop_nil (key : ByteArray) (w : World) : Calls Try.prog 17 #[.pointer none, .string key] w fun e w' => e = .returned (.bool false) ∧ Below w.heap.size w w' := by
  have HL := Lib.hid (place_nil key)
  go_enter Try.func17, Try.ntmps17
  go_wp2_with fail
  refine (HL.out _).mono ?_
  rintro e w2 ⟨rfl, hb2⟩
  have HB2 := Lib.hid hb2
  clear hb2
  go_wp2
  go_ret
  exact ⟨rfl, HB2.out⟩

/-- a nil tree tells nothing -/
theorem from_nil (n bt bk : Nat) (w : World) (hbt : w.cell? ⟨bt, 0, none⟩ = some (.pointer none)) (hlt : bt < w.heap.size) :
    SeqR Fence.wide n Try.prog 23 #[.pointer (some ⟨bt, 0, none⟩), .pointer (some ⟨bk, 0, none⟩)] (fun _ : Unit => #[.string ⟨#[]⟩, .int .i64 0]) (fun _ _ => True)
      (fun ys => ys = []) (fun _ => False) 0 0 w := fun l J Jx W hW hJ hJx hY h0 => by
  refine callsIn_wide.2 ?_
  have hc1 := (hW.cell (p := ⟨bt, 0, none⟩) hlt).trans hbt
  have HJ := Lib.hid hJ
  have H0 := Lib.hid h0
  have HL : Hid (∀ W, Calls Try.prog 15 #[.pointer none] W fun e w' => e = .returned (.int .i64 0) ∧ Below W.heap.size W w') := Lib.hid len_no
  clear hbt hJ hJx hY h0 hW hlt
  go_enter Try.func23, Try.ntmps23
  go_step3
  go_wp2_with fail
  refine (HL.out _).mono ?_
  rintro e w2 ⟨rfl, hb2⟩
  have F : Hid (J [] w2) := Lib.hid (HJ.out [] _ _ none H0.out (below_grown hb2) (fun r e => by cases e))
  clear hb2
  go_wp2
  simp only [Exit.noGoto_ret]
  refine bodyPost_ret (results_none rfl _ _ _) rfl ?_
  exact ⟨⟨_, rfl⟩, .inl ⟨[], rfl, F.out⟩⟩

end Go.Proofs.Ytkohmiegkebmeaa.tI
