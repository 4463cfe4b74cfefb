/-
  slices.Clone of entries (trees of int).
-/
import Derived.Test.YtkohmiegkebmeaaTDelIE
import Derived.Outline
import Derived.Shelf.Spec.SlicesInsertGrow
namespace Go.Proofs.Ytkohmiegkebmeaa.tIc
open Go.RowKit Go.Lib

set_option linter.unusedVariables false

def ClnP (w : World) (n : Nat) (cs : List Value) (e : Ending) (w' : World) : Prop := ∃ v', e = .returned v' ∧ RowK 67 2 w.heap.size w' v' n cs ∧ Below w.heap.size w w'

abbrev TT := 65

set_option maxHeartbeats 1000000 in
set_option maxRecDepth 100000 in
theorem clone_any {w : World} {b off n c : Nat} {cs : List Value} (hn0 : 0 < n) (hn : n ≤ 100000) (hb : b < w.heap.size) (hl : cs.length = n * 2) (hin : InAt w b off cs) (hone : ∀ u ∈ cs, u.oneCell' = true) :
    Calls Try.prog 31 #[.slice (some ⟨b, off, none⟩) n c] w (ClnP w n cs) := by
  obtain ⟨i, hi, hz, hi1, hi2⟩ := info_parts tIEd.infoE
  have hown := World.ownsRow_lit (base := w.heap.size) (e := 67) (size := 2) w #[] 0 (Nat.le_refl _) (by unfold maxLen; omega) rfl
  have hb0 : Below w.heap.size w (w.alloc (.cells #[] 67)) := (Below.refl _ w).alloc (Nat.le_refl _) _
  obtain ⟨W0, hW0⟩ : ∃ W0, W0 = w.alloc (.cells #[] 67) := ⟨_, rfl⟩
  have hin0 : InAt W0 b off cs := by rw [hW0]; exact hin.keep (Below.heap_alloc w _ b hb)
  rw [← hW0] at hown hb0
  obtain ⟨v', w', hr, ho', hu⟩ := run_app (P := Try.prog) W0 w.heap.size TT TT 67 i _ 2 24 Try.underlying65 hi hz hi1 hi2 rfl (by decide) _ 0 [] hown ⟨b, off, none⟩ n c cs (by omega)
    (fun j u hj => by rw [addr_off]; exact hin0 j u hj) hone (by unfold maxLen; omega) (by omega) hb0.size
  have hbb : Below w.heap.size W0 w' := (Below.refl _ W0).grown hu.1 hb0.size fun k hk => (World.ownsRow.lt hown k hk).1
  have hfin : RowK 67 2 w.heap.size w' v' n cs := by
    rw [Nat.zero_add, List.nil_append] at ho'
    exact ⟨ho', hone⟩
  have HF : Hid (ClnP w n cs (.returned v') w') := Lib.hid ⟨v', rfl, hfin, hb0.trans hbb⟩
  obtain ⟨va, vc, rfl, _, _⟩ := hfin.form
  have heq := fun w' => Lib.run_eql_slice_nil (P := Try.prog) w' TT 67 (some ⟨b, off, none⟩) n c 0 0 Try.underlying65
  subst hW0
  clear hin hown hb0 hin0 ho' hu hbb hfin hone hl
  go_enter Try.func31, Try.ntmps31
  go_wp2_with (at_builtin; refine Lib.wpList_append_run _ rfl _ _ _ _ rfl _ _ rfl rfl _ _ hr ?_)
  go_ret
  exact HF.out

end Go.Proofs.Ytkohmiegkebmeaa.tIc
