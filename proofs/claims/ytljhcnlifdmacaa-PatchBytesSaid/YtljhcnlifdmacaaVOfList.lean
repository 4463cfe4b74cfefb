/-
  val's OfList, OfText, OfBool.
-/
import Derived.Test.YtljhcnlifdmacaaVClone2
namespace Go.Proofs.Ytljhcnlifdmacaa
open Go.RowKit

def OfListP (l : List V) (w : World) (e : Ending) (w' : World) : Prop :=
  ∃ lv, e = .returned (.agg #[.int .i64 4, .bool false, .int .i64 0, .string ⟨#[]⟩, lv, .slice none 0 0]) ∧ (V.ofList l).At w' (fun q => w.heap.size ≤ q) lv (.slice none 0 0) ∧ Below w.heap.size w w'

set_option maxHeartbeats 1000000 in
set_option maxRecDepth 100000 in
theorem ofList_any (l : List V) (hsm : ∀ x ∈ l, x.sm) (hlen : l.length ≤ 100000) (lv : Value) (w : World) (hl : LAt w All l lv) :
    Calls Try.prog 65 #[lv] w (OfListP l w) := by
  have hb0 : Below w.heap.size w (w.alloc (.cells #[.int .i64 0, .bool false, .int .i64 0, .string ⟨#[]⟩, .slice none 0 0, .slice none 0 0] 26)) := (Below.refl _ w).alloc (Nat.le_refl _) _
  have hZ : Box (w.alloc (.cells #[.int .i64 0, .bool false, .int .i64 0, .string ⟨#[]⟩, .slice none 0 0, .slice none 0 0] 26)) w.heap.size 26 #[.int .i64 0, .bool false, .int .i64 0, .string ⟨#[]⟩, .slice none 0 0, .slice none 0 0] := Box.new w _ _
  have hz0 : (w.alloc (.cells #[.int .i64 0, .bool false, .int .i64 0, .string ⟨#[]⟩, .slice none 0 0, .slice none 0 0] 26)).heap.size = w.heap.size + 1 := by simp
  obtain ⟨a, c, rfl, _, _, _⟩ := id hl
  have hcl := cloneList_any (depL l) (clone_all _) l (fun x hx => depL_mem hx) hsm hlen _ _ (LAt.move (fun b _ hlt => ⟨trivial, hb0.block b hlt⟩) hb0.size hl)
  have HB := Lib.hid (And.intro hb0 (And.intro hZ hz0))
  clear hl hsm hb0 hZ hz0
  go_enter Try.func65, Try.ntmps65
  go_wp2_with fail
  refine hcl.mono ?_
  rintro e w1 ⟨lv', rfl, hL1, hb1⟩
  obtain ⟨qx, qc, rfl, _, _, _⟩ := id hL1
  obtain ⟨hb0, hZ, hz0⟩ := HB.out
  rw [hz0] at hL1 hb1
  have hZ1 : Box w1 w.heap.size 26 #[.int .i64 0, .bool false, .int .i64 0, .string ⟨#[]⟩, .slice none 0 0, .slice none 0 0] := (hb1.block _ (by omega)).trans hZ
  have hb2 : Below w.heap.size w w1 := hb0.trans (hb1.mono (by omega))
  have hF := Box.sets [.int .i64 4, .bool false, .int .i64 0, .string ⟨#[]⟩, .slice qx l.length qc, .slice none 0 0] 0 hZ1
  obtain ⟨⟨k0, k1, k2, k3, k4, k5⟩, _⟩ := Box.six (c0 := .int .i64 4) (c1 := .bool false) (c2 := .int .i64 0) (c3 := .string ⟨#[]⟩) (c4 := .slice qx l.length qc) (c5 := .slice none 0 0) hF
  simp only [sets, Nat.zero_add, Nat.reduceAdd] at k0 k1 k2 k3 k4 k5
  have hb5 := Below.sets [.int .i64 4, .bool false, .int .i64 0, .string ⟨#[]⟩, .slice qx l.length qc, .slice none 0 0] 0 hb2 (g := w.heap.size) (Nat.le_refl _)
  have hat5 : (V.ofList l).At (sets w1 w.heap.size 0 [.int .i64 4, .bool false, .int .i64 0, .string ⟨#[]⟩, .slice qx l.length qc, .slice none 0 0]) (fun q => w.heap.size ≤ q) (.slice qx l.length qc) (.slice none 0 0) :=
    V.at_iff.2 ⟨LAt.move (fun b hb _ => ⟨by omega, sets_far _ _ _ _ (by omega)⟩) (by rw [sets_size]; exact Nat.le_refl _) hL1, none, 0, rfl, Nat.le_refl _, by unfold maxLen; omega, .inl rfl⟩
  obtain ⟨⟨z0, z1, z2, z3, z4, z5⟩, s0, s1, s2, s3, s4, s5⟩ := hZ1.six
  clear hF hL1 hb1 hb0 hZ hz0 hb2 hcl hZ1
  go_wp2
  refine bodyPost_ret (v := .agg #[.int .i64 4, .bool false, .int .i64 0, .string ⟨#[]⟩, .slice qx l.length qc, .slice none 0 0]) (by simp [results, Try.results65, go_sem, k0, k1, k2, k3, k4, k5]) rfl ⟨_, rfl, hat5, hb5⟩

/-- a list of one value that lies in a block of its own -/
theorem one_at {w : World} {S : Nat → Prop} {g : Nat} {v : V} {lv fv : Value} {t : TypeId} {c : Nat} (hB : Box w g t (v.cells lv fv).toArray) (hS : S g) (hc : 1 ≤ c) (hc2 : c ≤ 100) (hat : v.At w S lv fv) : LAt w S [v] (.slice (some ⟨g, 0, none⟩) 1 c) := by
  refine ⟨some ⟨g, 0, none⟩, c, rfl, hc, by unfold maxLen; omega, .inr ⟨g, 0, rfl, hS, hB.lt, ?_⟩⟩
  rw [LCells]
  refine ⟨⟨lv, fv, fun q u hq => ?_, hat⟩, by rw [LCells]; trivial⟩
  rw [Nat.zero_add, hB.cell]
  simpa using hq

end Go.Proofs.Ytljhcnlifdmacaa
