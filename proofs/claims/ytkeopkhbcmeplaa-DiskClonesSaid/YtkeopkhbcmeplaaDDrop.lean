/-
  disk.drop: a file that goes.
-/
import Derived.Test.YtkeopkhbcmeplaaDPut
namespace Go.Proofs.Ytkeopkhbcmeplaa
open Go.RowKit

attribute [local irreducible] wpStill

/-- the disk's own block and its map's -/
def Foot2 (d mb q : Nat) : Prop := q = d ∨ q = mb
theorem kept_set2 {w : World} {d : Nat} (mb : Nat) (i : Nat) (u : Value) : DKept w (w.setCell ⟨d, i, none⟩ u) (Foot2 d mb) :=
  ⟨rfl, rfl, rfl, by simp [World.setCell], fun q _ hq => Below.heap_setCell w ⟨d, i, none⟩ u q fun e => hq (.inl e)⟩
theorem DKept.mono {w w' : World} {f g : Nat → Prop} (h : DKept w w' f) (hm : ∀ q, f q → g q) : DKept w w' g := ⟨h.1, h.2.1, h.2.2.1, h.2.2.2.1, fun q hq hg => h.2.2.2.2 q hq fun hf => hg (hm q hf)⟩
theorem foot2 {d mb q : Nat} {fs : List FP} (h : Foot2 d mb q) : Foot d mb fs q := h.imp id .inl

theorem DKept.drew {w w1 : World} {f : Nat → Prop} (h : DKept w w1 f) : DKept w w1.drew f := ⟨h.1, h.2.1, h.2.2.1, h.2.2.2.1, h.2.2.2.2⟩

/-- the disk behind the map's delete -/
theorem DiskAt.dropped {w w' : World} {B d mb n m : Nat} {S : DS} {fs : List FP} (h : DiskAt w B d mb n S fs) (k : L8) (hmap : MapAt 9 w' mb m (delS k (fvals fs))) (hg : w.grownBy w' (some mb)) : DiskAt w' B d mb m S (delP k fs) := by
  obtain ⟨h1, h2, h3, h4, h5, h6, h7, h8⟩ := h
  have hk : ∀ q, q < w.heap.size → q ≠ mb → w'.heap[q]? = w.heap[q]? := fun q hq hne => hg.block q hq (fun e => hne (Option.some.inj e))
  refine ⟨(hk d h1.lt h6).trans h1, by rw [fvals_del]; exact hmap, fun p hp => ?_, h4, h5, h6, fun p hp => h7 p (delP_mem hp), h8.sublist (List.filter_sublist ..)⟩
  have hp := delP_mem hp
  exact bs_keep (h3 p hp) fun q hq => hk q (World.ownsRow.lt (h3 p hp) q hq).2 (fun e => (h7 p hp).2 (by rw [hq, e]))

set_option maxHeartbeats 4000000 in
set_option maxRecDepth 100000 in
theorem drop_any {B d mb n : Nat} {S : DS} {fs : List FP} (w : World) (h : DiskAt w B d mb n S fs) (s : ByteArray) (hs : s.size ≤ maxLen)
    (hu2 : S.used ≤ 1000000000) (hl : (lenOf s.data.toList fs : Int) ≤ S.used) :
    Calls Try.prog 38 #[.pointer (some ⟨d, 0, none⟩), .string s] w fun e w' => e = .returned (.tuple #[]) ∧
      DiskAt w' B d mb n { S with used := S.used - lenOf s.data.toList fs } (delP s.data.toList fs) ∧ DKept w w' (Foot2 d mb) := by
  obtain ⟨a1, c1, sf1, hlook⟩ := look_len (h.keep (w' := w.drew) fun q _ => rfl) s hs
  obtain ⟨⟨b0, b1, b2, b3, b4, b5⟩, g0, g1, g2, g3, g4, g5⟩ := Box.six h.1
  obtain ⟨K, hK⟩ : ∃ K, K = lenOf s.data.toList fs := ⟨_, rfl⟩
  rw [← hK] at hlook hl ⊢
  have hw1 : IntKind.i64.wrap (S.used - (K : Int)) = S.used - (K : Int) := by rw [IntKind.wrap_i64]; omega
  have hS1 := (h.set (S' := { S with used := S.used - (K : Int) }) 2 (.int .i64 (S.used - (K : Int))) rfl).keep (w' := (w.setCell ⟨d, 2, none⟩ (.int .i64 (S.used - (K : Int)))).drew) fun q _ => rfl
  obtain ⟨w', hrun, hm1, hg1⟩ := MapAt.delete (e := 69) hS1.2.1 Try.underlying9 Try.underlying61 s hs 0
  have HF := Lib.hid (hS1.dropped s.data.toList hm1 hg1)
  have HK : Hid (DKept w w' (Foot2 d mb)) := Lib.hid ((kept_set2 (w := w) (d := d) mb 2 (.int .i64 (S.used - (K : Int)))).drew.trans ⟨hg1.os, hg1.tape, hg1.output, hg1.size, fun q hq hf => hg1.block q hq fun e => hf (.inr (Option.some.inj e))⟩)
  have hfd : ∀ W : World, (Instr.field 69 (.agg #[.slice a1 K c1, .int .i64 sf1]) 0).run Try.prog W = .ok (.slice a1 K c1) W := fun _ => by kernel_rfl
  clear hK h hs hS1 hm1 hg1
  go_enter Try.func38, Try.ntmps38
  go_wp2_with fail
  refine wp_region_still_tail 15 (by kernel_rfl) (by kernel_rfl) ?_
  change wpStill _ _ (World.drew _) (fun a' => wpList _ _ _ _ a' (World.drew _)) _ _
  simp only [List.take_succ_cons, List.take_zero, List.drop_succ_cons, List.drop_zero]
  repeat still_step
  refine wpStill_nil ?_
  go_wp2
  go_end0
  exact ⟨rfl, HF.out, HK.out⟩

end Go.Proofs.Ytkeopkhbcmeplaa
