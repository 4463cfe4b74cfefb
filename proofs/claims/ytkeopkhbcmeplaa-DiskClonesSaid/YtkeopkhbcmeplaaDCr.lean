/-
  disk.Crash: the disk behind a loss of power.
-/
import Derived.Test.YtkeopkhbcmeplaaDNames2
import Derived.Test.YtkeopkhbcmeplaaDCrash
import Derived.Test.YtkeopkhbcmeplaaDFall
import Derived.Test.YtkeopkhbcmeplaaDPlain2
import Derived.Test.YtkeopkhbcmeplaaIsRow
namespace Go.Proofs.Ytkeopkhbcmeplaa
open Go.RowKit

/-- the number that the list says of the file at i -/
def moreAt (zs : List Int) (len i : Nat) : Int := if i < len then zs.getD i 0 else 0

/-- what a loss of power leaves of the files -/
def crashF (more : Nat → Int) (gs : List FileS) : List FileS := gs.mapIdx fun i f => ⟨f.name, f.data.take (crZ f.data.length f.safe (more i)), crZ f.data.length f.safe (more i)⟩

theorem crashF_length (more : Nat → Int) (gs : List FileS) : (crashF more gs).length = gs.length := by simp [crashF]
theorem crashF_snoc (more : Nat → Int) (gs : List FileS) (k : Nat) (h : k < gs.length) :
    crashF more (gs.take (k + 1)) = crashF more (gs.take k) ++ [⟨gs[k].name, gs[k].data.take (crZ gs[k].data.length gs[k].safe (more k)), crZ gs[k].data.length gs[k].safe (more k)⟩] := by
  unfold crashF
  rw [List.take_succ_eq_append_getElem h, List.mapIdx_append]
  simp [Nat.min_eq_left (Nat.le_of_lt h)]
theorem crashF_name {more : Nat → Int} {gs : List FileS} {f : FileS} (h : f ∈ crashF more gs) : ∃ g ∈ gs, f.name = g.name := by
  unfold crashF at h
  obtain ⟨i, hi, rfl⟩ := List.mem_mapIdx.1 h
  exact ⟨gs[i], List.getElem_mem _, rfl⟩

/-- a new disk of these files -/
def NewDisk (w w' : World) (room : Int) (gs : List FileS) (e : Ending) : Prop :=
  ∃ d mb n cs, e = .returned (.pointer (some ⟨d, 0, none⟩)) ∧ n ≤ gs.length ∧ cs.map (·.1) = gs ∧ DiskAt w' w.heap.size d mb n ⟨room, sumP cs, false, 0, false⟩ cs ∧ Below w.heap.size w w'

theorem sumP_snoc (cs : List FP) (x : FP) : sumP (cs ++ [x]) = sumP cs + x.1.data.length := by
  unfold sumP; rw [List.map_append, List.sum_append]; simp

/-- what a call on the new disk keeps -/
theorem DKept.below {w w' : World} {B d mb : Nat} {fs : List FP} (h : DKept w w' (Foot d mb fs)) (hf : ∀ q, Foot d mb fs q → B ≤ q) (hB : B ≤ w.heap.size) : Below B w w' :=
  ⟨h.1, h.2.1, h.2.2.1, h.2.2.2.1, fun q hq => h.2.2.2.2 q (Nat.lt_of_lt_of_le hq hB) fun g => by have := hf q g; omega⟩

theorem DiskAt.foot_ge {w : World} {B d mb n : Nat} {S : DS} {fs : List FP} (h : DiskAt w B d mb n S fs) : ∀ q, Foot d mb fs q → B ≤ q := fun q hq => by
  obtain ⟨h1, h2, h3, h4, h5, h6, h7, h8⟩ := h
  rcases hq with rfl | rfl | ⟨p, hp, hq⟩
  · exact h4
  · exact h5
  · exact (World.ownsRow.lt (h3 p hp) q hq).1

end Go.Proofs.Ytkeopkhbcmeplaa
