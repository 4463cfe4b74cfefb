/-
  Bytes that the call owns, and what else lies in memory meanwhile: of no package of the program.
-/
import Derived.Test.YtcebnoapgceodaaRound
import Derived.Test.YtcebnoapgceodaaOwn
import Derived.Lib.Hide
import Derived.Deep.RegionWith
import Derived.Deep.Strs
import Derived.Lib.SmallJoins
import Derived.IntWalk
namespace Go.Proofs.Ytcebnoapgceodaa
open Go.RowKit

set_option linter.unusedVariables false

namespace bsK
theorem conv_bs {P : Program} (E B : Nat) (w : World) (src dst : TypeId) (hs : P.underlying src = some (.slice E)) (he : P.underlying E = some (.int .u8)) (hd : P.underlying dst = some .string) (v : Value) (l : List UInt8) (hown : Bs E B w v l) :
    (convert src dst v).run P w = .ok (.string ⟨l.toArray⟩) w := by
  rcases hown.2 with ⟨rfl, h0⟩ | ⟨g, cap, cur, rfl, _⟩
  · have : l = [] := List.eq_nil_of_length_eq_zero h0
    subst this
    exact run_convert_bytes_nil (P := P) w src E hs he 0 0 dst hd
  · exact run_convert_bytes_back (P := P) w src dst E _ cap l hs he hd fun j hj => World.ownsRow.cells hown (g := g) rfl j _ (by simp [Lib.byteCells, hj])

end bsK

theorem Bs.size {E B : Nat} {w : World} {v : Value} {l : List UInt8} (h : Bs E B w v l) : ∀ q, v.ownBlock = some q → B ≤ q ∧ q < w.heap.size := World.ownsRow.lt h
theorem Bs.grow {E B : Nat} {w w' : World} {v : Value} {l : List UInt8} (h : Bs E B w v l) (hg : w.grownBy w' none) : Bs E B w' v l := World.ownsRow.kept h hg (by by_cases hv : v.ownBlock = none; exact .inl hv; exact .inr hv)

/-- a cell of a block that is not the row's -/
theorem Up.cell {w w' : World} {v v' : Value} (h : Up w v w' v') {c : Nat} (hc : c < w.heap.size) (hv : v.ownBlock ≠ some c) (i : Nat) : w'.cell? ⟨c, i, none⟩ = w.cell? ⟨c, i, none⟩ :=
  World.cell?_of_block (a := ⟨c, i, none⟩) (h.1.block c hc fun e => hv e.symm)
theorem Up.ne {w w' : World} {v v' : Value} (h : Up w v w' v') {c : Nat} (hc : c < w.heap.size) (hv : v.ownBlock ≠ some c) : v'.ownBlock ≠ some c := fun e => by
  rcases h.2 with k | k
  · exact hv (by rw [← k]; exact e)
  · have := k c e
    omega

/-- what the row is not is as it was -/
def BsK (w : World) (v : Value) (w' : World) (v' : Value) : Prop := w.heap.size ≤ w'.heap.size ∧ ∀ c, c < w.heap.size → v.ownBlock ≠ some c → w'.heap[c]? = w.heap[c]? ∧ v'.ownBlock ≠ some c
theorem Up.keep {w w' : World} {v v' : Value} (h : Up w v w' v') : BsK w v w' v' := ⟨h.1.size, fun c hc hv => ⟨h.1.block c hc (fun e => hv e.symm), h.ne hc hv⟩⟩
theorem BsK.refl (w : World) (v : Value) : BsK w v w v := ⟨Nat.le_refl _, fun _ _ h => ⟨rfl, h⟩⟩
theorem BsK.trans {w w1 w2 : World} {v v1 v2 : Value} (h : BsK w v w1 v1) (k : BsK w1 v1 w2 v2) : BsK w v w2 v2 := ⟨Nat.le_trans h.1 k.1, fun c hc hv => by
  obtain ⟨a, b⟩ := h.2 c hc hv
  obtain ⟨a2, b2⟩ := k.2 c (Nat.lt_of_lt_of_le hc h.1) b
  exact ⟨a2.trans a, b2⟩⟩
theorem BsK.alloc (w : World) (v : Value) (o : Obj) : BsK w v (w.alloc o) v := ⟨by simp, fun c hc hv => ⟨Below.heap_alloc w o c hc, hv⟩⟩

/-- bytes that are owned above what there was -/
def BsA (w0 w : World) (v : Value) (l : List UInt8) : Prop := Bs 5 w0.heap.size w v l ∧ Below w0.heap.size w0 w

end Go.Proofs.Ytcebnoapgceodaa
