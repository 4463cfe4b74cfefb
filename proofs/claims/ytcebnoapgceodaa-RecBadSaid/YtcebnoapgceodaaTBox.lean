/-
  Blocks that are known whole, cells stored one behind the other, rows of cells that the call owns: nothing of the program's.
-/
import Derived.Test.YtcebnoapgceodaaProg
import Derived.WalkKit
import Derived.Test.YtcebnoapgceodaaOwn
import Derived.Test.YtcebnoapgceodaaIsRow
import Derived.Test.YtcebnoapgceodaaCopyK
import Derived.Lib.Hide
import Derived.WalkLawsBesides
import Derived.WalkSpells
import Derived.Deep.QuietTactic
namespace Go.Proofs.Ytcebnoapgceodaa
open Go.RowKit

/-- a block that is known whole -/
def Box (w : World) (g : Nat) (t : TypeId) (cs : Array Value) : Prop := w.heap[g]? = some (.cells cs t (0, 0))

theorem Box.cell {w : World} {g : Nat} {t : TypeId} {cs : Array Value} (h : Box w g t cs) (i : Nat) : w.cell? ⟨g, i, none⟩ = cs[i]? := cell_of_row w g i cs t (0, 0) h
theorem Box.free {w : World} {g : Nat} {t : TypeId} {cs : Array Value} (h : Box w g t cs) (i : Nat) : w.frozen? ⟨g, i, none⟩ = false := by
  unfold Box at h
  simp [World.frozen?, h]
theorem Box.lt {w : World} {g : Nat} {t : TypeId} {cs : Array Value} (h : Box w g t cs) : g < w.heap.size := by
  unfold Box at h
  exact (Array.getElem?_eq_some_iff.1 h).1
theorem Box.new (w : World) (t : TypeId) (cs : Array Value) : Box (w.alloc (.cells cs t)) w.heap.size t cs := heap_alloc_new w _
theorem Box.alloc {w : World} {g : Nat} {t : TypeId} {cs : Array Value} (h : Box w g t cs) (o : Obj) : Box (w.alloc o) g t cs := (Below.heap_alloc w o g h.lt).trans h
theorem Box.setSame {w : World} {g : Nat} {t : TypeId} {cs : Array Value} (h : Box w g t cs) (i : Nat) (u : Value) : Box (w.setCell ⟨g, i, none⟩ u) g t (cs.setIfInBounds i u) := by
  unfold Box at h ⊢
  simp [World.setCell, Array.getElem?_modify, h]
theorem Box.setFar {w : World} {g : Nat} {t : TypeId} {cs : Array Value} (h : Box w g t cs) {p : Addr} (hp : g ≠ p.block) (u : Value) : Box (w.setCell p u) g t cs := (Below.heap_setCell w p u g hp).trans h


/-- cells stored one behind the other -/
def sets (w : World) (g : Nat) : Nat → List Value → World
  | _, [] => w
  | b, c :: cs => sets (w.setCell ⟨g, b, none⟩ c) g (b + 1) cs
def aset (arr : Array Value) : Nat → List Value → Array Value
  | _, [] => arr
  | b, c :: cs => aset (arr.setIfInBounds b c) (b + 1) cs

theorem aset_size : ∀ (cs : List Value) (arr : Array Value) (b : Nat), (aset arr b cs).size = arr.size
  | [], _, _ => rfl
  | c :: cs, arr, b => by rw [aset, aset_size cs]; simp
theorem aset_far : ∀ (cs : List Value) (arr : Array Value) (b p : Nat), p < b ∨ b + cs.length ≤ p → (aset arr b cs)[p]? = arr[p]?
  | [], _, _, _, _ => rfl
  | c :: cs, arr, b, p, h => by
    simp only [List.length_cons] at h
    rw [aset, aset_far cs _ _ _ (by omega), Array.getElem?_setIfInBounds_ne (by omega)]
theorem aset_get : ∀ (cs : List Value) (arr : Array Value) (b : Nat), b + cs.length ≤ arr.size → ∀ q u, cs[q]? = some u → (aset arr b cs)[b + q]? = some u
  | [], _, _, _, q, u, h => by simp at h
  | c :: cs, arr, b, hb, 0, u, h => by
    simp only [List.length_cons] at hb
    rw [aset, aset_far cs _ _ _ (by omega)]
    obtain rfl : c = u := by simpa using h
    rw [Nat.add_zero]
    have hlt : b < arr.size := by omega
    simp [hlt]
  | c :: cs, arr, b, hb, q + 1, u, h => by
    simp only [List.length_cons] at hb
    rw [aset, show b + (q + 1) = b + 1 + q by omega]
    exact aset_get cs _ _ (by simp; omega) q u (by simpa using h)
theorem Box.sets {g : Nat} {t : TypeId} : ∀ (cs : List Value) {w : World} {arr : Array Value} (b : Nat), Box w g t arr → Box (sets w g b cs) g t (aset arr b cs)
  | [], _, _, _, h => h
  | c :: cs, _, _, b, h => Box.sets cs (b + 1) (h.setSame b c)
theorem sets_far {g : Nat} : ∀ (cs : List Value) (w : World) (b q : Nat), q ≠ g → (sets w g b cs).heap[q]? = w.heap[q]?
  | [], _, _, _, _ => rfl
  | c :: cs, w, b, q, h => (sets_far cs _ (b + 1) q h).trans (Below.heap_setCell w ⟨g, b, none⟩ c q h)
theorem sets_size {g : Nat} : ∀ (cs : List Value) (w : World) (b : Nat), (sets w g b cs).heap.size = w.heap.size
  | [], _, _ => rfl
  | c :: cs, w, b => by rw [sets, sets_size cs]; simp [World.setCell]
theorem Below.sets {B : Nat} {a : World} {g : Nat} : ∀ (cs : List Value) {w : World} (b : Nat), Below B a w → B ≤ g → Below B a (Proofs.Ytcebnoapgceodaa.sets w g b cs)
  | [], _, _, h, _ => h
  | c :: cs, _, b, h, hg => Below.sets cs (b + 1) (h.setCell (by show B ≤ g; exact hg) c) hg


theorem setCells_sets (g : Nat) : ∀ (cs : List Value) (w : World) (b : Nat), w.setCells g b cs = sets w g b cs
  | [], _, _ => rfl
  | _ :: cs, _, b => setCells_sets g cs _ (b + 1)

/-- cells as they lie -/
def InAt (w : World) (b off : Nat) (cs : List Value) : Prop := ∀ j u, cs[j]? = some u → w.cell? ⟨b, off + j, none⟩ = some u
theorem InAt.keep {w w' : World} {b off : Nat} {cs : List Value} (h : InAt w b off cs) (hb : w'.heap[b]? = w.heap[b]?) : InAt w' b off cs := fun j u hj => (World.cell?_of_block (a := ⟨b, off + j, none⟩) hb).trans (h j u hj)

theorem addr_at (g j : Nat) : (⟨g, 0, none⟩ : Addr).add j = ⟨g, j, none⟩ := by unfold Addr.add; by_cases h0 : j = 0 <;> simp [h0]
theorem addr_off (g o j : Nat) : (⟨g, o, none⟩ : Addr).add j = ⟨g, o + j, none⟩ := by unfold Addr.add; by_cases h0 : j = 0 <;> simp [h0]

/-- 'v' owns n elements of K cells each, in a block from B on (or is nil) -/
def RowK (E K B : Nat) (w : World) (v : Value) (n : Nat) (cs : List Value) : Prop := w.ownsRow B E K v n cs ∧ ∀ u ∈ cs, u.oneCell' = true

theorem RowK.len {E K B n : Nat} {w : World} {v : Value} {cs : List Value} (h : RowK E K B w v n cs) : cs.length = n * K := h.1.1
theorem RowK.lt {E K B n : Nat} {w : World} {v : Value} {cs : List Value} (h : RowK E K B w v n cs) : ∀ q, v.ownBlock = some q → B ≤ q ∧ q < w.heap.size := World.ownsRow.lt h.1
theorem RowK.form {E K B n : Nat} {w : World} {v : Value} {cs : List Value} (h : RowK E K B w v n cs) : ∃ a c, v = .slice a n c ∧ n ≤ c ∧ c ≤ maxLen := by
  rcases h.1.2 with ⟨rfl, h0⟩ | ⟨g, cap, cur, rfl, _, _, h1, h2, _⟩
  · exact ⟨none, 0, by rw [h0], by omega, by unfold maxLen; omega⟩
  · exact ⟨_, _, rfl, h1, h2⟩
theorem RowK.grown {E K B n : Nat} {w w' : World} {v : Value} {cs : List Value} {r : Option Nat} (h : RowK E K B w v n cs) (hg : w.grownBy w' r) (hr : v.ownBlock = none ∨ v.ownBlock ≠ r) : RowK E K B w' v n cs := ⟨World.ownsRow.kept h.1 hg hr, h.2⟩
theorem below_grown {w w' : World} (hb : Below w.heap.size w w') : w.grownBy w' none := ⟨hb.os, hb.tape, hb.output, hb.size, fun k hk _ => hb.block k hk⟩
theorem RowK.below {E K B n : Nat} {w w' : World} {v : Value} {cs : List Value} (h : RowK E K B w v n cs) (hb : Below w.heap.size w w') : RowK E K B w' v n cs :=
  h.grown (below_grown hb) (by by_cases hv : v.ownBlock = none; exact .inl hv; exact .inr hv)
/-- by its block alone -/
theorem RowK.keep {E K B B' n : Nat} {w w' : World} {v : Value} {cs : List Value} (h : RowK E K B w v n cs) (ho : ∀ b, v.ownBlock = some b → w'.heap[b]? = w.heap[b]? ∧ B' ≤ b) : RowK E K B' w' v n cs := by
  refine ⟨⟨h.1.1, ?_⟩, h.2⟩
  rcases h.1.2 with h | ⟨g, cap, cur, e1, e2, e3, e4⟩
  · exact .inl h
  · have := ho g (by rw [e1]; rfl)
    exact .inr ⟨g, cap, cur, e1, this.2, this.1.trans e3, e4⟩

/-- a row with a block, by its parts -/
theorem RowK.parts {E K B n c g : Nat} {w : World} {cs : List Value} (h : RowK E K B w (.slice (some ⟨g, 0, none⟩) n c) n cs) :
    ∃ cur : Array Value, Box w g E cur ∧ cur.size = c * K ∧ B ≤ g ∧ n ≤ c ∧ c ≤ maxLen ∧ ∀ q, q < n * K → cur[q]? = cs[q]? := by
  rcases h.1.2 with ⟨h, _⟩ | ⟨g', cap, cur, e1, e2, e3, e4, e5, e6, e7⟩
  · injection h with h; cases h
  · injection e1 with e1 _ e8
    injection e1 with e1
    injection e1 with e1
    subst e1
    subst e8
    exact ⟨cur, e3, e6, e2, e4, e5, fun q hq => by rw [← e7, List.getElem?_take, if_pos hq, Array.getElem?_toList]⟩

/-- and back -/
theorem RowK.mk {E K B n c g : Nat} {w : World} {cs : List Value} {arr : Array Value} (hb : Box w g E arr) (hsz : arr.size = c * K) (hB : B ≤ g) (hn : n ≤ c) (hc : c ≤ maxLen) (hcs : cs.length = n * K) (h : ∀ q, q < n * K → arr[q]? = cs[q]?) (h1 : ∀ u ∈ cs, u.oneCell' = true) :
    RowK E K B w (.slice (some ⟨g, 0, none⟩) n c) n cs := by
  refine ⟨⟨hcs, .inr ⟨g, c, arr, rfl, hB, hb, hn, hc, hsz, ?_⟩⟩, h1⟩
  apply List.ext_getElem?
  intro q
  rw [List.getElem?_take]
  split
  · rename_i hq
    rw [Array.getElem?_toList, h q hq]
  · rename_i hq
    rw [List.getElem?_eq_none (by omega)]

/-- what lies at an element -/
theorem RowK.at_ {E K B n c : Nat} {a : Option Addr} {w : World} {cs : List Value} (h : RowK E K B w (.slice a n c) n cs) (hn : 0 < n) : ∃ g, a = some ⟨g, 0, none⟩ ∧ B ≤ g ∧ g < w.heap.size ∧ ∀ q u, cs[q]? = some u → w.cell? ⟨g, q, none⟩ = some u := by
  rcases h.1.2 with ⟨_, h0⟩ | ⟨g, cap, cur, e1, e2, e3, _⟩
  · omega
  · have hcells := World.ownsRow.cells h.1 (g := g) (by rw [e1]; rfl)
    injection e1 with e1 _ _
    refine ⟨g, e1, e2, (Box.lt e3), fun q u hq => ?_⟩
    have := hcells q u hq
    rwa [addr_at] at this

end Go.Proofs.Ytcebnoapgceodaa
