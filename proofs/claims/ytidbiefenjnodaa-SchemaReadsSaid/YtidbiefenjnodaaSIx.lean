/-
  schema: indexes in memory, and as arguments.
-/
import Derived.Test.YtidbiefenjnodaaRound
import Derived.Test.YtidbiefenjnodaaIsRow
import Derived.BigQuiet
import Derived.Deep.QuietTactic
import Derived.Deep.Slices
import Derived.Deep.Strs
import Derived.IntWalk
import Derived.Lib.Hide
import Derived.Lib.SmallJoins
import Derived.WalkKit
import Derived.Deep.RegionWith
namespace Go.Proofs.Ytidbiefenjnodaa
open Go.ChangeShapes Go.WideShapes Go.ChangeAt Go.RowKit Go.Deep Go.Joins

structure Ix where
  name : ByteArray
  field : ByteArray
  uniq : Bool
instance : Inhabited Ix := ⟨⟨⟨#[]⟩, ⟨#[]⟩, false⟩⟩
def ixcells (x : Ix) : List Value := [.string x.name, .string x.field, .bool x.uniq]

/-- an index in three cells -/
def IxIn (w : World) (b o : Nat) (x : Ix) : Prop := w.cell? ⟨b, o, none⟩ = some (.string x.name) ∧ w.cell? ⟨b, o + 1, none⟩ = some (.string x.field) ∧ w.cell? ⟨b, o + 2, none⟩ = some (.bool x.uniq)
def IxsIs (w : World) (a : Option Addr) (xs : List Ix) : Prop := xs = [] ∨ ∃ b off, a = some ⟨b, off, none⟩ ∧ b < w.heap.size ∧ ∀ i (h : i < xs.length), IxIn w b (off + i * 3) (xs[i])
theorem IxsIs.below {w w' : World} {a : Option Addr} {xs : List Ix} (h : IxsIs w a xs) (hb : Below w.heap.size w w') : IxsIs w' a xs := by
  refine h.imp id ?_
  rintro ⟨b, off, e, hlt, hv⟩
  refine ⟨b, off, e, Nat.lt_of_lt_of_le hlt hb.size, fun i hi => ?_⟩
  obtain ⟨h0, h1, h2⟩ := hv i hi
  exact ⟨(hb.cell (p := ⟨b, _, none⟩) hlt).trans h0, (hb.cell (p := ⟨b, _, none⟩) hlt).trans h1, (hb.cell (p := ⟨b, _, none⟩) hlt).trans h2⟩
theorem IxsIs.at_ {w : World} {a : Option Addr} {xs : List Ix} (h : IxsIs w a xs) (i : Nat) (hi : i < xs.length) : ∃ b off, a = some ⟨b, off, none⟩ ∧ b < w.heap.size ∧ IxIn w b (off + i * 3) xs[i] ∧ ∀ j (hj : j < xs.length), IxIn w b (off + j * 3) xs[j] := by
  rcases h with h | ⟨b, off, e, hlt, hv⟩
  · rw [h] at hi; simp at hi
  · exact ⟨b, off, e, hlt, hv i hi, hv⟩

theorem cellsIx : Try.prog.cellsOf 32 = 3 := by kernel_rfl

set_option maxRecDepth 100000 in
theorem ix_of {H : Type} {enc : TypeId × Value → H} {W : World} {base : Nat} {sp : Nat → Bool} {held : Bool} {n : Nat} {cs : List Value} {x : DataW H × List MemPlace}
    (h : DataW.trod enc Try.prog W base sp held n 32 cs = some x) : ∃ v : Ix, cs = ixcells v ∧ v.name.size ≤ maxLen ∧ v.field.size ≤ maxLen := by
  obtain ⟨y0, y1, y2, m, _, hl, h0, h1, h2⟩ := trod_struct3 Try.underlying32 h
  rw [cellsIx] at hl
  obtain ⟨c0, c1, c2, rfl⟩ : ∃ c0 c1 c2, cs = [c0, c1, c2] := by
    rcases cs with _ | ⟨c0, _ | ⟨c1, _ | ⟨c2, _ | ⟨c3, r⟩⟩⟩⟩
    · simp at hl
    · simp at hl
    · simp at hl
    · exact ⟨c0, c1, c2, rfl⟩
    · simp at hl
  clear hl
  obtain ⟨k, e0, _, z0⟩ := DataW.trod_string Try.underlying9 h0
  obtain ⟨s, e2, _, z1⟩ := DataW.trod_string Try.underlying9 h1
  obtain ⟨y, e3, _⟩ := DataW.trod_bool Try.underlying4 h2
  refine ⟨⟨k, s, y⟩, ?_, z0, z1⟩
  have f0 : c0 = .string k := by
    have : [c0] = [.string k] := e0
    simpa using this
  have f1 : c1 = .string s := by
    have : [c1] = [.string s] := e2
    simpa using this
  have f2 : c2 = .bool y := by
    have : [c2] = [.bool y] := e3
    simpa using this
  rw [f0, f1, f2]
  rfl

/-- What a walk is told of indexes that came in. -/
def IxsCame (w : World) (a : Option Addr) (len cap : Nat) (xs : List Ix) : Prop := xs.length = len ∧ len ≤ cap ∧ cap ≤ 9223372036854775807 ∧ IxsIs w a xs ∧ ∀ x ∈ xs, x.name.size ≤ maxLen ∧ x.field.size ≤ maxLen

set_option linter.unusedSimpArgs false in
theorem ixs_trod {H : Type} {enc : TypeId × Value → H} {W : World} {base : Nat} {sp : Nat → Bool} {held : Bool} {fuel : Nat} {cs : List Value} {x : DataW H × List MemPlace}
    (hf : DataW.trod enc Try.prog W base sp held fuel 23 cs = some x) : ∃ a len cap, cs = [.slice a len cap] ∧ ∃ xs, IxsCame W a len cap xs := by
  rcases open_slice Try.underlying23 hf with ⟨hcs, _⟩ | ⟨x, l, c, m, n, D, Pl, hcs, _, hl, hmx, hm, _, hx⟩
  · exact ⟨none, 0, 0, hcs, [], rfl, Nat.le_refl _, by omega, .inl rfl, by simp⟩
  · refine ⟨some x, l, c, hcs, ?_⟩
    have hmx' : c ≤ 9223372036854775807 := by unfold maxLen at hmx; exact hmx
    by_cases h0 : l = 0
    · subst h0
      exact ⟨[], rfl, hl, hmx', .inl rfl, by simp⟩
    · have hm' : l ≤ m := by rw [hm]; split <;> omega
      obtain ⟨f, hfp⟩ := choose_lt (n := l) (p := fun i (p : Ix) => (∀ j v, (ixcells p)[j]? = some v → W.cell? ((x.add (i * 3)).add j) = some v) ∧ p.name.size ≤ maxLen ∧ p.field.size ≤ maxLen) (fun i hi => by
        obtain ⟨cs', h1, h2⟩ := hx i (by omega)
        obtain ⟨p, hp, hp2⟩ := ix_of h2
        rw [cellsIx] at h1
        obtain ⟨_, hlen, hc⟩ := World.cells?_some h1
        refine ⟨p, fun j v hj => ?_, hp2⟩
        rw [← hp] at hj
        have hj4 : j < 3 := by
          have := (List.getElem?_eq_some_iff.1 hj).1
          omega
        rw [hc j hj4, hj])
      have hspot : x.spot = none := by
        have h1 := (hfp 0 (by omega)).1 0 _ rfl
        simpa [Addr.add] using World.cell?_spot h1
      obtain ⟨b, off, spot⟩ := x
      have hspot : spot = none := hspot
      subst hspot
      have hat : ∀ i j, ((⟨b, off, none⟩ : Addr).add (i * 3)).add j = ⟨b, off + i * 3 + j, none⟩ := fun i j => by
        unfold Addr.add
        by_cases h1 : i * 3 = 0 <;> by_cases h2 : j = 0 <;> simp [h1, h2]
      have hcell : ∀ i, i < l → IxIn W b (off + i * 3) (f i) := fun i hi => by
        have h1 := (hfp i hi).1
        refine ⟨?_, ?_, ?_⟩
        · have := h1 0 _ rfl; rwa [hat] at this
        · have := h1 1 _ rfl; rwa [hat] at this
        · have := h1 2 _ rfl; rwa [hat] at this
      refine ⟨(List.range l).map f, by simp, hl, hmx', .inr ⟨b, off, rfl, ?_, ?_⟩, ?_⟩
      · exact World.block_lt_of_cell? W _ (hcell 0 (by omega)).1
      · intro i hi
        have hi' : i < l := by simpa using hi
        have e : ((List.range l).map f)[i] = f i := by simp
        rw [e]
        exact hcell i hi'
      · intro y hy
        obtain ⟨i, hi, rfl⟩ := List.mem_map.1 hy
        exact (hfp i (List.mem_range.1 hi)).2

end Go.Proofs.Ytidbiefenjnodaa
