/-
  mailbaglaw17: acts among a law's arguments.
-/
import Derived.Test.YtookplnegfheeaaWtMk
import Derived.Lib.SmallJoins
import Derived.Deep.Slices
import Derived.Deep.Strs
namespace Go.Proofs.Ytookplnegfheeaa.watchMarks
open Go.ChangeShapes Go.WideShapes Go.ChangeAt Go.RowKit Go.Deep Go.Joins

set_option linter.unusedVariables false
set_option linter.unusedSimpArgs false

structure AC where
  k : Int
  n : Int
  m : Int
instance : Inhabited AC := ⟨⟨0, 0, 0⟩⟩
def acells (a : AC) : List Value := [.int .i64 a.k, .int .i64 a.n, .int .i64 a.m]
theorem cellsAct : Try.prog.cellsOf 70 = 3 := by kernel_rfl
def AC.ok (a : AC) : Prop := (Lit.int .i64 a.n).wf = true

set_option maxRecDepth 100000 in
theorem act_of {H : Type} {enc : TypeId × Value → H} {W : World} {base : Nat} {sp : Nat → Bool} {held : Bool} {n : Nat} {cs : List Value} {x : DataW H × List MemPlace}
    (h : DataW.trod enc Try.prog W base sp held n 70 cs = some x) : ∃ v : AC, cs = acells v ∧ v.ok := by
  obtain ⟨y0, y1, y2, m, _, hl, h0, h1, h2⟩ := trod_struct3 Try.underlying70 h
  rw [cellsAct] at hl
  obtain ⟨c0, c1, c2, rfl⟩ : ∃ c0 c1 c2, cs = [c0, c1, c2] := by
    rcases cs with _ | ⟨c0, _ | ⟨c1, _ | ⟨c2, _ | ⟨c3, r⟩⟩⟩⟩
    · simp at hl
    · simp at hl
    · simp at hl
    · exact ⟨c0, c1, c2, rfl⟩
    · simp at hl
  clear hl
  obtain ⟨k, e0, _, _⟩ := DataW.trod_int Try.underlying3 h0
  obtain ⟨z, e1, _, w1⟩ := DataW.trod_int Try.underlying3 h1
  obtain ⟨s2, e2, _, _⟩ := DataW.trod_int Try.underlying3 h2
  refine ⟨⟨k, z, s2⟩, ?_, w1⟩
  have f0 : c0 = .int .i64 k := by
    have : [c0] = [.int .i64 k] := e0
    simpa using this
  have f1 : c1 = .int .i64 z := by
    have : [c1] = [.int .i64 z] := e1
    simpa using this
  have f2 : c2 = .int .i64 s2 := by
    have : [c2] = [.int .i64 s2] := e2
    simpa using this
  rw [f0, f1, f2]
  rfl

/-- an act in three cells -/
def ActIn (w : World) (b o : Nat) (a : AC) : Prop :=
  w.cell? ⟨b, o, none⟩ = some (.int .i64 a.k) ∧ w.cell? ⟨b, o + 1, none⟩ = some (.int .i64 a.n) ∧ w.cell? ⟨b, o + 2, none⟩ = some (.int .i64 a.m)
def ActsIs (w : World) (a : Option Addr) (vs : List AC) : Prop := vs = [] ∨ ∃ b off, a = some ⟨b, off, none⟩ ∧ b < w.heap.size ∧ ∀ i (h : i < vs.length), ActIn w b (off + i * 3) (vs[i])
def ActsCame (w : World) (a : Option Addr) (len cap : Nat) (vs : List AC) : Prop := vs.length = len ∧ len ≤ cap ∧ cap ≤ 9223372036854775807 ∧ ActsIs w a vs ∧ ∀ v ∈ vs, v.ok
theorem ActsIs.below {w w' : World} {a : Option Addr} {vs : List AC} (h : ActsIs w a vs) (hb : Below w.heap.size w w') : ActsIs w' a vs := by
  refine h.imp id ?_
  rintro ⟨b, off, e, hlt, hv⟩
  refine ⟨b, off, e, Nat.lt_of_lt_of_le hlt hb.size, fun i hi => ?_⟩
  obtain ⟨h0, h1, h2⟩ := hv i hi
  exact ⟨(hb.cell (p := ⟨b, _, none⟩) hlt).trans h0, (hb.cell (p := ⟨b, _, none⟩) hlt).trans h1, (hb.cell (p := ⟨b, _, none⟩) hlt).trans h2⟩
theorem ActsIs.at_ {w : World} {a : Option Addr} {vs : List AC} (h : ActsIs w a vs) (i : Nat) (hi : i < vs.length) : ∃ b off, a = some ⟨b, off, none⟩ ∧ b < w.heap.size ∧ ActIn w b (off + i * 3) vs[i] := by
  rcases h with h | ⟨b, off, e, hlt, hv⟩
  · rw [h] at hi; simp at hi
  · exact ⟨b, off, e, hlt, hv i hi⟩

theorem acts_arg {H : Type} {enc : TypeId × Value → H} {W : World} {a : Option Addr} {len cap : Nat} {base : Nat} {sp : Bool} {d : DataW H} {pl : List MemPlace}
    (h : DataW.Trod enc Try.prog W base (fun _ => true) sp 65 (.slice a len cap) d pl) : ∃ vs, ActsCame W a len cap vs := by
  obtain ⟨fuel, hf⟩ := h
  rcases open_slice Try.underlying65 hf with ⟨hcs, _⟩ | ⟨x, l, c, m, n, D, Pl, hcs, _, hl, hmx, hm, _, hx⟩
  · simp [Value.cells] at hcs
    obtain ⟨rfl, rfl, rfl⟩ := hcs
    exact ⟨[], rfl, Nat.le_refl _, by omega, .inl rfl, by simp⟩
  · simp [Value.cells] at hcs
    obtain ⟨rfl, rfl, rfl⟩ := hcs
    have hmx' : cap ≤ 9223372036854775807 := by unfold maxLen at hmx; exact hmx
    by_cases h0 : len = 0
    · subst h0
      exact ⟨[], rfl, hl, hmx', .inl rfl, by simp⟩
    · have hm' : len ≤ m := by rw [hm]; simpa using hl
      obtain ⟨f, hfp⟩ := choose_lt (n := len) (p := fun i (p : AC) => (∀ j v, (acells p)[j]? = some v → W.cell? ((x.add (i * 3)).add j) = some v) ∧ p.ok) (fun i hi => by
        obtain ⟨cs', h1, h2⟩ := hx i (by omega)
        obtain ⟨p, hp, hok⟩ := act_of h2
        rw [cellsAct] at h1
        obtain ⟨_, hlen, hc⟩ := World.cells?_some h1
        refine ⟨p, fun j v hj => ?_, hok⟩
        rw [← hp] at hj
        have hj4 : j < 3 := by
          have := (List.getElem?_eq_some_iff.1 hj).1
          omega
        rw [hc j hj4, hj])
      have hspot : x.spot = none := by
        have h1 := (hfp 0 (by omega)).1 0 _ rfl
        simpa [Addr.add] using World.cell?_spot h1
      obtain ⟨b, off, spot⟩ := x
      have hspot : spot = none := hspot
      subst hspot
      have hat : ∀ i j, ((⟨b, off, none⟩ : Addr).add (i * 3)).add j = ⟨b, off + i * 3 + j, none⟩ := fun i j => by
        unfold Addr.add
        by_cases h1 : i * 3 = 0 <;> by_cases h2 : j = 0 <;> simp [h1, h2]
      have hcell : ∀ i, i < len → ActIn W b (off + i * 3) (f i) := fun i hi => by
        have h1 := (hfp i hi).1
        refine ⟨?_, ?_, ?_⟩
        · have := h1 0 _ rfl; rwa [hat] at this
        · have := h1 1 _ rfl; rwa [hat] at this
        · have := h1 2 _ rfl; rwa [hat] at this
      refine ⟨(List.range len).map f, by simp, hl, hmx', .inr ⟨b, off, rfl, ?_, ?_⟩, ?_⟩
      · exact World.block_lt_of_cell? W _ (hcell 0 (by omega)).1
      · intro i hi
        have hi' : i < len := by simpa using hi
        have e : ((List.range len).map f)[i] = f i := by simp
        rw [e]
        exact hcell i hi'
      · intro v hv
        obtain ⟨i, hi, rfl⟩ := List.mem_map.1 hv
        exact (hfp i (by simpa using hi)).2

end Go.Proofs.Ytookplnegfheeaa.watchMarks
