/-
  rec, store: writes in memory, and as arguments; plainly: which are right.
-/
import Derived.Test.YtcebnoapgceodaaProg
import Derived.Test.YtcebnoapgceodaaBytes
import Derived.Test.YtcebnoapgceodaaOrder
import Derived.Test.YtcebnoapgceodaaIsRow
import Derived.BigQuiet
import Derived.Deep.QuietTactic
import Derived.Deep.Slices
import Derived.Deep.Strs
import Derived.IntWalk
import Derived.Lib.Hide
import Derived.Lib.SmallJoins
import Derived.WalkKit
import Derived.Deep.RegionWith
namespace Go.Proofs.Ytcebnoapgceodaa
open Go.ChangeShapes Go.WideShapes Go.ChangeAt Go.RowKit Go.Deep Go.Joins

structure Wr where
  key : ByteArray
  val : ByteArray
  gone : Bool
instance : Inhabited Wr := ⟨⟨⟨#[]⟩, ⟨#[]⟩, false⟩⟩
def wrcells (x : Wr) : List Value := [.string x.key, .string x.val, .bool x.gone]

/-- a write in three cells -/
def WrIn (w : World) (b o : Nat) (x : Wr) : Prop := w.cell? ⟨b, o, none⟩ = some (.string x.key) ∧ w.cell? ⟨b, o + 1, none⟩ = some (.string x.val) ∧ w.cell? ⟨b, o + 2, none⟩ = some (.bool x.gone)
def WrsIs (w : World) (a : Option Addr) (ws : List Wr) : Prop := ws = [] ∨ ∃ b off, a = some ⟨b, off, none⟩ ∧ b < w.heap.size ∧ ∀ i (h : i < ws.length), WrIn w b (off + i * 3) (ws[i])
theorem WrsIs.below {w w' : World} {a : Option Addr} {ws : List Wr} (h : WrsIs w a ws) (hb : Below w.heap.size w w') : WrsIs w' a ws := by
  refine h.imp id ?_
  rintro ⟨b, off, e, hlt, hv⟩
  refine ⟨b, off, e, Nat.lt_of_lt_of_le hlt hb.size, fun i hi => ?_⟩
  obtain ⟨h0, h1, h2⟩ := hv i hi
  exact ⟨(hb.cell (p := ⟨b, _, none⟩) hlt).trans h0, (hb.cell (p := ⟨b, _, none⟩) hlt).trans h1, (hb.cell (p := ⟨b, _, none⟩) hlt).trans h2⟩
theorem WrsIs.at_ {w : World} {a : Option Addr} {ws : List Wr} (h : WrsIs w a ws) (i : Nat) (hi : i < ws.length) : ∃ b off, a = some ⟨b, off, none⟩ ∧ b < w.heap.size ∧ WrIn w b (off + i * 3) ws[i] ∧ ∀ j (hj : j < ws.length), WrIn w b (off + j * 3) ws[j] := by
  rcases h with h | ⟨b, off, e, hlt, hv⟩
  · rw [h] at hi; simp at hi
  · exact ⟨b, off, e, hlt, hv i hi, hv⟩

theorem cellsWr : Try.prog.cellsOf 48 = 3 := by kernel_rfl

set_option maxRecDepth 100000 in
theorem wr_of {H : Type} {enc : TypeId × Value → H} {W : World} {base : Nat} {sp : Nat → Bool} {held : Bool} {n : Nat} {cs : List Value} {x : DataW H × List MemPlace}
    (h : DataW.trod enc Try.prog W base sp held n 48 cs = some x) : ∃ v : Wr, cs = wrcells v ∧ v.key.size ≤ maxLen ∧ v.val.size ≤ maxLen := by
  obtain ⟨y0, y1, y2, m, _, hl, h0, h1, h2⟩ := trod_struct3 Try.underlying48 h
  rw [cellsWr] at hl
  obtain ⟨c0, c1, c2, rfl⟩ : ∃ c0 c1 c2, cs = [c0, c1, c2] := by
    rcases cs with _ | ⟨c0, _ | ⟨c1, _ | ⟨c2, _ | ⟨c3, r⟩⟩⟩⟩
    · simp at hl
    · simp at hl
    · simp at hl
    · exact ⟨c0, c1, c2, rfl⟩
    · simp at hl
  clear hl
  obtain ⟨k, e0, _, z0⟩ := DataW.trod_string Try.underlying9 h0
  obtain ⟨s, e2, _, z1⟩ := DataW.trod_string Try.underlying9 h1
  obtain ⟨y, e3, _⟩ := DataW.trod_bool Try.underlying4 h2
  refine ⟨⟨k, s, y⟩, ?_, z0, z1⟩
  have f0 : c0 = .string k := by
    have : [c0] = [.string k] := e0
    simpa using this
  have f1 : c1 = .string s := by
    have : [c1] = [.string s] := e2
    simpa using this
  have f2 : c2 = .bool y := by
    have : [c2] = [.bool y] := e3
    simpa using this
  rw [f0, f1, f2]
  rfl

/-- What a walk is told of writes that came in. -/
def WrsCame (w : World) (a : Option Addr) (len cap : Nat) (ws : List Wr) : Prop := ws.length = len ∧ len ≤ cap ∧ cap ≤ 9223372036854775807 ∧ WrsIs w a ws ∧ ∀ x ∈ ws, x.key.size ≤ maxLen ∧ x.val.size ≤ maxLen

set_option linter.unusedSimpArgs false in
theorem wrs_trod {H : Type} {enc : TypeId × Value → H} {W : World} {base : Nat} {sp : Nat → Bool} {held : Bool} {fuel : Nat} {cs : List Value} {x : DataW H × List MemPlace}
    (hf : DataW.trod enc Try.prog W base sp held fuel 22 cs = some x) : ∃ a len cap, cs = [.slice a len cap] ∧ ∃ ws, WrsCame W a len cap ws := by
  rcases open_slice Try.underlying22 hf with ⟨hcs, _⟩ | ⟨x, l, c, m, n, D, Pl, hcs, _, hl, hmx, hm, _, hx⟩
  · exact ⟨none, 0, 0, hcs, [], rfl, Nat.le_refl _, by omega, .inl rfl, by simp⟩
  · refine ⟨some x, l, c, hcs, ?_⟩
    have hmx' : c ≤ 9223372036854775807 := by unfold maxLen at hmx; exact hmx
    by_cases h0 : l = 0
    · subst h0
      exact ⟨[], rfl, hl, hmx', .inl rfl, by simp⟩
    · have hm' : l ≤ m := by rw [hm]; split <;> omega
      obtain ⟨f, hfp⟩ := choose_lt (n := l) (p := fun i (p : Wr) => (∀ j v, (wrcells p)[j]? = some v → W.cell? ((x.add (i * 3)).add j) = some v) ∧ p.key.size ≤ maxLen ∧ p.val.size ≤ maxLen) (fun i hi => by
        obtain ⟨cs', h1, h2⟩ := hx i (by omega)
        obtain ⟨p, hp, hp2⟩ := wr_of h2
        rw [cellsWr] at h1
        obtain ⟨_, hlen, hc⟩ := World.cells?_some h1
        refine ⟨p, fun j v hj => ?_, hp2⟩
        rw [← hp] at hj
        have hj4 : j < 3 := by
          have := (List.getElem?_eq_some_iff.1 hj).1
          omega
        rw [hc j hj4, hj])
      have hspot : x.spot = none := by
        have h1 := (hfp 0 (by omega)).1 0 _ rfl
        simpa [Addr.add] using World.cell?_spot h1
      obtain ⟨b, off, spot⟩ := x
      have hspot : spot = none := hspot
      subst hspot
      have hat : ∀ i j, ((⟨b, off, none⟩ : Addr).add (i * 3)).add j = ⟨b, off + i * 3 + j, none⟩ := fun i j => by
        unfold Addr.add
        by_cases h1 : i * 3 = 0 <;> by_cases h2 : j = 0 <;> simp [h1, h2]
      have hcell : ∀ i, i < l → WrIn W b (off + i * 3) (f i) := fun i hi => by
        have h1 := (hfp i hi).1
        refine ⟨?_, ?_, ?_⟩
        · have := h1 0 _ rfl; rwa [hat] at this
        · have := h1 1 _ rfl; rwa [hat] at this
        · have := h1 2 _ rfl; rwa [hat] at this
      refine ⟨(List.range l).map f, by simp, hl, hmx', .inr ⟨b, off, rfl, ?_, ?_⟩, ?_⟩
      · exact World.block_lt_of_cell? W _ (hcell 0 (by omega)).1
      · intro i hi
        have hi' : i < l := by simpa using hi
        have e : ((List.range l).map f)[i] = f i := by simp
        rw [e]
        exact hcell i hi'
      · intro y hy
        obtain ⟨i, hi, rfl⟩ := List.mem_map.1 hy
        exact (hfp i (List.mem_range.1 hi)).2

theorem cellsCm : Try.prog.cellsOf 45 = 3 := by kernel_rfl

set_option maxRecDepth 100000 in
/-- a commit among a law's arguments -/
theorem cm_arg {H : Type} {enc : TypeId × Value → H} {W : World} {base : Nat} {sp : Nat → Bool} {held : Bool} {v : Value} {d : DataW H} {ps : List MemPlace}
    (h : DataW.Trod enc Try.prog W base sp held 45 v d ps) : ∃ s t a len cap, v = .agg #[.int .i64 s, .int .i64 t, .slice a len cap] ∧ ∃ ws, WrsCame W a len cap ws := by
  obtain ⟨fuel, hf⟩ := h
  obtain ⟨y0, y1, y2, m, _, hl, h0, h1, h2⟩ := trod_struct3 Try.underlying45 hf
  rw [cellsCm] at hl
  obtain ⟨cs, hcs⟩ : ∃ cs, cs = v.cells.toList := ⟨_, rfl⟩
  have hl' : cs.length = 3 := by rw [hcs]; simpa using hl
  obtain ⟨c0, c1, c2, hc3⟩ : ∃ c0 c1 c2, cs = [c0, c1, c2] := by
    rcases cs with _ | ⟨c0, _ | ⟨c1, _ | ⟨c2, _ | ⟨c3, r⟩⟩⟩⟩
    · simp at hl'
    · simp at hl'
    · simp at hl'
    · exact ⟨c0, c1, c2, rfl⟩
    · simp at hl'
  rw [← hcs, hc3] at h0 h1 h2
  obtain ⟨s, e0, _, _⟩ := DataW.trod_int Try.underlying3 h0
  obtain ⟨t, e1, _, _⟩ := DataW.trod_int Try.underlying3 h1
  obtain ⟨a, len, cap, e2, hws⟩ := wrs_trod h2
  refine ⟨s, t, a, len, cap, ?_, hws⟩
  have f0 : c0 = .int .i64 s := by
    have : [c0] = [.int .i64 s] := e0
    simpa using this
  have f1 : c1 = .int .i64 t := by
    have : [c1] = [.int .i64 t] := e1
    simpa using this
  have f2 : c2 = .slice a len cap := by
    have : [c2] = [.slice a len cap] := e2
    simpa using this
  rw [f0, f1, f2] at hc3
  cases v with
  | agg as' =>
    have hc : as'.toList = [.int .i64 s, .int .i64 t, .slice a len cap] := by rw [← hc3, hcs]; simp [Value.cells]
    rw [show as' = #[.int .i64 s, .int .i64 t, .slice a len cap] by rw [← Array.toList_inj]; exact hc]
  | _ => exfalso; rw [hc3] at hcs; simp [Value.cells] at hcs

end Go.Proofs.Ytcebnoapgceodaa
