/-
  A value in memory: its six cells, and what its list and its fields lead to; as it came in; and what keeps it.
-/
import Derived.Test.YtacphlceggbfcaaValMath
import Derived.Test.YtacphlceggbfcaaOwn
import Derived.Test.YtacphlceggbfcaaShelf
import Derived.ProofKit
import Derived.OpenShut
import Derived.Lib.SmallJoins
import Derived.Deep.Slices
import Derived.Lib.Hide
namespace Go.Proofs.Ytacphlceggbfcaa
open Go.ChangeShapes Go.WideShapes Go.ChangeAt Go.RowKit Go.Deep Go.Joins

theorem cellsVal : Try.prog.cellsOf 26 = 6 := by kernel_rfl
theorem cellsField : Try.prog.cellsOf 68 = 7 := by kernel_rfl

/-- a value's cells, its list and its fields being these -/
def V.cells (v : V) (lv fv : Value) : List Value := [.int .i64 v.kind, .bool v.yes, .int .i64 v.num, .string v.text, lv, fv]

/-- these cells lie there -/
def InAt (w : World) (b off : Nat) (cs : List Value) : Prop := ∀ j u, cs[j]? = some u → w.cell? ⟨b, off + j, none⟩ = some u

mutual
/-- a value's list and fields, in blocks of S -/
def V.At (w : World) (S : Nat → Prop) : V → Value → Value → Prop
  | .mk _ _ _ _ l f, lv, fv =>
    (∃ a c, lv = .slice a l.length c ∧ l.length ≤ c ∧ c ≤ maxLen ∧ (l = [] ∨ ∃ b off, a = some ⟨b, off, none⟩ ∧ S b ∧ b < w.heap.size ∧ LCells w S b off l)) ∧
    (∃ a c, fv = .slice a f.length c ∧ f.length ≤ c ∧ c ≤ maxLen ∧ (f = [] ∨ ∃ b off, a = some ⟨b, off, none⟩ ∧ S b ∧ b < w.heap.size ∧ FCells w S b off f))
def LCells (w : World) (S : Nat → Prop) (b : Nat) : Nat → List V → Prop
  | _, [] => True
  | off, v :: l => (∃ lv fv, InAt w b off (v.cells lv fv) ∧ v.At w S lv fv) ∧ LCells w S b (off + 6) l
def FCells (w : World) (S : Nat → Prop) (b : Nat) : Nat → List (ByteArray × V) → Prop
  | _, [] => True
  | off, p :: l => (∃ lv fv, InAt w b off (.string p.1 :: V.cells p.2 lv fv) ∧ V.At w S p.2 lv fv) ∧ FCells w S b (off + 7) l
end

/-- a list of values, in a slice -/
def LAt (w : World) (S : Nat → Prop) (l : List V) (lv : Value) : Prop :=
  ∃ a c, lv = .slice a l.length c ∧ l.length ≤ c ∧ c ≤ maxLen ∧ (l = [] ∨ ∃ b off, a = some ⟨b, off, none⟩ ∧ S b ∧ b < w.heap.size ∧ LCells w S b off l)
def FAt (w : World) (S : Nat → Prop) (f : List Fd) (fv : Value) : Prop :=
  ∃ a c, fv = .slice a f.length c ∧ f.length ≤ c ∧ c ≤ maxLen ∧ (f = [] ∨ ∃ b off, a = some ⟨b, off, none⟩ ∧ S b ∧ b < w.heap.size ∧ FCells w S b off f)

theorem V.at_iff {w : World} {S : Nat → Prop} {v : V} {lv fv : Value} : v.At w S lv fv ↔ LAt w S v.list lv ∧ FAt w S v.fields fv := by
  cases v; exact Iff.rfl

theorem LCells.get {w : World} {S : Nat → Prop} {b : Nat} : ∀ {off : Nat} {l : List V} {i : Nat}, LCells w S b off l → (h : i < l.length) → ∃ lv fv, InAt w b (off + i * 6) (l[i].cells lv fv) ∧ l[i].At w S lv fv
  | off, v :: l, 0, h, _ => by
    obtain ⟨lv, fv, h1, h2⟩ := h.1
    exact ⟨lv, fv, by simpa using h1, h2⟩
  | off, v :: l, i + 1, h, hi => by
    obtain ⟨lv, fv, h1, h2⟩ := LCells.get (i := i) h.2 (by simpa using hi)
    refine ⟨lv, fv, ?_, h2⟩
    rw [show off + (i + 1) * 6 = off + 6 + i * 6 by omega]
    exact h1

theorem LCells.mk {w : World} {S : Nat → Prop} {b : Nat} : ∀ {off : Nat} {l : List V}, (∀ i (h : i < l.length), ∃ lv fv, InAt w b (off + i * 6) (l[i].cells lv fv) ∧ l[i].At w S lv fv) → LCells w S b off l
  | off, [], _ => by rw [LCells]; trivial
  | off, v :: l, h => by
    rw [LCells]
    refine ⟨?_, LCells.mk fun i hi => ?_⟩
    · obtain ⟨lv, fv, h1, h2⟩ := h 0 (by simp)
      exact ⟨lv, fv, by simpa using h1, h2⟩
    · obtain ⟨lv, fv, h1, h2⟩ := h (i + 1) (by simpa using hi)
      refine ⟨lv, fv, ?_, h2⟩
      rw [show off + (i + 1) * 6 = off + 6 + i * 6 by omega] at h1
      exact h1

theorem FCells.get {w : World} {S : Nat → Prop} {b : Nat} : ∀ {off : Nat} {l : List Fd} {i : Nat}, FCells w S b off l → (h : i < l.length) → ∃ lv fv, InAt w b (off + i * 7) (.string l[i].1 :: l[i].2.cells lv fv) ∧ l[i].2.At w S lv fv
  | off, v :: l, 0, h, _ => by
    obtain ⟨lv, fv, h1, h2⟩ := h.1
    exact ⟨lv, fv, by simpa using h1, h2⟩
  | off, v :: l, i + 1, h, hi => by
    obtain ⟨lv, fv, h1, h2⟩ := FCells.get (i := i) h.2 (by simpa using hi)
    refine ⟨lv, fv, ?_, h2⟩
    rw [show off + (i + 1) * 7 = off + 7 + i * 7 by omega]
    exact h1

theorem FCells.mk {w : World} {S : Nat → Prop} {b : Nat} : ∀ {off : Nat} {l : List Fd}, (∀ i (h : i < l.length), ∃ lv fv, InAt w b (off + i * 7) (.string l[i].1 :: l[i].2.cells lv fv) ∧ l[i].2.At w S lv fv) → FCells w S b off l
  | off, [], _ => by rw [FCells]; trivial
  | off, v :: l, h => by
    rw [FCells]
    refine ⟨?_, FCells.mk fun i hi => ?_⟩
    · obtain ⟨lv, fv, h1, h2⟩ := h 0 (by simp)
      exact ⟨lv, fv, by simpa using h1, h2⟩
    · obtain ⟨lv, fv, h1, h2⟩ := h (i + 1) (by simpa using hi)
      refine ⟨lv, fv, ?_, h2⟩
      rw [show off + (i + 1) * 7 = off + 7 + i * 7 by omega] at h1
      exact h1

theorem InAt.keep {w w' : World} {b off : Nat} {cs : List Value} (h : InAt w b off cs) (hb : w'.heap[b]? = w.heap[b]?) : InAt w' b off cs := fun j u hj => (World.cell?_of_block (a := ⟨b, off + j, none⟩) hb).trans (h j u hj)

/-- what keeps a value: the blocks of S are as they were -/
theorem V.At.move {w w' : World} {S S' : Nat → Prop} (hm : ∀ b, S b → b < w.heap.size → S' b ∧ w'.heap[b]? = w.heap[b]?) (hz : w.heap.size ≤ w'.heap.size) : ∀ (n : Nat) {v : V} {lv fv : Value}, v.dep ≤ n → v.At w S lv fv → v.At w' S' lv fv
  | 0, v, lv, fv, hd, _ => by
    cases v
    rw [V.dep] at hd
    omega
  | n + 1, v, lv, fv, hd, h => by
    rw [V.at_iff] at h ⊢
    obtain ⟨⟨a, c, e1, e2, e3, hl⟩, ⟨a', c', f1, f2, f3, hf⟩⟩ := h
    refine ⟨⟨a, c, e1, e2, e3, ?_⟩, ⟨a', c', f1, f2, f3, ?_⟩⟩
    · rcases hl with hl | ⟨b, off, ea, hS, hb, hc⟩
      · exact .inl hl
      · obtain ⟨k1, k2⟩ := hm b hS hb
        refine .inr ⟨b, off, ea, k1, by omega, LCells.mk fun i hi => ?_⟩
        obtain ⟨lv', fv', g1, g2⟩ := hc.get hi
        have hdi := dep_list (v := v) (List.getElem_mem hi)
        exact ⟨lv', fv', g1.keep k2, V.At.move hm hz n (by omega) g2⟩
    · rcases hf with hl | ⟨b, off, ea, hS, hb, hc⟩
      · exact .inl hl
      · obtain ⟨k1, k2⟩ := hm b hS hb
        refine .inr ⟨b, off, ea, k1, by omega, FCells.mk fun i hi => ?_⟩
        obtain ⟨lv', fv', g1, g2⟩ := hc.get hi
        have hdi := dep_fields (v := v) (List.getElem_mem hi)
        exact ⟨lv', fv', g1.keep k2, V.At.move hm hz n (by omega) g2⟩

def All : Nat → Prop := fun _ => True

/-- a value, wherever it lies -/
abbrev V.Is (v : V) (w : World) (lv fv : Value) : Prop := v.At w All lv fv

theorem V.At.is {v : V} {w : World} {S : Nat → Prop} {lv fv : Value} (h : v.At w S lv fv) : v.Is w lv fv := V.At.move (fun _ _ _ => ⟨trivial, rfl⟩) (Nat.le_refl _) v.dep (Nat.le_refl _) h

theorem V.Is.below {v : V} {w w' : World} {lv fv : Value} (h : v.Is w lv fv) (hb : Below w.heap.size w w') : v.Is w' lv fv :=
  V.At.move (fun b _ hlt => ⟨trivial, hb.block b hlt⟩) hb.size v.dep (Nat.le_refl _) h

theorem V.At.below {v : V} {w w' : World} {S : Nat → Prop} {lv fv : Value} (h : v.At w S lv fv) (hb : Below w.heap.size w w') : v.At w' S lv fv :=
  V.At.move (fun b hS hlt => ⟨hS, hb.block b hlt⟩) hb.size v.dep (Nat.le_refl _) h

/-- the elements of a value's list -/
theorem V.Is.elem {v : V} {w : World} {lv fv : Value} (h : v.Is w lv fv) {i : Nat} (hi : i < v.list.length) :
    ∃ b off c lv' fv', lv = .slice (some ⟨b, off, none⟩) v.list.length c ∧ b < w.heap.size ∧ InAt w b (off + i * 6) ((v.list[i]).cells lv' fv') ∧ (v.list[i]).Is w lv' fv' := by
  obtain ⟨⟨a, c, e1, _, _, hl⟩, _⟩ := V.at_iff.1 h
  rcases hl with hl | ⟨b, off, ea, hS, hb, hc⟩
  · rw [hl] at hi; simp at hi
  · obtain ⟨lv', fv', h1, h2⟩ := hc.get hi
    exact ⟨b, off, c, lv', fv', by rw [e1, ea], hb, h1, h2⟩

theorem V.Is.field {v : V} {w : World} {lv fv : Value} (h : v.Is w lv fv) {i : Nat} (hi : i < v.fields.length) :
    ∃ b off c lv' fv', fv = .slice (some ⟨b, off, none⟩) v.fields.length c ∧ b < w.heap.size ∧ InAt w b (off + i * 7) (.string (v.fields[i]).1 :: (v.fields[i]).2.cells lv' fv') ∧ (v.fields[i]).2.Is w lv' fv' := by
  obtain ⟨_, ⟨a, c, e1, _, _, hl⟩⟩ := V.at_iff.1 h
  rcases hl with hl | ⟨b, off, ea, hS, hb, hc⟩
  · rw [hl] at hi; simp at hi
  · obtain ⟨lv', fv', h1, h2⟩ := hc.get hi
    exact ⟨b, off, c, lv', fv', by rw [e1, ea], hb, h1, h2⟩

theorem V.Is.fcells {v : V} {w : World} {lv fv : Value} (h : v.Is w lv fv) (h0 : 0 < v.fields.length) :
    ∃ b off c, fv = .slice (some ⟨b, off, none⟩) v.fields.length c ∧ b < w.heap.size ∧ FCells w All b off v.fields := by
  obtain ⟨_, ⟨a, c, e1, _, _, hl⟩⟩ := V.at_iff.1 h
  rcases hl with hl | ⟨b, off, ea, hS, hb, hc⟩
  · rw [hl] at h0; simp at h0
  · exact ⟨b, off, c, by rw [e1, ea], hb, hc⟩

theorem V.Is.len {v : V} {w : World} {lv fv : Value} (h : v.Is w lv fv) : (∃ a c, lv = .slice a v.list.length c) ∧ (∃ a c, fv = .slice a v.fields.length c) ∧ v.list.length ≤ 9223372036854775807 ∧ v.fields.length ≤ 9223372036854775807 := by
  obtain ⟨⟨a, c, e1, e2, e3, _⟩, ⟨a', c', f1, f2, f3, _⟩⟩ := V.at_iff.1 h
  unfold maxLen at e3 f3
  exact ⟨⟨a, c, e1⟩, ⟨a', c', f1⟩, by omega, by omega⟩

theorem wf_is64 {z : Int} (h : (Lit.int .i64 z).wf = true) : Is64 z := by
  have h : -9223372036854775808 ≤ z ∧ z ≤ 9223372036854775807 := by simpa [Lit.wf, IntKind.min, IntKind.max, IntKind.signed, IntKind.bits] using h
  exact h

/-- a slice that came in: its elements, each read with less fuel -/
theorem slice_came {H : Type} {enc : TypeId × Value → H} {W : World} {base : Nat} {sp : Nat → Bool} {held : Bool} {n : Nat} {t e : TypeId} {cs : List Value} {x : DataW H × List MemPlace}
    (ht : Try.prog.underlying t = some (.slice e)) (C : Nat) (hC : Try.prog.cellsOf e = C) (hC0 : 0 < C) (h : DataW.trod enc Try.prog W base sp held (n + 1) t cs = some x) :
    ∃ a len c, cs = [.slice a len c] ∧ len ≤ c ∧ c ≤ maxLen ∧ (len = 0 ∨ ∃ b off, a = some ⟨b, off, none⟩ ∧ b < W.heap.size ∧
      ∀ i, i < len → ∃ cs' y, InAt W b (off + i * C) cs' ∧ DataW.trod enc Try.prog W base sp held n e cs' = some y) := by
  rcases DataW.trod_slice ht h with ⟨rfl, _⟩ | ⟨a, len, cap, elems, rest, m, hm, rfl, _, _, hl, hmx, hlen, hel, _, _⟩
  · exact ⟨none, 0, 0, rfl, Nat.le_refl _, by unfold maxLen; omega, .inl rfl⟩
  · obtain rfl : n = m := by omega
    refine ⟨some a, len, cap, rfl, hl, hmx, ?_⟩
    by_cases h0 : len = 0
    · exact .inl h0
    · have hcell : ∀ i, i < len → ∃ cs' y, cs'.length = C ∧ (∀ j, j < C → W.cell? ((a.add (i * C)).add j) = cs'[j]?) ∧ DataW.trod enc Try.prog W base sp held n e cs' = some y := fun i hi => by
        have h1 := hel i hi
        rw [List.getElem?_eq_getElem (by omega), hC] at h1
        obtain ⟨cs', h2, h3⟩ := Option.bind_eq_some_iff.1 h1
        obtain ⟨_, h4, h5⟩ := World.cells?_some h2
        exact ⟨cs', _, h4, h5, h3⟩
      have hspot : a.spot = none := by
        obtain ⟨cs', y, h1, h2, _⟩ := hcell 0 (by omega)
        have h3 := h2 0 hC0
        rw [List.getElem?_eq_getElem (by omega)] at h3
        simpa [Addr.add] using World.cell?_spot h3
      obtain ⟨b, off, spot⟩ := a
      have hspot : spot = none := hspot
      subst hspot
      have hat : ∀ i j, ((⟨b, off, none⟩ : Addr).add (i * C)).add j = ⟨b, off + i * C + j, none⟩ := fun i j => by
        unfold Addr.add
        by_cases h1 : i * C = 0 <;> by_cases h2 : j = 0 <;> simp [h1, h2]
      refine .inr ⟨b, off, rfl, ?_, fun i hi => ?_⟩
      · obtain ⟨cs', y, h1, h2, _⟩ := hcell 0 (by omega)
        have h3 := h2 0 hC0
        rw [hat, List.getElem?_eq_getElem (by omega)] at h3
        exact World.block_lt_of_cell? W _ h3
      · obtain ⟨cs', y, h1, h2, h3⟩ := hcell i hi
        refine ⟨cs', y, fun j u hj => ?_, h3⟩
        have hjl := (List.getElem?_eq_some_iff.1 hj).1
        rw [← hj, ← h2 j (by omega), hat]

/-- a struct of six fields of one cell each -/
theorem trod_six {P : Program} {H : Type} {enc : TypeId × Value → H} {w : World} {base : Nat} {sp : Nat → Bool} {held : Bool} {fuel : Nat} {t : TypeId} {f0 f1 f2 f3 f4 f5 : Field} {cs : List Value} {x : DataW H × List MemPlace}
    (hs : P.underlying t = some (.struct #[f0, f1, f2, f3, f4, f5])) (hone : oneCellFields P #[f0, f1, f2, f3, f4, f5] = true) (hC : P.cellsOf t = 6) (h : DataW.trod enc P w base sp held fuel t cs = some x) :
    ∃ (c0 c1 c2 c3 c4 c5 : Value) (y0 y1 y2 y3 y4 y5 : DataW H × List MemPlace) (n : Nat), fuel = n + 1 ∧ cs = [c0, c1, c2, c3, c4, c5] ∧ DataW.trod enc P w base sp held n f0.type [c0] = some y0 ∧ DataW.trod enc P w base sp held n f1.type [c1] = some y1 ∧
      DataW.trod enc P w base sp held n f2.type [c2] = some y2 ∧ DataW.trod enc P w base sp held n f3.type [c3] = some y3 ∧ DataW.trod enc P w base sp held n f4.type [c4] = some y4 ∧ DataW.trod enc P w base sp held n f5.type [c5] = some y5 := by
  obtain ⟨xs, n, hn, _, hlen, hxl, hg⟩ := DataW.trod_struct hs h
  rw [hC] at hlen
  match cs, hlen with
  | [c0, c1, c2, c3, c4, c5], _ =>
    obtain ⟨o0, k0⟩ := hone_of hone 0 f0 rfl
    obtain ⟨o1, k1⟩ := hone_of hone 1 f1 rfl
    obtain ⟨o2, k2⟩ := hone_of hone 2 f2 rfl
    obtain ⟨o3, k3⟩ := hone_of hone 3 f3 rfl
    obtain ⟨o4, k4⟩ := hone_of hone 4 f4 rfl
    obtain ⟨o5, k5⟩ := hone_of hone 5 f5 rfl
    match xs, hxl with
    | [y0, y1, y2, y3, y4, y5], _ =>
      exact ⟨c0, c1, c2, c3, c4, c5, y0, y1, y2, y3, y4, y5, n, hn, rfl, by simpa [o0, k0] using hg 0 f0 rfl, by simpa [o1, k1] using hg 1 f1 rfl, by simpa [o2, k2] using hg 2 f2 rfl, by simpa [o3, k3] using hg 3 f3 rfl, by simpa [o4, k4] using hg 4 f4 rfl, by simpa [o5, k5] using hg 5 f5 rfl⟩

theorem trod_two {P : Program} {H : Type} {enc : TypeId × Value → H} {w : World} {base : Nat} {sp : Nat → Bool} {held : Bool} {fuel : Nat} {t : TypeId} {f0 f1 : Field} {cs : List Value} {x : DataW H × List MemPlace}
    (hs : P.underlying t = some (.struct #[f0, f1])) (h : DataW.trod enc P w base sp held fuel t cs = some x) :
    ∃ (y0 y1 : DataW H × List MemPlace) (n : Nat), fuel = n + 1 ∧ cs.length = P.cellsOf t ∧ DataW.trod enc P w base sp held n f0.type ((cs.drop f0.offset).take (P.cellsOf f0.type)) = some y0 ∧
      DataW.trod enc P w base sp held n f1.type ((cs.drop f1.offset).take (P.cellsOf f1.type)) = some y1 := by
  obtain ⟨xs, n, hn, _, hlen, hxl, hg⟩ := DataW.trod_struct hs h
  match xs, hxl with
  | [y0, y1], _ => exact ⟨y0, y1, n, hn, hlen, hg 0 f0 rfl, hg 1 f1 rfl⟩

theorem choose_lists {α : Type} {p : Nat → α → Prop} : ∀ (n : Nat), (∀ i, i < n → ∃ x, p i x) → ∃ l : List α, l.length = n ∧ ∀ i (h : i < l.length), p i l[i]
  | 0, _ => ⟨[], rfl, fun i h => by simp at h⟩
  | n + 1, h => by
    obtain ⟨l, hl, hp⟩ := choose_lists n fun i hi => h i (by omega)
    obtain ⟨x, hx⟩ := h n (by omega)
    refine ⟨l ++ [x], by simp [hl], fun i hi => ?_⟩
    by_cases hin : i < l.length
    · rw [List.getElem_append_left hin]; exact hp i hin
    · obtain rfl : i = n := by simp at hi; omega
      rw [List.getElem_append_right (by omega)]
      simpa [hl] using hx

set_option maxRecDepth 100000 in
/-- a value that came in -/
theorem val_came {H : Type} {enc : TypeId × Value → H} {W : World} {base : Nat} {sp : Nat → Bool} {held : Bool} : ∀ {n : Nat} {cs : List Value} {x : DataW H × List MemPlace},
    DataW.trod enc Try.prog W base sp held n 26 cs = some x → ∃ (v : V) (lv fv : Value), cs = v.cells lv fv ∧ v.Is W lv fv ∧ v.n64 ∧ Is64 v.kind := by
  intro n
  induction n using Nat.strongRecOn with
  | ind n ih =>
    intro cs x h
    obtain ⟨c0, c1, c2, c3, c4, c5, y0, y1, y2, y3, y4, y5, m, rfl, rfl, h0, h1, h2, h3, h4, h5⟩ := trod_six Try.underlying26 (by kernel_rfl) cellsVal h
    obtain ⟨k, e0, _, w0⟩ := DataW.trod_int Try.underlying22 h0
    obtain ⟨y, e1, _⟩ := DataW.trod_bool Try.underlying4 h1
    obtain ⟨nn, e2, _, w2⟩ := DataW.trod_int Try.underlying2 h2
    obtain ⟨t, e3, _, _⟩ := DataW.trod_string Try.underlying9 h3
    have e0 : c0 = .int .i64 k := by
      have : [c0] = [.int .i64 k] := e0
      simpa using this
    have e1 : c1 = .bool y := by
      have : [c1] = [.bool y] := e1
      simpa using this
    have e2 : c2 = .int .i64 nn := by
      have : [c2] = [.int .i64 nn] := e2
      simpa using this
    have e3 : c3 = .string t := by
      have : [c3] = [.string t] := e3
      simpa using this
    subst e0 e1 e2 e3
    match m, h4, h5 with
    | 0, h4, _ => simp [DataW.trod] at h4
    | m + 1, h4, h5 =>
      obtain ⟨a, len, c, e4, hl, hm, hA⟩ := slice_came Try.underlying23 6 cellsVal (by decide) h4
      obtain ⟨a', len', c', e5, hl', hm', hA'⟩ := slice_came Try.underlying24 7 cellsField (by decide) h5
      have e4 : c4 = .slice a len c := by
        have : [c4] = [.slice a len c] := e4
        simpa using this
      have e5 : c5 = .slice a' len' c' := by
        have : [c5] = [.slice a' len' c'] := e5
        simpa using this
      subst e4 e5
      obtain ⟨l, hll, hlc⟩ : ∃ l : List V, l.length = len ∧ (l = [] ∨ ∃ b off, a = some ⟨b, off, none⟩ ∧ All b ∧ b < W.heap.size ∧ LCells W All b off l) ∧ ∀ v ∈ l, v.n64 := by
        rcases hA with rfl | ⟨b, off, ea, hb, hel⟩
        · exact ⟨[], rfl, .inl rfl, fun v hv => by cases hv⟩
        · obtain ⟨l, hll, hp⟩ := choose_lists (p := fun i (v : V) => (∃ lv fv, InAt W b (off + i * 6) (v.cells lv fv) ∧ v.At W All lv fv) ∧ v.n64) len fun i hi => by
            obtain ⟨cs', z, g1, g2⟩ := hel i hi
            obtain ⟨v, lv, fv, q1, q2, q3, _⟩ := ih m (by omega) g2
            subst q1
            exact ⟨v, ⟨lv, fv, g1, q2⟩, q3⟩
          refine ⟨l, hll, .inr ⟨b, off, ea, trivial, hb, LCells.mk fun i hi => (hp i hi).1⟩, fun v hv => ?_⟩
          obtain ⟨i, hi, rfl⟩ := List.getElem_of_mem hv
          exact (hp i hi).2
      obtain ⟨f, hfl, hfc⟩ : ∃ f : List Fd, f.length = len' ∧ (f = [] ∨ ∃ b off, a' = some ⟨b, off, none⟩ ∧ All b ∧ b < W.heap.size ∧ FCells W All b off f) ∧ ∀ p ∈ f, p.2.n64 := by
        rcases hA' with rfl | ⟨b, off, ea, hb, hel⟩
        · exact ⟨[], rfl, .inl rfl, fun v hv => by cases hv⟩
        · obtain ⟨l, hll, hp⟩ := choose_lists (p := fun i (p : Fd) => (∃ lv fv, InAt W b (off + i * 7) (.string p.1 :: p.2.cells lv fv) ∧ p.2.At W All lv fv) ∧ p.2.n64) len' fun i hi => by
            obtain ⟨cs', z, g1, g2⟩ := hel i hi
            obtain ⟨z0, z1, q, rfl, hlen7, j0, j1⟩ := trod_two Try.underlying68 g2
            rw [cellsField] at hlen7
            match cs', hlen7 with
            | [d0, d1, d2, d3, d4, d5, d6], _ =>
              have j0 : DataW.trod enc Try.prog W base sp held q 9 ([d0, d1, d2, d3, d4, d5, d6].take (Try.prog.cellsOf 9)) = some z0 := j0
              have j1 : DataW.trod enc Try.prog W base sp held q 26 ([d1, d2, d3, d4, d5, d6].take (Try.prog.cellsOf 26)) = some z1 := j1
              rw [show Try.prog.cellsOf 9 = 1 by kernel_rfl] at j0
              rw [cellsVal] at j1
              obtain ⟨nm, e6, _, _⟩ := DataW.trod_string Try.underlying9 (show DataW.trod enc Try.prog W base sp held q 9 [d0] = some z0 from j0)
              have e6 : d0 = .string nm := by
                have : [d0] = [.string nm] := e6
                simpa using this
              obtain ⟨v, lv, fv, q1, q2, q3, _⟩ := ih q (by omega) (show DataW.trod enc Try.prog W base sp held q 26 [d1, d2, d3, d4, d5, d6] = some z1 from j1)
              exact ⟨(nm, v), ⟨lv, fv, by rw [e6, q1] at g1; exact g1, q2⟩, q3⟩
          refine ⟨l, hll, .inr ⟨b, off, ea, trivial, hb, FCells.mk fun i hi => (hp i hi).1⟩, fun v hv => ?_⟩
          obtain ⟨i, hi, rfl⟩ := List.getElem_of_mem hv
          exact (hp i hi).2
      subst hll hfl
      exact ⟨.mk k y nn t l f, .slice a l.length c, .slice a' f.length c', rfl, V.at_iff.2 ⟨⟨a, c, rfl, hl, hm, hlc.1⟩, ⟨a', c', rfl, hl', hm', hfc.1⟩⟩, ⟨wf_is64 w2, n64L_iff.2 hlc.2, n64F_iff.2 hfc.2⟩, wf_is64 w0⟩

end Go.Proofs.Ytacphlceggbfcaa
