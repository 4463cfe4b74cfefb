/-
  Writes, and lists of writes, among a law's arguments, with the form's own reach: each text that is met is no longer than that.
-/
import Derived.Test.YtcebnoapgceodaaStWr
import Derived.SizedLaws
namespace Go.Proofs.Ytcebnoapgceodaa
open Go.ChangeShapes Go.WideShapes Go.ChangeAt Go.RowKit Go.Deep Go.Joins

set_option linter.unusedVariables false
set_option linter.unusedSimpArgs false

theorem wAll_mem {H : Type} {P : Program} {e : TypeId} : ∀ {l : List (DataW H)} {d : DataW H}, d ∈ l → ∀ n ∈ d.weights P e, n ∈ DataW.weightsAll P e l
  | d' :: r, d, hd, n, hn => by
    simp only [DataW.weightsAll, List.mem_append]
    rcases List.mem_cons.1 hd with rfl | h
    · exact Or.inl hn
    · exact Or.inr (wAll_mem h n hn)

/-- the texts of writes are within the reach -/
def SizedW (ws : List Wr) : Prop := ∀ x ∈ ws, x.key.size ≤ reachBytes ∧ x.val.size ≤ reachBytes

set_option maxRecDepth 100000 in
theorem wr_sz {H : Type} {enc : TypeId × Value → H} {W : World} {base : Nat} {sp : Nat → Bool} {held : Bool} {n : Nat} {cs : List Value} {x : DataW H × List MemPlace}
    (h : DataW.trod enc Try.prog W base sp held n 48 cs = some x) (hw : ∀ q ∈ x.1.weights Try.prog 48, q ≤ reachBytes) : ∃ v : Wr, cs = wrcells v ∧ v.key.size ≤ reachBytes ∧ v.val.size ≤ reachBytes := by
  obtain ⟨v, hv, _⟩ := wr_of h
  obtain ⟨y0, y1, y2, m, e, hl, h0, h1, h2⟩ := trod_struct3 Try.underlying48 h
  subst hv
  obtain ⟨k, e0, e0', _⟩ := DataW.trod_string Try.underlying9 h0
  obtain ⟨s, e1, e1', _⟩ := DataW.trod_string Try.underlying9 h1
  have f0 : v.key = k := by
    have : [Value.string v.key] = [.string k] := e0
    simpa using this
  have f1 : v.val = s := by
    have : [Value.string v.val] = [.string s] := e1
    simpa using this
  subst e
  have hin : ∀ q, q = k.data.toList.length ∨ q = s.data.toList.length → q ∈ (DataW.agg [y0.1, y1.1, y2.1]).weights Try.prog 48 := fun q hq => by
    simp only [DataW.weights, Try.underlying48]
    rw [e0', e1']
    simp [DataW.weightsEach, DataW.weights]
    rcases hq with hq | hq
    · exact .inl (by simpa using hq)
    · exact .inr (.inl (by simpa using hq))
  refine ⟨v, rfl, ?_, ?_⟩
  · have := hw _ (hin _ (.inl rfl))
    rw [f0]
    simpa using this
  · have := hw _ (hin _ (.inr rfl))
    rw [f1]
    simpa using this

set_option linter.unusedSimpArgs false in
theorem wrs_sz {H : Type} {enc : TypeId × Value → H} {W : World} {base : Nat} {sp : Nat → Bool} {held : Bool} {fuel : Nat} {cs : List Value} {x : DataW H × List MemPlace}
    (hf : DataW.trod enc Try.prog W base sp held fuel 22 cs = some x) (hw : ∀ q ∈ x.1.weights Try.prog 22, q ≤ reachBytes) : ∃ a len cap, cs = [.slice a len cap] ∧ ∃ ws, WrsCame W a len cap ws ∧ SizedW ws := by
  rcases open_slice Try.underlying22 hf with ⟨hcs, _⟩ | ⟨x, l, c, m, n, D, Pl, hcs, _, hl, hmx, hm, hxe, hx⟩
  · exact ⟨none, 0, 0, hcs, [], ⟨rfl, Nat.le_refl _, by omega, .inl rfl, by simp⟩, fun x hx => by simp at hx⟩
  · refine ⟨some x, l, c, hcs, ?_⟩
    have hmx' : c ≤ 9223372036854775807 := by unfold maxLen at hmx; exact hmx
    by_cases h0 : l = 0
    · subst h0
      exact ⟨[], ⟨rfl, hl, hmx', .inl rfl, by simp⟩, fun x hx => by simp at hx⟩
    · have hm' : l ≤ m := by rw [hm]; split <;> omega
      have hwi : ∀ i, i < l → ∀ q ∈ (D i).weights Try.prog 48, q ≤ reachBytes := fun i hi q hq => by
        refine hw q ?_
        rw [hxe]
        simp only [DataW.weights, Try.underlying22, List.mem_cons, List.mem_append]
        exact .inr (.inl (wAll_mem (List.mem_map.2 ⟨i, List.mem_range.2 hi, rfl⟩) q hq))
      obtain ⟨f, hfp⟩ := choose_lt (n := l) (p := fun i (p : Wr) => (∀ j v, (wrcells p)[j]? = some v → W.cell? ((x.add (i * 3)).add j) = some v) ∧ p.key.size ≤ reachBytes ∧ p.val.size ≤ reachBytes) (fun i hi => by
        obtain ⟨cs', h1, h2⟩ := hx i (by omega)
        obtain ⟨p, hp, hp2⟩ := wr_sz h2 (hwi i hi)
        rw [cellsWr] at h1
        obtain ⟨_, hlen, hc⟩ := World.cells?_some h1
        refine ⟨p, fun j v hj => ?_, hp2⟩
        rw [← hp] at hj
        have hj4 : j < 3 := by
          have := (List.getElem?_eq_some_iff.1 hj).1
          omega
        rw [hc j hj4, hj])
      have hspot : x.spot = none := by
        have h1 := (hfp 0 (by omega)).1 0 _ rfl
        simpa [Addr.add] using World.cell?_spot h1
      obtain ⟨b, off, spot⟩ := x
      have hspot : spot = none := hspot
      subst hspot
      have hat : ∀ i j, ((⟨b, off, none⟩ : Addr).add (i * 3)).add j = ⟨b, off + i * 3 + j, none⟩ := fun i j => by
        unfold Addr.add
        by_cases h1 : i * 3 = 0 <;> by_cases h2 : j = 0 <;> simp [h1, h2]
      have hcell : ∀ i, i < l → WrIn W b (off + i * 3) (f i) := fun i hi => by
        have h1 := (hfp i hi).1
        refine ⟨?_, ?_, ?_⟩
        · have := h1 0 _ rfl; rwa [hat] at this
        · have := h1 1 _ rfl; rwa [hat] at this
        · have := h1 2 _ rfl; rwa [hat] at this
      have hsz : SizedW ((List.range l).map f) := fun y hy => by
        obtain ⟨i, hi, rfl⟩ := List.mem_map.1 hy
        exact (hfp i (List.mem_range.1 hi)).2
      refine ⟨(List.range l).map f, ⟨by simp, hl, hmx', .inr ⟨b, off, rfl, ?_, ?_⟩, ?_⟩, hsz⟩
      · exact World.block_lt_of_cell? W _ (hcell 0 (by omega)).1
      · intro i hi
        have hi' : i < l := by simpa using hi
        have e : ((List.range l).map f)[i] = f i := by simp
        rw [e]
        exact hcell i hi'
      · intro y hy
        have h1 := hsz y hy
        have h2 : reachBytes ≤ maxLen := by decide
        omega

/-- lists of writes in memory -/
def WwsIs (w : World) (a : Option Addr) (wss : List (List Wr)) : Prop := wss = [] ∨ ∃ b off, a = some ⟨b, off, none⟩ ∧ b < w.heap.size ∧ ∀ i (h : i < wss.length), ∃ wa wc, w.cell? ⟨b, off + i, none⟩ = some (.slice wa (wss[i]).length wc) ∧ WrsIs w wa wss[i]
theorem WwsIs.below {w w' : World} {a : Option Addr} {wss : List (List Wr)} (h : WwsIs w a wss) (hb : Below w.heap.size w w') : WwsIs w' a wss := by
  refine h.imp id ?_
  rintro ⟨b, off, e, hlt, hv⟩
  refine ⟨b, off, e, Nat.lt_of_lt_of_le hlt hb.size, fun i hi => ?_⟩
  obtain ⟨wa, wc, h0, h1⟩ := hv i hi
  exact ⟨wa, wc, (hb.cell (p := ⟨b, off + i, none⟩) hlt).trans h0, h1.below hb⟩
theorem cellsWs : Try.prog.cellsOf 22 = 1 := by kernel_rfl

/-- what a walk is told of lists of writes that came in -/
def WwsCame (w : World) (a : Option Addr) (len : Nat) (wss : List (List Wr)) : Prop := wss.length = len ∧ WwsIs w a wss ∧ ∀ ws ∈ wss, SizedW ws ∧ ws.length ≤ 9223372036854775807

theorem wws_sz {H : Type} {enc : TypeId × Value → H} {W : World} {base : Nat} {sp : Nat → Bool} {held : Bool} {fuel : Nat} {cs : List Value} {x : DataW H × List MemPlace}
    (hf : DataW.trod enc Try.prog W base sp held fuel 23 cs = some x) (hw : ∀ q ∈ x.1.weights Try.prog 23, q ≤ reachBytes) : ∃ a len cap, cs = [.slice a len cap] ∧ ∃ wss, WwsCame W a len wss := by
  rcases open_slice Try.underlying23 hf with ⟨hcs, _⟩ | ⟨x, l, c, m, n, D, Pl, hcs, _, hl, hmx, hm, hxe, hx⟩
  · exact ⟨none, 0, 0, hcs, [], rfl, .inl rfl, by simp⟩
  · refine ⟨some x, l, c, hcs, ?_⟩
    by_cases h0 : l = 0
    · subst h0
      exact ⟨[], rfl, .inl rfl, by simp⟩
    · have hm' : l ≤ m := by rw [hm]; split <;> omega
      have hwi : ∀ i, i < l → ∀ q ∈ (D i).weights Try.prog 22, q ≤ reachBytes := fun i hi q hq => by
        refine hw q ?_
        rw [hxe]
        simp only [DataW.weights, Try.underlying23, List.mem_cons, List.mem_append]
        exact .inr (.inl (wAll_mem (List.mem_map.2 ⟨i, List.mem_range.2 hi, rfl⟩) q hq))
      obtain ⟨f, hfp⟩ := choose_lt (n := l) (p := fun i (p : List Wr) => (∃ wa wc, W.cell? (x.add i) = some (.slice wa p.length wc) ∧ WrsIs W wa p) ∧ SizedW p ∧ p.length ≤ 9223372036854775807) (fun i hi => by
        obtain ⟨cs', h1, h2⟩ := hx i (by omega)
        obtain ⟨wa, wl, wc, e, ws, hws, hsz⟩ := wrs_sz h2 (hwi i hi)
        rw [cellsWs] at h1
        obtain ⟨_, hlen, hc⟩ := World.cells?_some h1
        have h3 := hc 0 (by omega)
        rw [e] at h3
        refine ⟨ws, ⟨wa, wc, ?_, hws.2.2.2.1⟩, hsz, by have := hws.1; have := hws.2.1; have := hws.2.2.1; omega⟩
        rw [hws.1]
        simpa [Addr.add] using h3)
      have hspot : x.spot = none := by
        obtain ⟨⟨wa, wc, h1, _⟩, _⟩ := hfp 0 (by omega)
        simpa [Addr.add] using World.cell?_spot h1
      obtain ⟨b, off, spot⟩ := x
      have hspot : spot = none := hspot
      subst hspot
      have hat : ∀ i, (⟨b, off, none⟩ : Addr).add i = ⟨b, off + i, none⟩ := fun i => by
        unfold Addr.add
        by_cases h1 : i = 0 <;> simp [h1]
      refine ⟨(List.range l).map f, by simp, .inr ⟨b, off, rfl, ?_, ?_⟩, ?_⟩
      · obtain ⟨⟨wa, wc, h1, _⟩, _⟩ := hfp 0 (by omega)
        have := World.block_lt_of_cell? W _ h1
        simpa [Addr.add] using this
      · intro i hi
        have hi' : i < l := by simpa using hi
        have e : ((List.range l).map f)[i] = f i := by simp
        rw [e]
        obtain ⟨⟨wa, wc, h1, h2⟩, _⟩ := hfp i hi'
        exact ⟨wa, wc, by rw [← hat]; exact h1, h2⟩
      · intro y hy
        obtain ⟨i, hi, rfl⟩ := List.mem_map.1 hy
        exact (hfp i (List.mem_range.1 hi)).2

/-- among a law's arguments -/
theorem wrs_arg {H : Type} {enc : TypeId × Value → H} {W : World} {base : Nat} {sp : Nat → Bool} {held : Bool} {a : Option Addr} {len cap : Nat} {d : DataW H} {ps : List MemPlace}
    (h : DataW.Trod enc Try.prog W base sp held 22 (.slice a len cap) d ps) (hw : ∀ q ∈ d.weights Try.prog 22, q ≤ reachBytes) : ∃ ws, WrsCame W a len cap ws ∧ SizedW ws := by
  obtain ⟨fuel, hf⟩ := h
  obtain ⟨a', len', cap', e, h⟩ := wrs_sz hf hw
  have e2 : Value.slice a len cap = .slice a' len' cap' := by simpa [Value.cells] using e
  injection e2 with e0 e1 e2
  subst e0; subst e1; subst e2
  exact h
theorem wws_arg {H : Type} {enc : TypeId × Value → H} {W : World} {base : Nat} {sp : Nat → Bool} {held : Bool} {a : Option Addr} {len cap : Nat} {d : DataW H} {ps : List MemPlace}
    (h : DataW.Trod enc Try.prog W base sp held 23 (.slice a len cap) d ps) (hw : ∀ q ∈ d.weights Try.prog 23, q ≤ reachBytes) : ∃ wss, WwsCame W a len wss := by
  obtain ⟨fuel, hf⟩ := h
  obtain ⟨a', len', cap', e, h⟩ := wws_sz hf hw
  have e2 : Value.slice a len cap = .slice a' len' cap' := by simpa [Value.cells] using e
  injection e2 with e0 e1 e2
  subst e0; subst e1; subst e2
  exact h

end Go.Proofs.Ytcebnoapgceodaa
