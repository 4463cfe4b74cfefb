/-
  A slice of parts that came in, opened into its cells; and the law's test that the parts are few.
-/
import Derived.Test.YtecejmefnbejhaaParts
import Derived.Test.YtecejmefnbejhaaIsRow
import Derived.Lib.SmallJoins
import Derived.Deep.Slices
namespace Go.Proofs.Ytecejmefnbejhaa
open Go.ChangeShapes Go.WideShapes Go.ChangeAt Go.RowKit Go.Deep Go.Joins

instance : Inhabited Part := ⟨⟨0, 0, ⟨#[]⟩, false⟩⟩

theorem cellsPart : Try.prog.cellsOf 27 = 4 := by kernel_rfl

/-- What a walk is told of a slice of parts that came in. -/
def PartRow (w : World) (a : Option Addr) (len : Nat) (ps : List Part) : Prop :=
  ps.length = len ∧ len ≤ 9223372036854775807 ∧ (len = 0 ∨ ∃ b off, a = some ⟨b, off, none⟩ ∧ b < w.heap.size ∧ PartsAt w b off ps)

theorem part_of {H : Type} {enc : TypeId × Value → H} {W : World} {base : Nat} {sp : Nat → Bool} {held : Bool} {n : Nat} {cs : List Value} {x : DataW H × List MemPlace}
    (h : DataW.trod enc Try.prog W base sp held n 27 cs = some x) : ∃ p : Part, cs = [.int .i64 p.kind, .int .i64 p.n, .string p.s, .bool p.yes] ∧ p.n ≤ 9223372036854775807 := by
  obtain ⟨y0, y1, y2, y3, m, _, hl, h0, h1, h2, h3⟩ := trod_struct4 Try.underlying27 h
  rw [cellsPart] at hl
  match cs, hl with
  | [c0, c1, c2, c3], _ =>
    obtain ⟨k, e0, _, _⟩ := DataW.trod_int Try.underlying3 h0
    obtain ⟨v, e1, _, hw⟩ := DataW.trod_int Try.underlying3 h1
    obtain ⟨s, e2, _, _⟩ := DataW.trod_string Try.underlying9 h2
    obtain ⟨y, e3, _⟩ := DataW.trod_bool Try.underlying4 h3
    refine ⟨⟨k, v, s, y⟩, ?_, ?_⟩
    · have f0 : c0 = .int .i64 k := by
        have : [c0] = [.int .i64 k] := e0
        simpa using this
      have f1 : c1 = .int .i64 v := by
        have : [c1] = [.int .i64 v] := e1
        simpa using this
      have f2 : c2 = .string s := by
        have : [c2] = [.string s] := e2
        simpa using this
      have f3 : c3 = .bool y := by
        have : [c3] = [.bool y] := e3
        simpa using this
      rw [f0, f1, f2, f3]
    · have h : -9223372036854775808 ≤ v ∧ v ≤ 9223372036854775807 := by simpa [Lit.wf, IntKind.min, IntKind.max, IntKind.signed, IntKind.bits] using hw
      exact h.2

theorem partRow_of {H : Type} {enc : TypeId × Value → H} {W : World} {a : Option Addr} {len cap : Nat} {base : Nat} {sp : Bool} {d : DataW H} {pl : List MemPlace}
    (h : DataW.Trod enc Try.prog W base (fun _ => true) sp 23 (.slice a len cap) d pl) : ∃ ps, PartRow W a len ps := by
  obtain ⟨fuel, hf⟩ := h
  rcases open_slice Try.underlying23 hf with ⟨hcs, _⟩ | ⟨x, l, c, m, n, D, Pl, hcs, _, hl, hmx, hm, _, hx⟩
  · simp [Value.cells] at hcs
    obtain ⟨rfl, rfl, rfl⟩ := hcs
    exact ⟨[], rfl, by omega, .inl rfl⟩
  · simp [Value.cells] at hcs
    obtain ⟨rfl, rfl, rfl⟩ := hcs
    by_cases h0 : len = 0
    · subst h0
      exact ⟨[], rfl, by omega, .inl rfl⟩
    · have hm' : len ≤ m := by rw [hm]; simpa using hl
      obtain ⟨f, hfp⟩ := choose_lt (n := len) (p := fun i (p : Part) => (∀ j v, [Value.int .i64 p.kind, .int .i64 p.n, .string p.s, .bool p.yes][j]? = some v → W.cell? ((x.add (i * 4)).add j) = some v) ∧ p.n ≤ 9223372036854775807) (fun i hi => by
        obtain ⟨cs', h1, h2⟩ := hx i (by omega)
        obtain ⟨p, hp, hpn⟩ := part_of h2
        rw [cellsPart] at h1
        obtain ⟨_, hlen, hc⟩ := World.cells?_some h1
        refine ⟨p, fun j v hj => ?_, hpn⟩
        rw [← hp] at hj
        have hj4 : j < 4 := by
          have := (List.getElem?_eq_some_iff.1 hj).1
          omega
        rw [hc j hj4, hj])
      have hspot : x.spot = none := by
        have h1 := (hfp 0 (by omega)).1 0 _ rfl
        simpa [Addr.add] using World.cell?_spot h1
      obtain ⟨b, off, spot⟩ := x
      have hspot : spot = none := hspot
      subst hspot
      have hat : ∀ i j, ((⟨b, off, none⟩ : Addr).add (i * 4)).add j = ⟨b, off + i * 4 + j, none⟩ := fun i j => by
        unfold Addr.add
        by_cases h1 : i * 4 = 0 <;> by_cases h2 : j = 0 <;> simp [h1, h2]
      have hcell : ∀ i, i < len → PartIn W b (off + i * 4) (f i) ∧ (f i).n ≤ 9223372036854775807 := fun i hi => by
        obtain ⟨h1, h2⟩ := hfp i hi
        refine ⟨⟨?_, ?_, ?_, ?_⟩, h2⟩
        · have := h1 0 _ rfl; rwa [hat] at this
        · have := h1 1 _ rfl; rwa [hat] at this
        · have := h1 2 _ rfl; rwa [hat] at this
        · have := h1 3 _ rfl; rwa [hat] at this
      refine ⟨(List.range len).map f, by simp, by unfold maxLen at hmx; omega, .inr ⟨b, off, rfl, ?_, ?_⟩⟩
      · exact World.block_lt_of_cell? W _ (hcell 0 (by omega)).1.1
      · intro i hi
        have hi' : i < len := by simpa using hi
        have e : ((List.range len).map f)[i] = f i := by simp
        rw [e]
        exact hcell i hi'

def fewB (ps : List Part) : Bool := decide ((∀ p ∈ ps, p.s.size ≤ 300) ∧ ps.length ≤ 20)

set_option maxHeartbeats 800000 in
theorem few_any (b off : Nat) (ps : List Part) (cap : Nat) (w : World) (hbw : b < w.heap.size) (hps : PartsAt w b off ps) (hpl : ps.length ≤ 9223372036854775807) :
    Calls Try.prog 11 #[.slice (some ⟨b, off, none⟩) ps.length cap] w fun e w' => e = .returned (.bool (fewB ps)) ∧ Below w.heap.size w w' := by
  go_enter Try.func11, Try.ntmps11
  go_wp2
  go_loopw [7] (fun c wr => ∃ k : Nat, k ≤ ps.length ∧ c = .int .i64 k ∧ (∀ i (h : i < ps.length), i < k → ps[i].s.size ≤ 300) ∧ Below w.heap.size w wr) (fun c _ => ps.length - (intOf c).toNat)
  case atStart => exact ⟨0, Nat.zero_le _, rfl, fun i _ h => by omega, Below.refl _ _⟩
  case round =>
    obtain ⟨k, hk, rfl, hall, hb⟩ := hrel
    have hz := hb.size
    have HALL := Lib.hid hall
    clear hall
    by_cases hlt : k < ps.length
    · obtain ⟨⟨hc0, hc1, hc2, hc3⟩, _⟩ := hps k hlt
      have d0 := (hb.cell (p := ⟨b, off + k * 4, none⟩) hbw).trans hc0
      have d1 := (hb.cell (p := ⟨b, off + k * 4 + 1, none⟩) hbw).trans hc1
      have d2 := (hb.cell (p := ⟨b, off + k * 4 + 2, none⟩) hbw).trans hc2
      have d3 := (hb.cell (p := ⟨b, off + k * 4 + 3, none⟩) hbw).trans hc3
      have hno : 300 < ps[k].s.size → Hid (fewB ps = false) := fun h => Lib.hid (by
        unfold fewB
        rw [decide_eq_false_iff_not]
        rintro ⟨h1, _⟩
        have := h1 ps[k] (List.getElem_mem _)
        omega)
      obtain ⟨p, hp⟩ : ∃ p, p = ps[k] := ⟨_, rfl⟩
      rw [← hp] at d0 d1 d2 d3 hno
      have HP := Lib.hid hp
      clear hc0 hc1 hc2 hc3 hps hp
      by_cases h3 : 300 < p.s.size
      · have h3' : (300 : Int) < (p.s.size : Int) := by omega
        have HF := hno h3
        clear hno h3
        go_wp2
        go_ret
        exact ⟨by rw [HF.out]; rfl, hb.alloc hz _⟩
      · have h3' : ¬ (300 : Int) < (p.s.size : Int) := by omega
        have H3 := Lib.hid h3
        clear hno h3
        go_wp2
        go_roundw
        case rel =>
          refine ⟨k + 1, by omega, by go_num, fun i hi hik => ?_, hb.alloc hz _⟩
          by_cases e : i = k
          · subst e
            have h1 := H3.out
            rw [HP.out] at h1
            omega
          · exact HALL.out i hi (by omega)
        case measure => simp [intOf]; omega
    · have hge : ¬ (k : Int) < (ps.length : Int) := by omega
      have hfe : Hid (fewB ps = decide ((ps.length : Int) ≤ 20)) := Lib.hid (by
        unfold fewB
        rw [Bool.eq_iff_iff, decide_eq_true_eq, decide_eq_true_eq]
        constructor
        · rintro ⟨_, h⟩; omega
        · intro h
          refine ⟨fun p hp => ?_, by omega⟩
          obtain ⟨i, hi, rfl⟩ := List.getElem_of_mem hp
          exact HALL.out i hi (by omega))
      clear hlt
      go_wp2
      go_ret
      exact ⟨by rw [hfe.out]; rfl, hb⟩

theorem few_empty (a : Option Addr) (cap : Nat) (w : World) :
    Calls Try.prog 11 #[.slice a 0 cap] w fun e w' => e = .returned (.bool true) ∧ Below w.heap.size w w' := by
  go_enter Try.func11, Try.ntmps11
  go_wp2
  refine wp_loop_rounds 1 ?_
  rw [rounds_succ]
  go_wp2
  go_ret
  exact ⟨rfl, Below.refl _ _⟩

end Go.Proofs.Ytecejmefnbejhaa
