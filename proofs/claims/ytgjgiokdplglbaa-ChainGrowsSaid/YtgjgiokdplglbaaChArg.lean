/-
  A chain and a version among a law's arguments; the walk of mailbaglaw07.ChainPuts at every argument.
-/
import Derived.Test.YtgjgiokdplglbaaChPuts2
import Derived.Test.YtgjgiokdplglbaaIsRow
import Derived.Lib.SmallJoins
import Derived.Deep.Slices
import Derived.Deep.Strs
namespace Go.Proofs.Ytgjgiokdplglbaa
open Go.ChangeShapes Go.WideShapes Go.ChangeAt Go.RowKit Go.Deep Go.Joins

theorem cellsVer : Try.prog.cellsOf 64 = 3 := by kernel_rfl

set_option maxRecDepth 100000 in
theorem ver_of {H : Type} {enc : TypeId × Value → H} {W : World} {base : Nat} {sp : Nat → Bool} {held : Bool} {n : Nat} {cs : List Value} {x : DataW H × List MemPlace}
    (h : DataW.trod enc Try.prog W base sp held n 64 cs = some x) : ∃ v : Ver, cs = vcells v := by
  obtain ⟨y0, y1, y2, m, _, hl, h0, h1, h2⟩ := trod_struct3 Try.underlying64 h
  rw [cellsVer] at hl
  obtain ⟨c0, c1, c2, rfl⟩ : ∃ c0 c1 c2, cs = [c0, c1, c2] := by
    rcases cs with _ | ⟨c0, _ | ⟨c1, _ | ⟨c2, _ | ⟨c3, r⟩⟩⟩⟩
    · simp at hl
    · simp at hl
    · simp at hl
    · exact ⟨c0, c1, c2, rfl⟩
    · simp at hl
  clear hl
  obtain ⟨k, e0, _, _⟩ := DataW.trod_int Try.underlying3 h0
  obtain ⟨s, e2, _, _⟩ := DataW.trod_string Try.underlying9 h1
  obtain ⟨y, e3, _⟩ := DataW.trod_bool Try.underlying4 h2
  refine ⟨⟨k, s, y⟩, ?_⟩
  have f0 : c0 = .int .i64 k := by
    have : [c0] = [.int .i64 k] := e0
    simpa using this
  have f1 : c1 = .string s := by
    have : [c1] = [.string s] := e2
    simpa using this
  have f2 : c2 = .bool y := by
    have : [c2] = [.bool y] := e3
    simpa using this
  rw [f0, f1, f2]
  rfl

theorem ver_arg {H : Type} {enc : TypeId × Value → H} {W : World} {base : Nat} {sp : Nat → Bool} {held : Bool} {v : Value} {d : DataW H} {ps : List MemPlace}
    (h : DataW.Trod enc Try.prog W base sp held 64 v d ps) : ∃ s t g, v = .agg #[.int .i64 s, .string t, .bool g] := by
  obtain ⟨fuel, hf⟩ := h
  obtain ⟨x, hc⟩ := ver_of hf
  refine ⟨x.seq, x.val, x.gone, ?_⟩
  cases v with
  | agg cs =>
    have hc : cs.toList = vcells x := by simpa [Value.cells] using hc
    rw [show cs = (vcells x).toArray by rw [← hc]]
    rfl
  | _ => simp [Value.cells, vcells] at hc

/-- What a walk is told of a chain that came in. -/
def ChCame (w : World) (a : Option Addr) (len cap : Nat) (vs : List Ver) : Prop := vs.length = len ∧ len ≤ cap ∧ cap ≤ 9223372036854775807 ∧ ChIs w a vs

theorem ch_arg {H : Type} {enc : TypeId × Value → H} {W : World} {a : Option Addr} {len cap : Nat} {base : Nat} {sp : Bool} {d : DataW H} {pl : List MemPlace}
    (h : DataW.Trod enc Try.prog W base (fun _ => true) sp 62 (.slice a len cap) d pl) : ∃ vs, ChCame W a len cap vs := by
  obtain ⟨fuel, hf⟩ := h
  rcases open_slice Try.underlying62 hf with ⟨hcs, _⟩ | ⟨x, l, c, m, n, D, Pl, hcs, _, hl, hmx, hm, _, hx⟩
  · simp [Value.cells] at hcs
    obtain ⟨rfl, rfl, rfl⟩ := hcs
    exact ⟨[], rfl, Nat.le_refl _, by omega, by simp, .inl rfl⟩
  · simp [Value.cells] at hcs
    obtain ⟨rfl, rfl, rfl⟩ := hcs
    have hmx' : cap ≤ 9223372036854775807 := by unfold maxLen at hmx; exact hmx
    by_cases h0 : len = 0
    · subst h0
      exact ⟨[], rfl, hl, hmx', by simp, .inl rfl⟩
    · have hm' : len ≤ m := by rw [hm]; simpa using hl
      obtain ⟨f, hfp⟩ := choose_lt (n := len) (p := fun i (p : Ver) => ∀ j v, (vcells p)[j]? = some v → W.cell? ((x.add (i * 3)).add j) = some v) (fun i hi => by
        obtain ⟨cs', h1, h2⟩ := hx i (by omega)
        obtain ⟨p, hp⟩ := ver_of h2
        rw [cellsVer] at h1
        obtain ⟨_, hlen, hc⟩ := World.cells?_some h1
        refine ⟨p, fun j v hj => ?_⟩
        rw [← hp] at hj
        have hj4 : j < 3 := by
          have := (List.getElem?_eq_some_iff.1 hj).1
          omega
        rw [hc j hj4, hj])
      have hspot : x.spot = none := by
        have h1 := hfp 0 (by omega) 0 _ rfl
        simpa [Addr.add] using World.cell?_spot h1
      obtain ⟨b, off, spot⟩ := x
      have hspot : spot = none := hspot
      subst hspot
      have hat : ∀ i j, ((⟨b, off, none⟩ : Addr).add (i * 3)).add j = ⟨b, off + i * 3 + j, none⟩ := fun i j => by
        unfold Addr.add
        by_cases h1 : i * 3 = 0 <;> by_cases h2 : j = 0 <;> simp [h1, h2]
      have hcell : ∀ i, i < len → VerIn W b (off + i * 3) (f i) := fun i hi => by
        have h1 := hfp i hi
        refine ⟨?_, ?_, ?_⟩
        · have := h1 0 _ rfl; rwa [hat] at this
        · have := h1 1 _ rfl; rwa [hat] at this
        · have := h1 2 _ rfl; rwa [hat] at this
      refine ⟨(List.range len).map f, by simp, hl, hmx', by simp; omega, .inr ⟨b, off, rfl, ?_, ?_⟩⟩
      · exact World.block_lt_of_cell? W _ (hcell 0 (by omega)).1
      · intro i hi
        have hi' : i < len := by simpa using hi
        have e : ((List.range len).map f)[i] = f i := by simp
        rw [e]
        exact hcell i hi'

end Go.Proofs.Ytgjgiokdplglbaa

namespace Go.Proofs.Ytgjgiokdplglbaa.chainPuts
open Go.RowKit

theorem walk_long {w : World} (a : Option Addr) (len cap : Nat) (h : 60 < len) (s : Int) (t : ByteArray) (g : Bool) :
    Calls Try.prog 9 #[.slice a len cap, .agg #[.int .i64 s, .string t, .bool g]] w fun e w' => e = .returned (.bool true) ∧ Below w.heap.size w w' := by
  have hle : (60 : Int) < (len : Int) := by omega
  have HB := Lib.hid ((Below.refl w.heap.size w).alloc (Nat.le_refl _) (.cells #[.int .i64 s, .string t, .bool g] 64))
  go_enter Try.func9, Try.ntmps9
  go_wp2_with fail
  refine (ch_head _).mono ?_
  rintro e w1 ⟨rfl, hb1⟩
  have H1 := Lib.hid (HB.out.trans (hb1.mono (by simp)))
  clear hb1
  go_wp2
  go_ret
  exact ⟨rfl, H1.out⟩

theorem walk_wrong {w : World} (a : Option Addr) (cap : Nat) (vs : List Ver) (hc : ChIs w a vs) (hle : vs.length ≤ 60) (hR : rightC vs = false) (s : Int) (t : ByteArray) (g : Bool) :
    Calls Try.prog 9 #[.slice a vs.length cap, .agg #[.int .i64 s, .string t, .bool g]] w fun e w' => e = .returned (.bool true) ∧ Below w.heap.size w w' := by
  have HB := Lib.hid ((Below.refl w.heap.size w).alloc (Nat.le_refl _) (.cells #[.int .i64 s, .string t, .bool g] 64))
  have HC := Lib.hid hc
  have HR := Lib.hid hR
  clear hc hR
  have hle' : ¬ (60 : Int) < (vs.length : Int) := by omega
  go_enter Try.func9, Try.ntmps9
  go_wp2_with fail
  refine (ch_head _).mono ?_
  rintro e w1 ⟨rfl, hb1⟩
  have H1 := Lib.hid (HB.out.trans (hb1.mono (by simp)))
  clear hb1
  have hr := lright_any a cap vs w1 (HC.out.below H1.out)
  rw [HR.out] at hr
  have HRR := Lib.hid hr
  clear hr
  go_wp2_with fail
  refine HRR.out.mono ?_
  rintro e w2 ⟨rfl, hb2⟩
  have H2 := Lib.hid (H1.out.trans (hb2.mono H1.out.size))
  clear hb2 HRR
  go_wp2
  go_ret
  exact ⟨rfl, H2.out⟩

theorem walk {w : World} (a : Option Addr) (len cap : Nat) (hc : ∃ vs, ChCame w a len cap vs) (s : Int) (t : ByteArray) (g : Bool) :
    Calls Try.prog 9 #[.slice a len cap, .agg #[.int .i64 s, .string t, .bool g]] w fun e w' => e = .returned (.bool true) ∧ Below w.heap.size w w' := by
  obtain ⟨vs, rfl, h1, h2, h3⟩ := hc
  by_cases hle : vs.length ≤ 60
  · cases hR : rightC vs
    · exact walk_wrong a cap vs h3 hle hR s t g
    · cases hf : Ver.folB ⟨s, t, g⟩ (lastI vs)
      · exact walk_no a cap vs h3 hle hR s t g hf
      · exact walk_yes a cap vs h3 h1 hle hR s t g hf
  · exact walk_long a _ cap (by omega) s t g

end Go.Proofs.Ytgjgiokdplglbaa.chainPuts
