/-
  Acts among a law's arguments; Few.
-/
import Derived.Test.YtkeopkhbcmeplaaMSame
import Derived.Lib.SmallJoins
import Derived.Deep.Slices
import Derived.Deep.Strs
namespace Go.Proofs.Ytkeopkhbcmeplaa
open Go.ChangeShapes Go.WideShapes Go.ChangeAt Go.RowKit Go.Deep Go.Joins

instance : Inhabited ActS := ⟨⟨0, 0, ⟨#[]⟩, ⟨#[]⟩, ⟨#[]⟩⟩⟩

def acells (a : ActS) : List Value := [.int .i64 a.k, .int .i64 a.n, .string a.name, .string a.dest, .string a.data]

theorem cellsAct : Try.prog.cellsOf 32 = 5 := by kernel_rfl

/-- what is known of an act that came in -/
def ActS.ok (a : ActS) : Prop := a.name.size ≤ maxLen ∧ a.dest.size ≤ maxLen ∧ a.data.size ≤ maxLen ∧ a.n ≤ 9223372036854775807

theorem trod_struct5 {P : Program} {H : Type} {enc : TypeId × Value → H} {w : World} {base : Nat} {spare : Nat → Bool} {held : Bool} {t : TypeId} {f0 f1 f2 f3 f4 : Field} {fuel : Nat} {cs : List Value} {x : DataW H × List MemPlace}
    (ht : P.underlying t = some (.struct #[f0, f1, f2, f3, f4])) (h : DataW.trod enc P w base spare held fuel t cs = some x) :
    ∃ y0 y1 y2 y3 y4 n, cs.length = P.cellsOf t ∧ DataW.trod enc P w base spare held n f0.type ((cs.drop f0.offset).take (P.cellsOf f0.type)) = some y0 ∧
      DataW.trod enc P w base spare held n f1.type ((cs.drop f1.offset).take (P.cellsOf f1.type)) = some y1 ∧ DataW.trod enc P w base spare held n f2.type ((cs.drop f2.offset).take (P.cellsOf f2.type)) = some y2 ∧
      DataW.trod enc P w base spare held n f3.type ((cs.drop f3.offset).take (P.cellsOf f3.type)) = some y3 ∧ DataW.trod enc P w base spare held n f4.type ((cs.drop f4.offset).take (P.cellsOf f4.type)) = some y4 := by
  obtain ⟨xs, n, _, rfl, hl, hlen, hf⟩ := DataW.trod_struct ht h
  match xs, hlen with
  | [y0, y1, y2, y3, y4], _ => exact ⟨y0, y1, y2, y3, y4, n, hl, by simpa using hf 0 f0 rfl, by simpa using hf 1 f1 rfl, by simpa using hf 2 f2 rfl, by simpa using hf 3 f3 rfl, by simpa using hf 4 f4 rfl⟩

theorem wf_le {n : Int} (h : (Lit.int .i64 n).wf = true) : n ≤ 9223372036854775807 := by
  have h2 : IntKind.i64.max = 9223372036854775807 := by kernel_rfl
  have h : (decide (IntKind.i64.min ≤ n) && decide (n ≤ IntKind.i64.max)) = true := h
  rw [Bool.and_eq_true, h2] at h
  exact of_decide_eq_true h.2

set_option maxRecDepth 100000 in
theorem act_of {H : Type} {enc : TypeId × Value → H} {W : World} {base : Nat} {sp : Nat → Bool} {held : Bool} {n : Nat} {cs : List Value} {x : DataW H × List MemPlace}
    (h : DataW.trod enc Try.prog W base sp held n 32 cs = some x) : ∃ v : ActS, cs = acells v ∧ v.ok := by
  obtain ⟨y0, y1, y2, y3, y4, m, hl, h0, h1, h2, h3, h4⟩ := trod_struct5 Try.underlying32 h
  rw [cellsAct] at hl
  obtain ⟨c0, c1, c2, c3, c4, rfl⟩ : ∃ c0 c1 c2 c3 c4, cs = [c0, c1, c2, c3, c4] := by
    rcases cs with _ | ⟨c0, _ | ⟨c1, _ | ⟨c2, _ | ⟨c3, _ | ⟨c4, _ | ⟨c5, r⟩⟩⟩⟩⟩⟩
    · simp at hl
    · simp at hl
    · simp at hl
    · simp at hl
    · simp at hl
    · exact ⟨c0, c1, c2, c3, c4, rfl⟩
    · simp at hl
  clear hl
  obtain ⟨k, e0, _, _⟩ := DataW.trod_int Try.underlying3 h0
  obtain ⟨z, e1, _, w1⟩ := DataW.trod_int Try.underlying3 h1
  obtain ⟨s2, e2, _, w2⟩ := DataW.trod_string Try.underlying9 h2
  obtain ⟨s3, e3, _, w3⟩ := DataW.trod_string Try.underlying9 h3
  obtain ⟨s4, e4, _, w4⟩ := DataW.trod_string Try.underlying9 h4
  refine ⟨⟨k, z, s2, s3, s4⟩, ?_, w2, w3, w4, wf_le w1⟩
  have f0 : c0 = .int .i64 k := by
    have : [c0] = [.int .i64 k] := e0
    simpa using this
  have f1 : c1 = .int .i64 z := by
    have : [c1] = [.int .i64 z] := e1
    simpa using this
  have f2 : c2 = .string s2 := by
    have : [c2] = [.string s2] := e2
    simpa using this
  have f3 : c3 = .string s3 := by
    have : [c3] = [.string s3] := e3
    simpa using this
  have f4 : c4 = .string s4 := by
    have : [c4] = [.string s4] := e4
    simpa using this
  rw [f0, f1, f2, f3, f4]
  rfl

/-- an act in five cells -/
def ActIn (w : World) (b o : Nat) (a : ActS) : Prop :=
  w.cell? ⟨b, o, none⟩ = some (.int .i64 a.k) ∧ w.cell? ⟨b, o + 1, none⟩ = some (.int .i64 a.n) ∧ w.cell? ⟨b, o + 2, none⟩ = some (.string a.name) ∧ w.cell? ⟨b, o + 3, none⟩ = some (.string a.dest) ∧ w.cell? ⟨b, o + 4, none⟩ = some (.string a.data)
def ActsIs (w : World) (a : Option Addr) (vs : List ActS) : Prop := vs = [] ∨ ∃ b off, a = some ⟨b, off, none⟩ ∧ b < w.heap.size ∧ ∀ i (h : i < vs.length), ActIn w b (off + i * 5) (vs[i])
/-- What a walk is told of acts that came in. -/
def ActsCame (w : World) (a : Option Addr) (len cap : Nat) (vs : List ActS) : Prop := vs.length = len ∧ len ≤ cap ∧ cap ≤ 9223372036854775807 ∧ ActsIs w a vs ∧ ∀ v ∈ vs, v.ok

theorem ActsIs.below {w w' : World} {a : Option Addr} {vs : List ActS} (h : ActsIs w a vs) (hb : Below w.heap.size w w') : ActsIs w' a vs := by
  refine h.imp id ?_
  rintro ⟨b, off, e, hlt, hv⟩
  refine ⟨b, off, e, Nat.lt_of_lt_of_le hlt hb.size, fun i hi => ?_⟩
  obtain ⟨h0, h1, h2, h3, h4⟩ := hv i hi
  exact ⟨(hb.cell (p := ⟨b, _, none⟩) hlt).trans h0, (hb.cell (p := ⟨b, _, none⟩) hlt).trans h1, (hb.cell (p := ⟨b, _, none⟩) hlt).trans h2, (hb.cell (p := ⟨b, _, none⟩) hlt).trans h3, (hb.cell (p := ⟨b, _, none⟩) hlt).trans h4⟩

theorem acts_arg {H : Type} {enc : TypeId × Value → H} {W : World} {a : Option Addr} {len cap : Nat} {base : Nat} {sp : Bool} {d : DataW H} {pl : List MemPlace}
    (h : DataW.Trod enc Try.prog W base (fun _ => true) sp 22 (.slice a len cap) d pl) : ∃ vs, ActsCame W a len cap vs := by
  obtain ⟨fuel, hf⟩ := h
  rcases open_slice Try.underlying22 hf with ⟨hcs, _⟩ | ⟨x, l, c, m, n, D, Pl, hcs, _, hl, hmx, hm, _, hx⟩
  · simp [Value.cells] at hcs
    obtain ⟨rfl, rfl, rfl⟩ := hcs
    exact ⟨[], rfl, Nat.le_refl _, by omega, .inl rfl, by simp⟩
  · simp [Value.cells] at hcs
    obtain ⟨rfl, rfl, rfl⟩ := hcs
    have hmx' : cap ≤ 9223372036854775807 := by unfold maxLen at hmx; exact hmx
    by_cases h0 : len = 0
    · subst h0
      exact ⟨[], rfl, hl, hmx', .inl rfl, by simp⟩
    · have hm' : len ≤ m := by rw [hm]; simpa using hl
      obtain ⟨f, hfp⟩ := choose_lt (n := len) (p := fun i (p : ActS) => (∀ j v, (acells p)[j]? = some v → W.cell? ((x.add (i * 5)).add j) = some v) ∧ p.ok) (fun i hi => by
        obtain ⟨cs', h1, h2⟩ := hx i (by omega)
        obtain ⟨p, hp, hok⟩ := act_of h2
        rw [cellsAct] at h1
        obtain ⟨_, hlen, hc⟩ := World.cells?_some h1
        refine ⟨p, fun j v hj => ?_, hok⟩
        rw [← hp] at hj
        have hj4 : j < 5 := by
          have := (List.getElem?_eq_some_iff.1 hj).1
          omega
        rw [hc j hj4, hj])
      have hspot : x.spot = none := by
        have h1 := (hfp 0 (by omega)).1 0 _ rfl
        simpa [Addr.add] using World.cell?_spot h1
      obtain ⟨b, off, spot⟩ := x
      have hspot : spot = none := hspot
      subst hspot
      have hat : ∀ i j, ((⟨b, off, none⟩ : Addr).add (i * 5)).add j = ⟨b, off + i * 5 + j, none⟩ := fun i j => by
        unfold Addr.add
        by_cases h1 : i * 5 = 0 <;> by_cases h2 : j = 0 <;> simp [h1, h2]
      have hcell : ∀ i, i < len → ActIn W b (off + i * 5) (f i) := fun i hi => by
        have h1 := (hfp i hi).1
        refine ⟨?_, ?_, ?_, ?_, ?_⟩
        · have := h1 0 _ rfl; rwa [hat] at this
        · have := h1 1 _ rfl; rwa [hat] at this
        · have := h1 2 _ rfl; rwa [hat] at this
        · have := h1 3 _ rfl; rwa [hat] at this
        · have := h1 4 _ rfl; rwa [hat] at this
      refine ⟨(List.range len).map f, by simp, hl, hmx', .inr ⟨b, off, rfl, ?_, ?_⟩, ?_⟩
      · exact World.block_lt_of_cell? W _ (hcell 0 (by omega)).1
      · intro i hi
        have hi' : i < len := by simpa using hi
        have e : ((List.range len).map f)[i] = f i := by simp
        rw [e]
        exact hcell i hi'
      · intro v hv
        obtain ⟨i, hi, rfl⟩ := List.mem_map.1 hv
        exact (hfp i (by simpa using hi)).2

/-- few acts, of few bytes -/
def fewB (vs : List ActS) : Bool := decide (∀ v ∈ vs, v.data.size ≤ 100 ∧ v.name.size ≤ 60 ∧ v.dest.size ≤ 60) && decide (vs.length ≤ 40)

set_option maxHeartbeats 2000000 in
set_option maxRecDepth 100000 in
theorem few_any {w : World} (a : Option Addr) (len cap : Nat) (vs : List ActS) (h : ActsCame w a len cap vs) :
    Calls Try.prog 11 #[.slice a len cap] w fun e w' => e = .returned (.bool (fewB vs)) ∧ Below w.heap.size w w' := by
  obtain ⟨rfl, h1, h2, h3, _⟩ := h
  have HI := Lib.hid h3
  clear h3
  go_enter Try.func11, Try.ntmps11
  go_wp2
  go_loopw [7] (fun i wr => ∃ k : Nat, k ≤ vs.length ∧ i = .int .i64 k ∧ Hid (∀ j (h : j < vs.length), j < k → (vs[j]).data.size ≤ 100 ∧ (vs[j]).name.size ≤ 60 ∧ (vs[j]).dest.size ≤ 60) ∧ Hid (Below w.heap.size w wr)) (fun i _ => vs.length - (intOf i).toNat)
  case atStart => exact ⟨0, Nat.zero_le _, rfl, Lib.hid (fun _ _ h => by omega), Lib.hid (Below.refl _ _)⟩
  case round =>
    obtain ⟨k, hk, rfl, HALL, HB⟩ := hrel
    by_cases hlt : k < vs.length
    · obtain ⟨b, off, rfl, hb, hcells⟩ : ∃ b off, a = some ⟨b, off, none⟩ ∧ b < w.heap.size ∧ ∀ i (h : i < vs.length), ActIn w b (off + i * 5) (vs[i]) := by
        rcases HI.out with rfl | h
        · simp at hlt
        · exact h
      obtain ⟨c0, c1, c2, c3, c4⟩ := hcells k hlt
      replace c0 := (HB.out.cell (p := ⟨b, off + k * 5, none⟩) hb).trans c0
      replace c1 := (HB.out.cell (p := ⟨b, off + k * 5 + 1, none⟩) hb).trans c1
      replace c2 := (HB.out.cell (p := ⟨b, off + k * 5 + 2, none⟩) hb).trans c2
      replace c3 := (HB.out.cell (p := ⟨b, off + k * 5 + 3, none⟩) hb).trans c3
      replace c4 := (HB.out.cell (p := ⟨b, off + k * 5 + 4, none⟩) hb).trans c4
      have HNO : Hid (¬ ((vs[k]).data.size ≤ 100 ∧ (vs[k]).name.size ≤ 60 ∧ (vs[k]).dest.size ≤ 60) → fewB vs = false) := Lib.hid fun hq => by
        unfold fewB
        rw [decide_eq_false (fun hh => hq (hh _ (List.getElem_mem hlt)))]; rfl
      have HYES : Hid (((vs[k]).data.size ≤ 100 ∧ (vs[k]).name.size ≤ 60 ∧ (vs[k]).dest.size ≤ 60) → ∀ j (h : j < vs.length), j < k + 1 → (vs[j]).data.size ≤ 100 ∧ (vs[j]).name.size ≤ 60 ∧ (vs[j]).dest.size ≤ 60) := Lib.hid fun hq j hj hjk => by
        by_cases e : j = k
        · subst e; exact hq
        · exact HALL.out j hj (by omega)
      obtain ⟨x, hx⟩ : ∃ x, x = vs[k] := ⟨_, rfl⟩
      rw [← hx] at c0 c1 c2 c3 c4 HNO HYES
      have hkl : (k : Int) < (vs.length : Int) := by omega
      have HLT := Lib.hid hlt
      have HA := Lib.hid (HB.out.alloc HB.out.size (.cells #[.int .i64 x.k, .int .i64 x.n, .string x.name, .string x.dest, .string x.data] 32))
      clear hx hcells hb hlt
      by_cases g1 : (100 : Int) < (x.data.size : Int)
      · have HF := Lib.hid (HNO.out (by omega))
        clear HNO HYES
        go_wp2
        go_ret
        exact ⟨by rw [HF.out]; rfl, HA.out⟩
      by_cases g2 : (60 : Int) < (x.name.size : Int)
      · have HF := Lib.hid (HNO.out (by omega))
        clear HNO HYES
        go_wp2
        go_ret
        exact ⟨by rw [HF.out]; rfl, HA.out⟩
      by_cases g3 : (60 : Int) < (x.dest.size : Int)
      · have HF := Lib.hid (HNO.out (by omega))
        clear HNO HYES
        go_wp2
        go_ret
        exact ⟨by rw [HF.out]; rfl, HA.out⟩
      · have HF := Lib.hid (HYES.out (by omega))
        clear HNO HYES
        go_wp2
        go_roundw
        case rel => exact ⟨k + 1, by have := HLT.out; omega, by go_num, HF, HA⟩
        case measure => have := HLT.out; simp [intOf]; omega
    · obtain rfl : k = vs.length := by omega
      have HF : Hid (fewB vs = decide (vs.length ≤ 40)) := Lib.hid (by
        unfold fewB
        rw [decide_eq_true (p := ∀ v ∈ vs, v.data.size ≤ 100 ∧ v.name.size ≤ 60 ∧ v.dest.size ≤ 60) (fun v hv => by
          obtain ⟨j, hj, rfl⟩ := List.getElem_of_mem hv
          exact HALL.out j hj hj), Bool.true_and])
      have hge : ¬ (vs.length : Int) < (vs.length : Int) := by omega
      clear hlt
      by_cases g : (vs.length : Int) ≤ 40
      · have HG : Hid (fewB vs = true) := Lib.hid (by rw [HF.out]; exact decide_eq_true (by omega))
        clear HF
        go_wp2
        go_ret
        exact ⟨by rw [HG.out]; rfl, HB.out⟩
      · have HG : Hid (fewB vs = false) := Lib.hid (by rw [HF.out]; exact decide_eq_false (by omega))
        clear HF
        go_wp2
        go_ret
        exact ⟨by rw [HG.out]; rfl, HB.out⟩

end Go.Proofs.Ytkeopkhbcmeplaa
