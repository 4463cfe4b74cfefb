/-
  mailbaglaw06: acts among a law's arguments; few; a tree that stays apart from other blocks.
-/
import Derived.Test.YtkohmiegkebmeaaTPlR
import Derived.Test.YtkohmiegkebmeaaTCloneI
import Derived.Test.YtkohmiegkebmeaaTGetI
import Derived.Lib.SmallJoins
import Derived.Deep.Slices
import Derived.Deep.Strs
namespace Go.Proofs.Ytkohmiegkebmeaa.tP
open Go.ChangeShapes Go.WideShapes Go.ChangeAt Go.RowKit Go.Deep Go.Joins Go.Proofs.Ytkohmiegkebmeaa.tI

set_option linter.unusedVariables false
set_option linter.unusedSimpArgs false

structure AC where
  k : Int
  n : Int
  key : ByteArray
instance : Inhabited AC := ⟨⟨0, 0, ⟨#[]⟩⟩⟩
def acells (a : AC) : List Value := [.int .i64 a.k, .int .i64 a.n, .string a.key]
theorem cellsAct : Try.prog.cellsOf 62 = 3 := by kernel_rfl
def AC.ok (a : AC) : Prop := a.key.size ≤ maxLen

set_option maxRecDepth 100000 in
theorem act_of {H : Type} {enc : TypeId × Value → H} {W : World} {base : Nat} {sp : Nat → Bool} {held : Bool} {n : Nat} {cs : List Value} {x : DataW H × List MemPlace}
    (h : DataW.trod enc Try.prog W base sp held n 62 cs = some x) : ∃ v : AC, cs = acells v ∧ v.ok := by
  obtain ⟨y0, y1, y2, m, _, hl, h0, h1, h2⟩ := trod_struct3 Try.underlying62 h
  rw [cellsAct] at hl
  obtain ⟨c0, c1, c2, rfl⟩ : ∃ c0 c1 c2, cs = [c0, c1, c2] := by
    rcases cs with _ | ⟨c0, _ | ⟨c1, _ | ⟨c2, _ | ⟨c3, r⟩⟩⟩⟩
    · simp at hl
    · simp at hl
    · simp at hl
    · exact ⟨c0, c1, c2, rfl⟩
    · simp at hl
  clear hl
  obtain ⟨k, e0, _, _⟩ := DataW.trod_int Try.underlying3 h0
  obtain ⟨z, e1, _, _⟩ := DataW.trod_int Try.underlying3 h1
  obtain ⟨s2, e2, _, w2⟩ := DataW.trod_string Try.underlying9 h2
  refine ⟨⟨k, z, s2⟩, ?_, w2⟩
  have f0 : c0 = .int .i64 k := by
    have : [c0] = [.int .i64 k] := e0
    simpa using this
  have f1 : c1 = .int .i64 z := by
    have : [c1] = [.int .i64 z] := e1
    simpa using this
  have f2 : c2 = .string s2 := by
    have : [c2] = [.string s2] := e2
    simpa using this
  rw [f0, f1, f2]
  rfl

/-- an act in three cells -/
def ActIn (w : World) (b o : Nat) (a : AC) : Prop :=
  w.cell? ⟨b, o, none⟩ = some (.int .i64 a.k) ∧ w.cell? ⟨b, o + 1, none⟩ = some (.int .i64 a.n) ∧ w.cell? ⟨b, o + 2, none⟩ = some (.string a.key)
def ActsIs (w : World) (a : Option Addr) (vs : List AC) : Prop := vs = [] ∨ ∃ b off, a = some ⟨b, off, none⟩ ∧ b < w.heap.size ∧ ∀ i (h : i < vs.length), ActIn w b (off + i * 3) (vs[i])
def ActsCame (w : World) (a : Option Addr) (len cap : Nat) (vs : List AC) : Prop := vs.length = len ∧ len ≤ cap ∧ cap ≤ 9223372036854775807 ∧ ActsIs w a vs ∧ ∀ v ∈ vs, v.ok
theorem ActsIs.below {w w' : World} {a : Option Addr} {vs : List AC} (h : ActsIs w a vs) (hb : Below w.heap.size w w') : ActsIs w' a vs := by
  refine h.imp id ?_
  rintro ⟨b, off, e, hlt, hv⟩
  refine ⟨b, off, e, Nat.lt_of_lt_of_le hlt hb.size, fun i hi => ?_⟩
  obtain ⟨h0, h1, h2⟩ := hv i hi
  exact ⟨(hb.cell (p := ⟨b, _, none⟩) hlt).trans h0, (hb.cell (p := ⟨b, _, none⟩) hlt).trans h1, (hb.cell (p := ⟨b, _, none⟩) hlt).trans h2⟩
theorem ActsIs.at_ {w : World} {a : Option Addr} {vs : List AC} (h : ActsIs w a vs) (i : Nat) (hi : i < vs.length) : ∃ b off, a = some ⟨b, off, none⟩ ∧ b < w.heap.size ∧ ActIn w b (off + i * 3) vs[i] := by
  rcases h with h | ⟨b, off, e, hlt, hv⟩
  · rw [h] at hi; simp at hi
  · exact ⟨b, off, e, hlt, hv i hi⟩

theorem acts_arg {H : Type} {enc : TypeId × Value → H} {W : World} {a : Option Addr} {len cap : Nat} {base : Nat} {sp : Bool} {d : DataW H} {pl : List MemPlace}
    (h : DataW.Trod enc Try.prog W base (fun _ => true) sp 22 (.slice a len cap) d pl) : ∃ vs, ActsCame W a len cap vs := by
  obtain ⟨fuel, hf⟩ := h
  rcases open_slice Try.underlying22 hf with ⟨hcs, _⟩ | ⟨x, l, c, m, n, D, Pl, hcs, _, hl, hmx, hm, _, hx⟩
  · simp [Value.cells] at hcs
    obtain ⟨rfl, rfl, rfl⟩ := hcs
    exact ⟨[], rfl, Nat.le_refl _, by omega, .inl rfl, by simp⟩
  · simp [Value.cells] at hcs
    obtain ⟨rfl, rfl, rfl⟩ := hcs
    have hmx' : cap ≤ 9223372036854775807 := by unfold maxLen at hmx; exact hmx
    by_cases h0 : len = 0
    · subst h0
      exact ⟨[], rfl, hl, hmx', .inl rfl, by simp⟩
    · have hm' : len ≤ m := by rw [hm]; simpa using hl
      obtain ⟨f, hfp⟩ := choose_lt (n := len) (p := fun i (p : AC) => (∀ j v, (acells p)[j]? = some v → W.cell? ((x.add (i * 3)).add j) = some v) ∧ p.ok) (fun i hi => by
        obtain ⟨cs', h1, h2⟩ := hx i (by omega)
        obtain ⟨p, hp, hok⟩ := act_of h2
        rw [cellsAct] at h1
        obtain ⟨_, hlen, hc⟩ := World.cells?_some h1
        refine ⟨p, fun j v hj => ?_, hok⟩
        rw [← hp] at hj
        have hj4 : j < 3 := by
          have := (List.getElem?_eq_some_iff.1 hj).1
          omega
        rw [hc j hj4, hj])
      have hspot : x.spot = none := by
        have h1 := (hfp 0 (by omega)).1 0 _ rfl
        simpa [Addr.add] using World.cell?_spot h1
      obtain ⟨b, off, spot⟩ := x
      have hspot : spot = none := hspot
      subst hspot
      have hat : ∀ i j, ((⟨b, off, none⟩ : Addr).add (i * 3)).add j = ⟨b, off + i * 3 + j, none⟩ := fun i j => by
        unfold Addr.add
        by_cases h1 : i * 3 = 0 <;> by_cases h2 : j = 0 <;> simp [h1, h2]
      have hcell : ∀ i, i < len → ActIn W b (off + i * 3) (f i) := fun i hi => by
        have h1 := (hfp i hi).1
        refine ⟨?_, ?_, ?_⟩
        · have := h1 0 _ rfl; rwa [hat] at this
        · have := h1 1 _ rfl; rwa [hat] at this
        · have := h1 2 _ rfl; rwa [hat] at this
      refine ⟨(List.range len).map f, by simp, hl, hmx', .inr ⟨b, off, rfl, ?_, ?_⟩, ?_⟩
      · exact World.block_lt_of_cell? W _ (hcell 0 (by omega)).1
      · intro i hi
        have hi' : i < len := by simpa using hi
        have e : ((List.range len).map f)[i] = f i := by simp
        rw [e]
        exact hcell i hi'
      · intro v hv
        obtain ⟨i, hi, rfl⟩ := List.mem_map.1 hv
        exact (hfp i (by simpa using hi)).2

def fewA (vs : List AC) : Bool := vs.all (fun a => decide (a.key.size ≤ 40)) && decide (vs.length ≤ 200)
theorem fewA_of {vs : List AC} (h : fewA vs = true) : vs.length ≤ 200 ∧ ∀ v ∈ vs, v.key.size ≤ 40 := by
  unfold fewA at h
  simp only [Bool.and_eq_true, decide_eq_true_eq, List.all_eq_true] at h
  exact ⟨h.2, h.1⟩

set_option maxHeartbeats 4000000 in
set_option maxRecDepth 100000 in
theorem few_any {w : World} {a : Option Addr} {len cap : Nat} {vs : List AC} (h : ActsIs w a vs) (hl : vs.length = len) (hle : len ≤ 9223372036854775807) :
    Calls Try.prog 10 #[.slice a len cap] w fun e w' => e = .returned (.bool (fewA vs)) ∧ Below w.heap.size w w' := by
  have HW := Lib.hid h
  have HL := Lib.hid hl
  have HF : Hid (∀ k (hk : k < vs.length), ¬ (vs[k]).key.size ≤ 40 → fewA vs = false) := Lib.hid fun k hk hf => by
    unfold fewA
    rw [show vs.all (fun a => decide (a.key.size ≤ 40)) = false from by rw [List.all_eq_false]; exact ⟨vs[k], List.getElem_mem hk, by simpa using hf⟩]
    rfl
  have HT : Hid ((∀ k (hk : k < vs.length), (vs[k]).key.size ≤ 40) → fewA vs = decide (len ≤ 200)) := Lib.hid fun hh => by
    unfold fewA
    rw [show vs.all (fun a => decide (a.key.size ≤ 40)) = true from by rw [List.all_eq_true]; intro x hx; obtain ⟨i, hi, rfl⟩ := List.getElem_of_mem hx; exact decide_eq_true (hh i hi), hl]
    rfl
  obtain ⟨r, hr⟩ : ∃ r, r = fewA vs := ⟨_, rfl⟩
  rw [← hr] at HF HT ⊢
  have HLE := Lib.hid hle
  clear h hl hr hle
  go_enter Try.func10, Try.ntmps10
  go_wp2_with fail
  go_loopw [7] (fun i wr => ∃ k : Nat, k ≤ len ∧ i = .int .i64 (k : Int) ∧ Hid ((∀ i (hi : i < vs.length), i < k → (vs[i]).key.size ≤ 40) ∧ Below w.heap.size w wr)) (fun i _ => len - (intOf i).toNat)
  case atStart => exact ⟨0, Nat.zero_le _, rfl, Lib.hid ⟨fun i _ h => by omega, Below.refl _ _⟩⟩
  case round =>
    obtain ⟨k, hk, rfl, hst⟩ := hrel
    by_cases hlt : k < len
    · have hk2 : k < vs.length := by rw [HL.out]; exact hlt
      obtain ⟨b, off, rfl, hb, hin⟩ := HW.out.at_ k hk2
      have HFk := Lib.hid (HF.out k hk2)
      have HBA : Hid (∀ c, Below w.heap.size w (wr.alloc c)) := Lib.hid fun c => hst.out.2.alloc hst.out.2.size _
      have HPR := Lib.hid hst.out.1
      have HXS : Hid (∀ y, y = vs[k] → y.key.size ≤ 40 → ∀ i (hi : i < vs.length), i < k + 1 → (vs[i]).key.size ≤ 40) := Lib.hid fun y hy hf i hi hik => by
        by_cases hh : i = k
        · subst hh; rw [← hy]; exact hf
        · exact HPR.out i hi (by omega)
      obtain ⟨x, hx⟩ : ∃ x, x = vs[k] := ⟨_, rfl⟩
      have HXS2 := Lib.hid (HXS.out x hx)
      rw [← hx] at hin HFk
      have hbw := hst.out.2
      have hin2 : ActIn wr b (off + k * 3) x := by
        obtain ⟨h0, h1, h2⟩ := hin
        exact ⟨(hbw.cell (p := ⟨b, _, none⟩) hb).trans h0, (hbw.cell (p := ⟨b, _, none⟩) hb).trans h1, (hbw.cell (p := ⟨b, _, none⟩) hb).trans h2⟩
      obtain ⟨q0, q1, q2⟩ := hin2
      have HWR : Hid (wrap64 ((k : Int) + 1) = ((k + 1 : Nat) : Int)) := Lib.hid (by have := HLE.out; unfold wrap64; omega)
      have hkm : (k : Int) < 9223372036854775807 := by have := HLE.out; omega
      have HLT := Lib.hid hlt
      clear hin hb hst hx HXS HPR hbw HT HF HW
      by_cases h1 : x.key.size ≤ 40
      · have h1I : ¬ (40 : Int) < (x.key.size : Int) := by omega
        go_wp2_with fail
        go_roundw
        case rel => exact ⟨k + 1, HLT.out, by (try rw [HWR.out]); (try go_num), Lib.hid ⟨HXS2.out h1, HBA.out _⟩⟩
        case measure => have h5 := HLT.out; have h6 := HWR.out; simp [intOf]; omega
      · have h1I : (40 : Int) < (x.key.size : Int) := by omega
        have HR : Hid (r = false) := Lib.hid (HFk.out h1)
        go_wp2
        go_ret
        exact ⟨by rw [HR.out]; rfl, HBA.out _⟩
    · obtain rfl : k = len := by omega
      have HR : Hid (r = decide (k ≤ 200)) := Lib.hid (HT.out fun i hi => hst.out.1 i hi (by have := HL.out; omega))
      have HB := Lib.hid hst.out.2
      clear hlt hst HT HF HW
      by_cases h1 : k ≤ 200
      · have h1I : (k : Int) ≤ 200 := by omega
        go_wp2
        go_ret
        exact ⟨by rw [HR.out]; simp [h1], HB.out⟩
      · have h1I : ¬ (k : Int) ≤ 200 := by omega
        go_wp2
        go_ret
        exact ⟨by rw [HR.out]; simp [h1], HB.out⟩

/-- a tree in blocks from n on that are none of X -/
def TX (n : Nat) (X : Nat → Prop) (W : World) (t : Nat) (m : List KV) : Prop := ∃ ls, TreeAt (fun q => n ≤ q ∧ ¬ X q) W t ls ∧ ls.flatten = m

theorem TX.size {n : Nat} {X : Nat → Prop} {W : World} {t : Nat} {m : List KV} (h : TX n X W t m) : n ≤ W.heap.size := by
  obtain ⟨ls, hT, _⟩ := h
  have h1 := hT.lt
  have h2 := hT.1.1
  omega
theorem TX.below {n : Nat} {X : Nat → Prop} {W W' : World} {t : Nat} {m : List KV} (h : TX n X W t m) (hb : Below W.heap.size W W') : TX n X W' t m := by
  obtain ⟨ls, hT, e⟩ := h
  exact ⟨ls, hT.below hb, e⟩
/-- other blocks to be apart from: new ones -/
theorem TX.wider {n : Nat} {X X' : Nat → Prop} {W : World} {t : Nat} {m : List KV} (h : TX n X W t m) (hX : ∀ q, X' q → q < W.heap.size → X q) : TX n X' W t m := by
  obtain ⟨ls, hT, e⟩ := h
  exact ⟨ls, hT.keep fun q hq hl => ⟨rfl, hq.1, fun hx => hq.2 (hX q hx hl)⟩, e⟩
/-- what a turn of the tree leaves -/
def Kept (n : Nat) (X : Nat → Prop) (W W' : World) : Prop := Below n W W' ∧ ∀ q, X q → W'.heap[q]? = W.heap[q]?

theorem ext_kept {n : Nat} {X : Nat → Prop} {W W' : World} (h : Ext (fun q => n ≤ q ∧ ¬ X q) W W') (hX : ∀ q, X q → q < W.heap.size) (hn : n ≤ W.heap.size) : Kept n X W W' := by
  obtain ⟨h1, h2, h3, h4, h5⟩ := h
  exact ⟨⟨h1, h2, h3, h4, fun q hq => h5 q (by omega) fun hb => by have := hb.1; omega⟩, fun q hq => h5 q (hX q hq) fun hb => hb.2 hq⟩
theorem nu_tree {n : Nat} {X : Nat → Prop} {W W' : World} {t : Nat} {ls : List (List KV)} (h : TreeAt (Nu (fun q => n ≤ q ∧ ¬ X q) W.heap.size) W' t ls) (hX : ∀ q, X q → q < W.heap.size) (hn : n ≤ W.heap.size) : TreeAt (fun q => n ≤ q ∧ ¬ X q) W' t ls :=
  h.keep fun q hq _ => ⟨rfl, by
    rcases hq with hq | hq
    · exact hq
    · exact ⟨by omega, fun hx => by have := hX q hx; omega⟩⟩
theorem TX.put {n : Nat} {X : Nat → Prop} {W : World} {t : Nat} {m : List KV} (h : TX n X W t m) (hX : ∀ q, X q → q < W.heap.size) (hm : m.length < 50000) (key : ByteArray) (v : Int) :
    Calls Try.prog 16 #[.pointer (some ⟨t, 0, none⟩), .string key, .int .i64 v] W fun e W' => e = .returned (.bool (getK m key).isSome) ∧ Kept n X W W' ∧ TX n X W' t (putK m key (.int .i64 v)) := by
  have hn := h.size
  obtain ⟨ls, hT, rfl⟩ := h
  refine (put_any hT hm key v).mono ?_
  rintro e w' ⟨h1, h2, ls', h3, h4⟩
  exact ⟨h1, ext_kept h2 hX hn, ls', nu_tree h3 hX hn, h4⟩
theorem TX.drop {n : Nat} {X : Nat → Prop} {W : World} {t : Nat} {m : List KV} (h : TX n X W t m) (hX : ∀ q, X q → q < W.heap.size) (key : ByteArray) :
    Calls Try.prog 17 #[.pointer (some ⟨t, 0, none⟩), .string key] W fun e W' => e = .returned (.bool (getK m key).isSome) ∧ Kept n X W W' ∧ TX n X W' t (dropK m key) := by
  have hn := h.size
  obtain ⟨ls, hT, rfl⟩ := h
  refine (drop_any hT key).mono ?_
  rintro e w' ⟨h1, h2, ls', h3, h4⟩
  exact ⟨h1, ext_kept h2 hX hn, ls', nu_tree h3 hX hn, h4⟩
theorem TX.len {n : Nat} {X : Nat → Prop} {W : World} {t : Nat} {m : List KV} (h : TX n X W t m) :
    Calls Try.prog 15 #[.pointer (some ⟨t, 0, none⟩)] W fun e w' => e = .returned (.int .i64 m.length) ∧ W = w' := by
  obtain ⟨ls, hT, rfl⟩ := h
  exact len_any hT
theorem TX.get {n : Nat} {X : Nat → Prop} {W : World} {t : Nat} {m : List KV} (h : TX n X W t m) (key : ByteArray) :
    Calls Try.prog 13 #[.pointer (some ⟨t, 0, none⟩), .string key] W (GetP W (getK m key)) := by
  obtain ⟨ls, hT, rfl⟩ := h
  exact get_any hT key
theorem TX.clone {n : Nat} {X : Nat → Prop} {W : World} {t : Nat} {m : List KV} (h : TX n X W t m) :
    Calls Try.prog 18 #[.pointer (some ⟨t, 0, none⟩)] W fun e W' => ∃ t2, e = .returned (.pointer (some ⟨t2, 0, none⟩)) ∧ Below W.heap.size W W' ∧ TX W.heap.size (fun _ => False) W' t2 m := by
  obtain ⟨ls, hT, rfl⟩ := h
  refine (tclone_any hT).mono ?_
  rintro e w' ⟨t2, h1, h2, h3⟩
  exact ⟨t2, h1, h2, ls, h3.keep fun q hq _ => ⟨rfl, hq, fun h => h⟩, rfl⟩

theorem tree_sorted {n : Nat} {X : Nat → Prop} {W : World} {t : Nat} {m : List KV} (h : TX n X W t m) : RiseB (keysOf m) := by
  obtain ⟨ls, hT, rfl⟩ := h
  exact hT.2.1.2

end Go.Proofs.Ytkohmiegkebmeaa.tP
