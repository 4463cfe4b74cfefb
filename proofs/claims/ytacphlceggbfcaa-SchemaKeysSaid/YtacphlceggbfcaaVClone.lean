/-
  val's clones: a value that shares no memory with the one it is of.
-/
import Derived.Test.YtacphlceggbfcaaValHead
import Derived.Laws.MakeOwn
import Derived.Outline
import Derived.Deep.RegionWith
namespace Go.Proofs.Ytacphlceggbfcaa
open Go.RowKit

mutual
/-- lists that a machine can hold -/
def V.sm : V → Prop
  | .mk _ _ _ _ l f => (l.length ≤ 100000 ∧ f.length ≤ 100000) ∧ smL l ∧ smF f
def smL : List V → Prop
  | [] => True
  | v :: l => v.sm ∧ smL l
def smF : List (ByteArray × V) → Prop
  | [] => True
  | p :: l => V.sm p.2 ∧ smF l
end

theorem smL_iff {l : List V} : smL l ↔ ∀ v ∈ l, v.sm := by
  induction l with
  | nil => simp [smL]
  | cons v l ih => simp [smL, ih]
theorem smF_iff {l : List Fd} : smF l ↔ ∀ p ∈ l, p.2.sm := by
  induction l with
  | nil => simp [smF]
  | cons v l ih => simp only [smF, ih, List.mem_cons, forall_eq_or_imp]

def CloneP (v : V) (w : World) (e : Ending) (w' : World) : Prop :=
  ∃ lv fv, e = .returned (.agg #[.int .i64 v.kind, .bool v.yes, .int .i64 v.num, .string v.text, lv, fv]) ∧ v.At w' (fun q => w.heap.size ≤ q) lv fv ∧ Below w.heap.size w w'

def CloneOK (N : Nat) : Prop := ∀ (v : V) (lv fv : Value) (w : World), v.dep ≤ N → v.sm → v.Is w lv fv →
  Calls Try.prog 50 #[.agg #[.int .i64 v.kind, .bool v.yes, .int .i64 v.num, .string v.text, lv, fv]] w (CloneP v w)

theorem madeVals : (Try.prog.info? 26).map (fun i => (i.zero, i.size, i.bytes)) = some (some (.agg #[.int .i64 0, .bool false, .int .i64 0, .string ⟨#[]⟩, .slice none 0 0, .slice none 0 0]), 6, 88) := by kernel_rfl
theorem madeFlds : (Try.prog.info? 68).map (fun i => (i.zero, i.size, i.bytes)) = some (some (.agg #[.string ⟨#[]⟩, .int .i64 0, .bool false, .int .i64 0, .string ⟨#[]⟩, .slice none 0 0, .slice none 0 0]), 7, 104) := by kernel_rfl

theorem make_any (t e : TypeId) (z : Value) (k b : Nat) (ht : Try.prog.underlying t = some (.slice e)) (hi : (Try.prog.info? e).map (fun i => (i.zero, i.size, i.bytes)) = some (some z, k, b)) (hb : b ≤ 200) (hk : k ≤ 100) (n : Nat) (hn : n ≤ 100000) :
    ∃ arr : Array Value, arr.size = n * k ∧ ∀ w, (Instr.makeSlice t (.int .i64 (n : Int)) (.int .i64 (n : Int))).run Try.prog w = .ok (.slice (some ⟨w.heap.size, 0, none⟩) n n) (w.alloc (.cells arr e)) := by
  obtain ⟨i, hi, hz, hi1, hi2⟩ := info_parts hi
  refine ⟨madeCells z.cells (n * k), size_madeCells _ _, fun w => ?_⟩
  have h1 : n * k ≤ 100000 * 100 := Nat.mul_le_mul hn hk
  have h2 : i.bytes * n ≤ 200 * 100000 := by rw [hi2]; exact Nat.mul_le_mul hb hn
  have h := run_makeSlice (P := Try.prog) w t e i z ht hi hz .i64 .i64 (n : Int) (n : Int) (by omega) (Int.le_refl _) (by rw [hi1]; simp only [Int.toNat_natCast]; omega) (by rw [← Int.natCast_mul]; omega) (by omega)
  rw [hi1] at h
  simpa using h

/-- cells stored one behind the other -/
def sets (w : World) (g : Nat) : Nat → List Value → World
  | _, [] => w
  | b, c :: cs => sets (w.setCell ⟨g, b, none⟩ c) g (b + 1) cs
def aset (arr : Array Value) : Nat → List Value → Array Value
  | _, [] => arr
  | b, c :: cs => aset (arr.setIfInBounds b c) (b + 1) cs

theorem aset_size : ∀ (cs : List Value) (arr : Array Value) (b : Nat), (aset arr b cs).size = arr.size
  | [], _, _ => rfl
  | c :: cs, arr, b => by rw [aset, aset_size cs]; simp
theorem aset_far : ∀ (cs : List Value) (arr : Array Value) (b p : Nat), p < b ∨ b + cs.length ≤ p → (aset arr b cs)[p]? = arr[p]?
  | [], _, _, _, _ => rfl
  | c :: cs, arr, b, p, h => by
    simp only [List.length_cons] at h
    rw [aset, aset_far cs _ _ _ (by omega), Array.getElem?_setIfInBounds_ne (by omega)]
theorem aset_get : ∀ (cs : List Value) (arr : Array Value) (b : Nat), b + cs.length ≤ arr.size → ∀ q u, cs[q]? = some u → (aset arr b cs)[b + q]? = some u
  | [], _, _, _, q, u, h => by simp at h
  | c :: cs, arr, b, hb, 0, u, h => by
    simp only [List.length_cons] at hb
    rw [aset, aset_far cs _ _ _ (by omega)]
    obtain rfl : c = u := by simpa using h
    rw [Nat.add_zero]
    have hlt : b < arr.size := by omega
    simp [hlt]
  | c :: cs, arr, b, hb, q + 1, u, h => by
    simp only [List.length_cons] at hb
    rw [aset, show b + (q + 1) = b + 1 + q by omega]
    exact aset_get cs _ _ (by simp; omega) q u (by simpa using h)
theorem Box.sets {g : Nat} {t : TypeId} : ∀ (cs : List Value) {w : World} {arr : Array Value} (b : Nat), Box w g t arr → Box (sets w g b cs) g t (aset arr b cs)
  | [], _, _, _, h => h
  | c :: cs, _, _, b, h => Box.sets cs (b + 1) (h.setSame b c)
theorem sets_far {g : Nat} : ∀ (cs : List Value) (w : World) (b q : Nat), q ≠ g → (sets w g b cs).heap[q]? = w.heap[q]?
  | [], _, _, _, _ => rfl
  | c :: cs, w, b, q, h => (sets_far cs _ (b + 1) q h).trans (Below.heap_setCell w ⟨g, b, none⟩ c q h)
theorem sets_size {g : Nat} : ∀ (cs : List Value) (w : World) (b : Nat), (sets w g b cs).heap.size = w.heap.size
  | [], _, _ => rfl
  | c :: cs, w, b => by rw [sets, sets_size cs]; simp [World.setCell]
theorem Below.sets {B : Nat} {a : World} {g : Nat} : ∀ (cs : List Value) {w : World} (b : Nat), Below B a w → B ≤ g → Below B a (Proofs.Ytacphlceggbfcaa.sets w g b cs)
  | [], _, _, h, _ => h
  | c :: cs, _, b, h, hg => Below.sets cs (b + 1) (h.setCell (by show B ≤ g; exact hg) c) hg

/-- one element more of a row is done -/
theorem done_step {w w3 : World} {g K n : Nat} {arr : Array Value} {cof : (i : Nat) → i < n → Value → Value → List Value} {val : (i : Nat) → i < n → V} (hlen : ∀ i h a b, (cof i h a b).length = K) (j : Nat) (hjn : j < n) (hsz : arr.size = n * K)
    (h : ∀ i (h : i < n), i < j → ∃ lv fv, (∀ q u, (cof i h lv fv)[q]? = some u → arr[i * K + q]? = some u) ∧ (val i h).At w (fun q => g < q) lv fv)
    (hk : ∀ q, q < w.heap.size → w3.heap[q]? = w.heap[q]?) (hz : w.heap.size ≤ w3.heap.size) (lv0 fv0 : Value) (hat : (val j hjn).At w3 (fun q => g < q) lv0 fv0) :
    ∀ i (h : i < n), i < j + 1 → ∃ lv fv, (∀ q u, (cof i h lv fv)[q]? = some u → (aset arr (j * K) (cof j hjn lv0 fv0))[i * K + q]? = some u) ∧ (val i h).At (sets w3 g (j * K) (cof j hjn lv0 fv0)) (fun q => g < q) lv fv := by
  intro i hi hij
  have hroom : j * K + K ≤ arr.size := by rw [hsz, ← Nat.succ_mul]; exact Nat.mul_le_mul_right _ hjn
  have hmove : ∀ {x : V} {a b : Value}, x.At w3 (fun q => g < q) a b → x.At (sets w3 g (j * K) (cof j hjn lv0 fv0)) (fun q => g < q) a b := fun hx =>
    V.At.move (fun q hq _ => ⟨hq, sets_far _ _ _ _ (by omega)⟩) (by rw [sets_size]; exact Nat.le_refl _) _ (Nat.le_refl _) hx
  by_cases e : i = j
  · subst e
    exact ⟨lv0, fv0, aset_get _ _ _ (by rw [hlen]; exact hroom), hmove hat⟩
  · obtain ⟨lv, fv, h1, h2⟩ := h i hi (by omega)
    refine ⟨lv, fv, fun q u hq => ?_, hmove (V.At.move (fun q hq hlt => ⟨hq, hk q hlt⟩) hz _ (Nat.le_refl _) h2)⟩
    have hql : q < K := by rw [← hlen i hi lv fv]; exact (List.getElem?_eq_some_iff.1 hq).1
    have hle : i * K + K ≤ j * K := by rw [← Nat.succ_mul]; exact Nat.mul_le_mul_right _ (by omega)
    rw [aset_far _ _ _ _ (.inl (by omega))]
    exact h1 q u hq

theorem LCells.keepAll {w w' : World} {b off : Nat} {l : List V} (h : LCells w All b off l) (hb : Below w.heap.size w w') (hlt : b < w.heap.size) : LCells w' All b off l :=
  LCells.mk fun i hi => by
    obtain ⟨lv, fv, h1, h2⟩ := h.get hi
    exact ⟨lv, fv, h1.keep (hb.block b hlt), V.Is.below h2 hb⟩
theorem FCells.keepAll {w w' : World} {b off : Nat} {l : List Fd} (h : FCells w All b off l) (hb : Below w.heap.size w w') (hlt : b < w.heap.size) : FCells w' All b off l :=
  FCells.mk fun i hi => by
    obtain ⟨lv, fv, h1, h2⟩ := h.get hi
    exact ⟨lv, fv, h1.keep (hb.block b hlt), V.Is.below h2 hb⟩

set_option maxHeartbeats 4000000 in
set_option maxRecDepth 100000 in
theorem cloneList_any (N : Nat) (ih : CloneOK N) (l : List V) (hd : ∀ x ∈ l, x.dep ≤ N) (hsm : ∀ x ∈ l, x.sm) (hlen : l.length ≤ 100000) (lv : Value) (w : World) (hl : LAt w All l lv) :
    Calls Try.prog 49 #[lv, .func (.func 50) #[] #[]] w fun e w' => ∃ lv', e = .returned lv' ∧ LAt w' (fun q => w.heap.size ≤ q) l lv' ∧ Below w.heap.size w w' := by
  obtain ⟨a, c, rfl, hc1, hc2, hcl⟩ := hl
  by_cases h0 : l.length = 0
  · have h0' : ((l.length : Int) == 0) = true := by rw [beq_iff_eq]; omega
    have hln := List.eq_nil_of_length_eq_zero h0
    have HL := Lib.hid hln
    clear h0 hln hcl
    go_enter Try.func49, Try.ntmps49
    go_wp2
    go_ret
    refine ⟨_, rfl, ⟨none, 0, ?_, ?_, ?_, .inl HL.out⟩, Below.refl _ _⟩
    · rw [HL.out]; rfl
    · rw [HL.out]; exact Nat.le_refl _
    · unfold maxLen; omega
  · have h0' : ((l.length : Int) == 0) = false := by rw [beq_eq_false_iff_ne]; omega
    obtain ⟨arr0, hsz0, hmk⟩ := make_any 23 26 _ 6 _ Try.underlying23 madeVals (by decide) (by decide) l.length hlen
    have HD := Lib.hid hd
    have HSM := Lib.hid hsm
    have H0 := Lib.hid h0
    have HSZ0 := Lib.hid hsz0
    clear hd hsm h0 hsz0
    go_enter Try.func49, Try.ntmps49
    go_wp2_with fail
    go_loopw [16] (fun i wr => ∃ (j : Nat) (arr : Array Value), j ≤ l.length ∧ i = .int .i64 j ∧ Below w.heap.size w wr ∧ Hid (arr.size = l.length * 6) ∧ Box wr w.heap.size 26 arr ∧
      Hid (∀ i (h : i < l.length), i < j → ∃ lv fv, (∀ q u, ((l[i]).cells lv fv : List Value)[q]? = some u → arr[i * 6 + q]? = some u) ∧ (l[i]).At wr (fun q => w.heap.size < q) lv fv)) (fun i _ => l.length - (intOf i).toNat)
    case atStart => exact ⟨0, arr0, Nat.zero_le _, rfl, (Below.refl _ w).alloc (Nat.le_refl _) _, HSZ0, Box.new w _ _, Lib.hid (fun i h hi => by omega)⟩
    case round =>
      clear hmk
      obtain ⟨j, arr, hj, rfl, hbr, HSZ, hBox, HDone⟩ := hrel
      have hzr := hbr.size
      have hlt0 := hBox.lt
      by_cases hjl : j < l.length
      · have hjl' : (j : Int) < (l.length : Int) := by omega
        obtain ⟨b0, off, ea, hbl, hC⟩ : ∃ b0 off, a = some ⟨b0, off, none⟩ ∧ b0 < wr.heap.size ∧ LCells wr All b0 off l := by
          rcases hcl with h | ⟨b0, off, ea, _, hb, hC⟩
          · rw [h] at hjl; simp at hjl
          · exact ⟨b0, off, ea, Nat.lt_of_lt_of_le hb hbr.size, LCells.keepAll hC hbr hb⟩
        subst ea
        obtain ⟨lx, fx, hin, hel⟩ := hC.get hjl
        have hxd := HD.out _ (List.getElem_mem hjl)
        have hxs := HSM.out _ (List.getElem_mem hjl)
        obtain ⟨xe, hxe⟩ : ∃ y, y = l[j] := ⟨_, rfl⟩
        rw [← hxe] at hin hel hxd hxs
        have HXE := Lib.hid hxe
        clear hxe hC
        obtain ⟨x, rfl⟩ : ∃ y, y = xe := ⟨_, rfl⟩
        replace hel : x.Is wr lx fx := hel
        obtain ⟨⟨px, pc, rfl⟩, ⟨py, pd, rfl⟩, _, _⟩ := hel.len
        obtain ⟨p0, p1, p2, p3, p4, p5⟩ := hin.six
        have hcall := fun W (hW : Below wr.heap.size wr W) => ih x _ _ W hxd hxs (V.Is.below hel hW)
        have hb1 : Below wr.heap.size wr (wr.alloc (.cells #[.int .i64 x.kind, .bool x.yes, .int .i64 x.num, .string x.text, .slice px x.list.length pc, .slice py x.fields.length pd] 26)) := (Below.refl _ wr).alloc (Nat.le_refl _) _
        have hcall2 := hcall _ hb1
        clear hcall hin hel
        go_wp2_with fail
        refine hcall2.mono ?_
        rintro e w3 ⟨lv', fv', rfl, hat, hb3⟩
        obtain ⟨⟨qx, qc, rfl⟩, ⟨qy, qd, rfl⟩, _, _⟩ := hat.is.len
        have hb3' := hb1.trans (hb3.mono (by simp))
        have hB3 : Box w3 w.heap.size 26 arr := (hb3'.block _ hlt0).trans hBox
        have hszj : j * 6 + 6 ≤ arr.size := by rw [HSZ.out, ← Nat.succ_mul]; exact Nat.mul_le_mul_right _ hjl
        have hcell : ∀ i, i < 6 → w3.cell? ⟨w.heap.size, j * 6 + i, none⟩ = some (arr[j * 6 + i]!) := fun i hi => by
          rw [hB3.cell, getElem!_pos arr (j * 6 + i) (by omega), Array.getElem?_eq_getElem (by omega)]
        have hfree : ∀ i, w3.frozen? ⟨w.heap.size, i, none⟩ = false := fun i => hB3.free i
        have hA3 : x.At w3 (fun q => w.heap.size < q) (.slice qx x.list.length qc) (.slice qy x.fields.length qd) := hat.wider (fun q hq => by simp at hq; omega)
        have k0 := hcell 0 (by omega)
        have k1 := hcell 1 (by omega)
        have k2 := hcell 2 (by omega)
        have k3 := hcell 3 (by omega)
        have k4 := hcell 4 (by omega)
        have k5 := hcell 5 (by omega)
        have f0 := hfree (j * 6 + 0)
        have f1 := hfree (j * 6 + 1)
        have f2 := hfree (j * 6 + 2)
        have f3 := hfree (j * 6 + 3)
        have f4 := hfree (j * 6 + 4)
        have f5 := hfree (j * 6 + 5)
        simp only [Nat.add_zero] at k0 f0
        clear hcell hfree hcall2 hb3 hat hszj
        have hb4 : Below w.heap.size w (sets w3 w.heap.size (j * 6) [.int .i64 x.kind, .bool x.yes, .int .i64 x.num, .string x.text, .slice qx x.list.length qc, .slice qy x.fields.length qd]) := Below.sets _ _ (hbr.trans (hb3'.mono hzr)) (Nat.le_refl _)
        have hB4 : Box (sets w3 w.heap.size (j * 6) [.int .i64 x.kind, .bool x.yes, .int .i64 x.num, .string x.text, .slice qx x.list.length qc, .slice qy x.fields.length qd]) w.heap.size 26 (aset arr (j * 6) [.int .i64 x.kind, .bool x.yes, .int .i64 x.num, .string x.text, .slice qx x.list.length qc, .slice qy x.fields.length qd]) := Box.sets _ _ hB3
        have hsz4 : Hid ((aset arr (j * 6) [.int .i64 x.kind, .bool x.yes, .int .i64 x.num, .string x.text, .slice qx x.list.length qc, .slice qy x.fields.length qd]).size = l.length * 6) := Lib.hid (by rw [aset_size]; exact HSZ.out)
        have hd4 := Lib.hid (done_step (cof := fun i h a b => (l[i]).cells a b) (val := fun i h => l[i]) (fun _ _ _ _ => rfl) j hjl HSZ.out HDone.out (fun q hq => hb3'.block q hq) hb3'.size (.slice qx x.list.length qc) (.slice qy x.fields.length qd) (by simpa only [← HXE.out] using hA3))
        simp only [← HXE.out] at hd4
        clear HSZ HDone hb3' hB3 hA3 hBox
        go_wp2
        go_roundw
        case rel => exact ⟨j + 1, _, by omega, by go_num, hb4, hsz4, hB4, hd4⟩
        case measure => simp [intOf]; omega
      · have hge : ¬ (j : Int) < (l.length : Int) := by omega
        obtain rfl : j = l.length := by omega
        clear hjl
        go_wp2
        go_ret
        refine ⟨_, rfl, ⟨_, _, rfl, Nat.le_refl _, by unfold maxLen; omega, .inr ⟨w.heap.size, 0, rfl, Nat.le_refl _, hlt0, ?_⟩⟩, hbr⟩
        exact LCells.mk fun i hi => by
          obtain ⟨lv', fv', h1, h2⟩ := HDone.out i hi hi
          refine ⟨lv', fv', fun q u hq => ?_, h2.wider (fun q hq => Nat.le_of_lt hq)⟩
          rw [Nat.zero_add, hBox.cell]
          exact h1 q u hq

def CloneFP (nm : ByteArray) (v : V) (w : World) (e : Ending) (w' : World) : Prop :=
  ∃ lv fv, e = .returned (.agg #[.string nm, .int .i64 v.kind, .bool v.yes, .int .i64 v.num, .string v.text, lv, fv]) ∧ v.At w' (fun q => w.heap.size ≤ q) lv fv ∧ Below w.heap.size w w'

theorem Box.seven {w : World} {g : Nat} {c0 c1 c2 c3 c4 c5 c6 : Value} {t : TypeId} (h : Box w g t #[c0, c1, c2, c3, c4, c5, c6]) :
    w.cell? ⟨g, 0, none⟩ = some c0 ∧ w.cell? ⟨g, 1, none⟩ = some c1 ∧ w.cell? ⟨g, 2, none⟩ = some c2 ∧ w.cell? ⟨g, 3, none⟩ = some c3 ∧ w.cell? ⟨g, 4, none⟩ = some c4 ∧ w.cell? ⟨g, 5, none⟩ = some c5 ∧ w.cell? ⟨g, 6, none⟩ = some c6 :=
  ⟨h.cell 0, h.cell 1, h.cell 2, h.cell 3, h.cell 4, h.cell 5, h.cell 6⟩

set_option maxHeartbeats 4000000 in
set_option maxRecDepth 100000 in
theorem cloneFd_any (N : Nat) (ih : CloneOK N) (nm : ByteArray) (x : V) (lv fv : Value) (w : World) (hd : x.dep ≤ N) (hsm : x.sm) (his : x.Is w lv fv) :
    Calls Try.prog 74 #[.agg #[.string nm, .int .i64 x.kind, .bool x.yes, .int .i64 x.num, .string x.text, lv, fv]] w (CloneFP nm x w) := by
  obtain ⟨⟨px, pc, rfl⟩, ⟨py, pd, rfl⟩, _, _⟩ := his.len
  have hbW : Below w.heap.size w ((w.alloc (.cells #[.string nm, .int .i64 x.kind, .bool x.yes, .int .i64 x.num, .string x.text, .slice px x.list.length pc, .slice py x.fields.length pd] 68)).alloc (.cells #[.string ⟨#[]⟩, .int .i64 0, .bool false, .int .i64 0, .string ⟨#[]⟩, .slice none 0 0, .slice none 0 0] 68)) := two_boxes w _ _ _
  have hP : Box ((w.alloc (.cells #[.string nm, .int .i64 x.kind, .bool x.yes, .int .i64 x.num, .string x.text, .slice px x.list.length pc, .slice py x.fields.length pd] 68)).alloc (.cells #[.string ⟨#[]⟩, .int .i64 0, .bool false, .int .i64 0, .string ⟨#[]⟩, .slice none 0 0, .slice none 0 0] 68)) w.heap.size 68 #[.string nm, .int .i64 x.kind, .bool x.yes, .int .i64 x.num, .string x.text, .slice px x.list.length pc, .slice py x.fields.length pd] := (Box.new w _ _).alloc _
  have hZ : Box ((w.alloc (.cells #[.string nm, .int .i64 x.kind, .bool x.yes, .int .i64 x.num, .string x.text, .slice px x.list.length pc, .slice py x.fields.length pd] 68)).alloc (.cells #[.string ⟨#[]⟩, .int .i64 0, .bool false, .int .i64 0, .string ⟨#[]⟩, .slice none 0 0, .slice none 0 0] 68)) (w.heap.size + 1) 68 #[.string ⟨#[]⟩, .int .i64 0, .bool false, .int .i64 0, .string ⟨#[]⟩, .slice none 0 0, .slice none 0 0] := by
    have := Box.new (w.alloc (.cells #[.string nm, .int .i64 x.kind, .bool x.yes, .int .i64 x.num, .string x.text, .slice px x.list.length pc, .slice py x.fields.length pd] 68)) 68 #[.string ⟨#[]⟩, .int .i64 0, .bool false, .int .i64 0, .string ⟨#[]⟩, .slice none 0 0, .slice none 0 0]
    rwa [show (w.alloc (.cells #[.string nm, .int .i64 x.kind, .bool x.yes, .int .i64 x.num, .string x.text, .slice px x.list.length pc, .slice py x.fields.length pd] 68)).heap.size = w.heap.size + 1 by simp] at this
  have hcall := ih x _ _ _ hd hsm (V.At.drew (V.Is.below his hbW))
  have HK : Hid (∀ w4, Below ((w.alloc (.cells #[.string nm, .int .i64 x.kind, .bool x.yes, .int .i64 x.num, .string x.text, .slice px x.list.length pc, .slice py x.fields.length pd] 68)).alloc (.cells #[.string ⟨#[]⟩, .int .i64 0, .bool false, .int .i64 0, .string ⟨#[]⟩, .slice none 0 0, .slice none 0 0] 68)).drew.heap.size ((w.alloc (.cells #[.string nm, .int .i64 x.kind, .bool x.yes, .int .i64 x.num, .string x.text, .slice px x.list.length pc, .slice py x.fields.length pd] 68)).alloc (.cells #[.string ⟨#[]⟩, .int .i64 0, .bool false, .int .i64 0, .string ⟨#[]⟩, .slice none 0 0, .slice none 0 0] 68)).drew w4 →
      Box w4 w.heap.size 68 #[.string nm, .int .i64 x.kind, .bool x.yes, .int .i64 x.num, .string x.text, .slice px x.list.length pc, .slice py x.fields.length pd] ∧ Box w4 (w.heap.size + 1) 68 #[.string ⟨#[]⟩, .int .i64 0, .bool false, .int .i64 0, .string ⟨#[]⟩, .slice none 0 0, .slice none 0 0] ∧ Below w.heap.size w w4) := Lib.hid (fun w4 hb => by
    have hz : ((w.alloc (.cells #[.string nm, .int .i64 x.kind, .bool x.yes, .int .i64 x.num, .string x.text, .slice px x.list.length pc, .slice py x.fields.length pd] 68)).alloc (.cells #[.string ⟨#[]⟩, .int .i64 0, .bool false, .int .i64 0, .string ⟨#[]⟩, .slice none 0 0, .slice none 0 0] 68)).drew.heap.size = w.heap.size + 2 := by
      show ((w.alloc (.cells #[.string nm, .int .i64 x.kind, .bool x.yes, .int .i64 x.num, .string x.text, .slice px x.list.length pc, .slice py x.fields.length pd] 68)).alloc (.cells #[.string ⟨#[]⟩, .int .i64 0, .bool false, .int .i64 0, .string ⟨#[]⟩, .slice none 0 0, .slice none 0 0] 68)).heap.size = _
      simp
    exact ⟨(hb.block _ (by rw [hz]; omega)).trans hP, (hb.block _ (by rw [hz]; omega)).trans hZ, hbW.drew.trans (hb.mono (by rw [hz]; omega))⟩)
  have HC := Lib.hid hcall
  clear his hbW hP hZ hcall
  go_enter Try.func74, Try.ntmps74
  go_wp2_with fail
  go_region_with (first
    | (go_at_call 50; refine HC.out.mono ?_; rintro e w4 ⟨lv', fv', rfl, hat, hb4⟩; obtain ⟨⟨qx, qc, rfl⟩, ⟨qy, qd, rfl⟩, _, _⟩ := hat.is.len; obtain ⟨hP4, hZ4, hbw4⟩ := HK.out w4 hb4;
       obtain ⟨x0, x1, x2, x3, x4, x5, x6⟩ := hP4.seven; obtain ⟨z0, z1, z2, z3, z4, z5, z6⟩ := hZ4.seven; have g0 := hZ4.free 0; have g1 := hZ4.free 1; have g2 := hZ4.free 2; have g3 := hZ4.free 3; have g4 := hZ4.free 4; have g5 := hZ4.free 5; have g6 := hZ4.free 6))
  all_goals
    have hF := Box.sets [.string nm, .int .i64 x.kind, .bool x.yes, .int .i64 x.num, .string x.text, .slice qx x.list.length qc, .slice qy x.fields.length qd] 0 hZ4
    obtain ⟨k0, k1, k2, k3, k4, k5, k6⟩ := Box.seven (c0 := .string nm) (c1 := .int .i64 x.kind) (c2 := .bool x.yes) (c3 := .int .i64 x.num) (c4 := .string x.text) (c5 := .slice qx x.list.length qc) (c6 := .slice qy x.fields.length qd) hF
    have hb5 := Below.sets [.string nm, .int .i64 x.kind, .bool x.yes, .int .i64 x.num, .string x.text, .slice qx x.list.length qc, .slice qy x.fields.length qd] 0 hbw4 (g := w.heap.size + 1) (by omega)
    have hat5 : x.At (sets w4 (w.heap.size + 1) 0 [.string nm, .int .i64 x.kind, .bool x.yes, .int .i64 x.num, .string x.text, .slice qx x.list.length qc, .slice qy x.fields.length qd]) (fun q => w.heap.size ≤ q) (.slice qx x.list.length qc) (.slice qy x.fields.length qd) :=
      V.At.move (fun q hq _ => ⟨by simp at hq; omega, sets_far _ _ _ _ (by simp at hq; omega)⟩) (by rw [sets_size]; exact Nat.le_refl _) _ (Nat.le_refl _) hat
    clear hF x0 x1 x2 x3 x4 x5 x6
    simp only [sets, Nat.zero_add, Nat.reduceAdd] at k0 k1 k2 k3 k4 k5 k6
    go_wp2
    refine bodyPost_ret (v := .agg #[.string nm, .int .i64 x.kind, .bool x.yes, .int .i64 x.num, .string x.text, .slice qx x.list.length qc, .slice qy x.fields.length qd]) (by simp [results, Try.results74, go_sem, k0, k1, k2, k3, k4, k5, k6]) rfl ⟨_, _, rfl, hat5, hb5⟩

end Go.Proofs.Ytacphlceggbfcaa
