/-
  val's clones: fields, and the whole.
-/
import Derived.Test.YtacphlceggbfcaaVClone
namespace Go.Proofs.Ytacphlceggbfcaa
open Go.RowKit

set_option maxHeartbeats 4000000 in
set_option maxRecDepth 100000 in
theorem cloneFields_any (N : Nat) (ih : CloneOK N) (l : List Fd) (hd : ∀ x ∈ l, x.2.dep ≤ N) (hsm : ∀ x ∈ l, x.2.sm) (hlen : l.length ≤ 100000) (lv : Value) (w : World) (hl : FAt w All l lv) :
    Calls Try.prog 73 #[lv, .func (.func 74) #[] #[]] w fun e w' => ∃ lv', e = .returned lv' ∧ FAt w' (fun q => w.heap.size ≤ q) l lv' ∧ Below w.heap.size w w' := by
  obtain ⟨a, c, rfl, hc1, hc2, hcl⟩ := hl
  by_cases h0 : l.length = 0
  · have h0' : ((l.length : Int) == 0) = true := by rw [beq_iff_eq]; omega
    have hln := List.eq_nil_of_length_eq_zero h0
    have HL := Lib.hid hln
    clear h0 hln hcl
    go_enter Try.func73, Try.ntmps73
    go_wp2
    go_ret
    refine ⟨_, rfl, ⟨none, 0, ?_, ?_, ?_, .inl HL.out⟩, Below.refl _ _⟩
    · rw [HL.out]; rfl
    · rw [HL.out]; exact Nat.le_refl _
    · unfold maxLen; omega
  · have h0' : ((l.length : Int) == 0) = false := by rw [beq_eq_false_iff_ne]; omega
    obtain ⟨arr0, hsz0, hmk⟩ := make_any 24 68 _ 7 _ Try.underlying24 madeFlds (by decide) (by decide) l.length hlen
    have HD := Lib.hid hd
    have HSM := Lib.hid hsm
    have H0 := Lib.hid h0
    have HSZ0 := Lib.hid hsz0
    clear hd hsm h0 hsz0
    go_enter Try.func73, Try.ntmps73
    go_wp2_with fail
    go_loopw [16] (fun i wr => ∃ (j : Nat) (arr : Array Value), j ≤ l.length ∧ i = .int .i64 j ∧ Below w.heap.size w wr ∧ Hid (arr.size = l.length * 7) ∧ Box wr w.heap.size 68 arr ∧
      Hid (∀ i (h : i < l.length), i < j → ∃ lv fv, (∀ q u, (.string (l[i]).1 :: (l[i]).2.cells lv fv : List Value)[q]? = some u → arr[i * 7 + q]? = some u) ∧ (l[i]).2.At wr (fun q => w.heap.size < q) lv fv)) (fun i _ => l.length - (intOf i).toNat)
    case atStart => exact ⟨0, arr0, Nat.zero_le _, rfl, (Below.refl _ w).alloc (Nat.le_refl _) _, HSZ0, Box.new w _ _, Lib.hid (fun i h hi => by omega)⟩
    case round =>
      clear hmk
      obtain ⟨j, arr, hj, rfl, hbr, HSZ, hBox, HDone⟩ := hrel
      have hzr := hbr.size
      have hlt0 := hBox.lt
      by_cases hjl : j < l.length
      · have hjl' : (j : Int) < (l.length : Int) := by omega
        obtain ⟨b0, off, ea, hbl, hC⟩ : ∃ b0 off, a = some ⟨b0, off, none⟩ ∧ b0 < wr.heap.size ∧ FCells wr All b0 off l := by
          rcases hcl with h | ⟨b0, off, ea, _, hb, hC⟩
          · rw [h] at hjl; simp at hjl
          · exact ⟨b0, off, ea, Nat.lt_of_lt_of_le hb hbr.size, FCells.keepAll hC hbr hb⟩
        subst ea
        obtain ⟨lx, fx, hin, hel⟩ := hC.get hjl
        have hxd := HD.out _ (List.getElem_mem hjl)
        have hxs := HSM.out _ (List.getElem_mem hjl)
        obtain ⟨xp, hxe⟩ : ∃ y, y = l[j] := ⟨_, rfl⟩
        rw [← hxe] at hin hel hxd hxs
        have HXE := Lib.hid hxe
        clear hxe hC
        obtain ⟨nm, x⟩ := xp
        simp only at hin hel hxd hxs
        replace hel : x.Is wr lx fx := hel
        obtain ⟨⟨px, pc, rfl⟩, ⟨py, pd, rfl⟩, _, _⟩ := hel.len
        obtain ⟨p0, p1, p2, p3, p4, p5, p6⟩ := hin.seven
        have hcall := fun W (hW : Below wr.heap.size wr W) => cloneFd_any N ih nm x _ _ W hxd hxs (V.Is.below hel hW)
        have hb1 : Below wr.heap.size wr (wr.alloc (.cells #[.string nm, .int .i64 x.kind, .bool x.yes, .int .i64 x.num, .string x.text, .slice px x.list.length pc, .slice py x.fields.length pd] 68)) := (Below.refl _ wr).alloc (Nat.le_refl _) _
        have hcall2 := hcall _ hb1
        clear hcall hin hel
        go_wp2_with fail
        refine hcall2.mono ?_
        rintro e w3 ⟨lv', fv', rfl, hat, hb3⟩
        obtain ⟨⟨qx, qc, rfl⟩, ⟨qy, qd, rfl⟩, _, _⟩ := hat.is.len
        have hb3' := hb1.trans (hb3.mono (by simp))
        have hB3 : Box w3 w.heap.size 68 arr := (hb3'.block _ hlt0).trans hBox
        have hszj : j * 7 + 7 ≤ arr.size := by rw [HSZ.out, ← Nat.succ_mul]; exact Nat.mul_le_mul_right _ hjl
        have hcell : ∀ i, i < 7 → w3.cell? ⟨w.heap.size, j * 7 + i, none⟩ = some (arr[j * 7 + i]!) := fun i hi => by
          rw [hB3.cell, getElem!_pos arr (j * 7 + i) (by omega), Array.getElem?_eq_getElem (by omega)]
        have hfree : ∀ i, w3.frozen? ⟨w.heap.size, i, none⟩ = false := fun i => hB3.free i
        have hA3 : x.At w3 (fun q => w.heap.size < q) (.slice qx x.list.length qc) (.slice qy x.fields.length qd) := hat.wider (fun q hq => by simp at hq; omega)
        have k0 := hcell 0 (by omega)
        have k1 := hcell 1 (by omega)
        have k2 := hcell 2 (by omega)
        have k3 := hcell 3 (by omega)
        have k4 := hcell 4 (by omega)
        have k5 := hcell 5 (by omega)
        have k6 := hcell 6 (by omega)
        have f0 := hfree (j * 7 + 0)
        have f1 := hfree (j * 7 + 1)
        have f2 := hfree (j * 7 + 2)
        have f3 := hfree (j * 7 + 3)
        have f4 := hfree (j * 7 + 4)
        have f5 := hfree (j * 7 + 5)
        have f6 := hfree (j * 7 + 6)
        simp only [Nat.add_zero] at k0 f0
        clear hcell hfree hcall2 hb3 hat hszj
        have hb4 : Below w.heap.size w (sets w3 w.heap.size (j * 7) [.string nm, .int .i64 x.kind, .bool x.yes, .int .i64 x.num, .string x.text, .slice qx x.list.length qc, .slice qy x.fields.length qd]) := Below.sets _ _ (hbr.trans (hb3'.mono hzr)) (Nat.le_refl _)
        have hB4 : Box (sets w3 w.heap.size (j * 7) [.string nm, .int .i64 x.kind, .bool x.yes, .int .i64 x.num, .string x.text, .slice qx x.list.length qc, .slice qy x.fields.length qd]) w.heap.size 68 (aset arr (j * 7) [.string nm, .int .i64 x.kind, .bool x.yes, .int .i64 x.num, .string x.text, .slice qx x.list.length qc, .slice qy x.fields.length qd]) := Box.sets _ _ hB3
        have hsz4 : Hid ((aset arr (j * 7) [.string nm, .int .i64 x.kind, .bool x.yes, .int .i64 x.num, .string x.text, .slice qx x.list.length qc, .slice qy x.fields.length qd]).size = l.length * 7) := Lib.hid (by rw [aset_size]; exact HSZ.out)
        have hd4 := Lib.hid (done_step (cof := fun i h a b => .string (l[i]).1 :: (l[i]).2.cells a b) (val := fun i h => (l[i]).2) (fun _ _ _ _ => rfl) j hjl HSZ.out HDone.out (fun q hq => hb3'.block q hq) hb3'.size (.slice qx x.list.length qc) (.slice qy x.fields.length qd) (by simpa only [← HXE.out] using hA3))
        simp only [← HXE.out] at hd4
        clear HSZ HDone hb3' hB3 hA3 hBox
        go_wp2
        go_roundw
        case rel => exact ⟨j + 1, _, by omega, by go_num, hb4, hsz4, hB4, hd4⟩
        case measure => simp [intOf]; omega
      · have hge : ¬ (j : Int) < (l.length : Int) := by omega
        obtain rfl : j = l.length := by omega
        clear hjl
        go_wp2
        go_ret
        refine ⟨_, rfl, ⟨_, _, rfl, Nat.le_refl _, by unfold maxLen; omega, .inr ⟨w.heap.size, 0, rfl, Nat.le_refl _, hlt0, ?_⟩⟩, hbr⟩
        exact FCells.mk fun i hi => by
          obtain ⟨lv', fv', h1, h2⟩ := HDone.out i hi hi
          refine ⟨lv', fv', fun q u hq => ?_, h2.wider (fun q hq => Nat.le_of_lt hq)⟩
          rw [Nat.zero_add, hBox.cell]
          exact h1 q u hq

theorem LAt.move {w w' : World} {S S' : Nat → Prop} {l : List V} {lv : Value} (hm : ∀ b, S b → b < w.heap.size → S' b ∧ w'.heap[b]? = w.heap[b]?) (hz : w.heap.size ≤ w'.heap.size) (h : LAt w S l lv) : LAt w' S' l lv := by
  have h1 : (V.ofList l).At w S lv (.slice none 0 0) := V.at_iff.2 ⟨h, none, 0, rfl, Nat.le_refl _, by unfold maxLen; omega, .inl rfl⟩
  exact (V.at_iff.1 (V.At.move hm hz _ (Nat.le_refl _) h1)).1
theorem FAt.move {w w' : World} {S S' : Nat → Prop} {l : List Fd} {lv : Value} (hm : ∀ b, S b → b < w.heap.size → S' b ∧ w'.heap[b]? = w.heap[b]?) (hz : w.heap.size ≤ w'.heap.size) (h : FAt w S l lv) : FAt w' S' l lv := by
  have h1 : (V.ofMap l).At w S (.slice none 0 0) lv := V.at_iff.2 ⟨⟨none, 0, rfl, Nat.le_refl _, by unfold maxLen; omega, .inl rfl⟩, h⟩
  exact (V.at_iff.1 (V.At.move hm hz _ (Nat.le_refl _) h1)).2

set_option maxHeartbeats 4000000 in
set_option maxRecDepth 100000 in
theorem clone_step (N : Nat) (ih : CloneOK N) : CloneOK (N + 1) := by
  intro v lv fv w hdep hsm his
  obtain ⟨⟨px, pc, rfl⟩, ⟨py, pd, rfl⟩, _, _⟩ := his.len
  have hdl : ∀ x ∈ v.list, x.dep ≤ N := fun x hx => by have := dep_list (v := v) hx; omega
  have hdf : ∀ p ∈ v.fields, p.2.dep ≤ N := fun p hp => by have := dep_fields (v := v) hp; omega
  have hs : (v.list.length ≤ 100000 ∧ v.fields.length ≤ 100000) ∧ (∀ x ∈ v.list, x.sm) ∧ (∀ p ∈ v.fields, p.2.sm) := by
    cases v
    exact ⟨hsm.1, smL_iff.1 hsm.2.1, smF_iff.1 hsm.2.2⟩
  have hbW : Below w.heap.size w ((w.alloc (.cells #[.int .i64 v.kind, .bool v.yes, .int .i64 v.num, .string v.text, .slice px v.list.length pc, .slice py v.fields.length pd] 26)).alloc (.cells #[.int .i64 0, .bool false, .int .i64 0, .string ⟨#[]⟩, .slice none 0 0, .slice none 0 0] 26)) := two_boxes w _ _ _
  have hP : Box ((w.alloc (.cells #[.int .i64 v.kind, .bool v.yes, .int .i64 v.num, .string v.text, .slice px v.list.length pc, .slice py v.fields.length pd] 26)).alloc (.cells #[.int .i64 0, .bool false, .int .i64 0, .string ⟨#[]⟩, .slice none 0 0, .slice none 0 0] 26)) w.heap.size 26 #[.int .i64 v.kind, .bool v.yes, .int .i64 v.num, .string v.text, .slice px v.list.length pc, .slice py v.fields.length pd] := (Box.new w _ _).alloc _
  have hZ : Box ((w.alloc (.cells #[.int .i64 v.kind, .bool v.yes, .int .i64 v.num, .string v.text, .slice px v.list.length pc, .slice py v.fields.length pd] 26)).alloc (.cells #[.int .i64 0, .bool false, .int .i64 0, .string ⟨#[]⟩, .slice none 0 0, .slice none 0 0] 26)) (w.heap.size + 1) 26 #[.int .i64 0, .bool false, .int .i64 0, .string ⟨#[]⟩, .slice none 0 0, .slice none 0 0] := by
    have := Box.new (w.alloc (.cells #[.int .i64 v.kind, .bool v.yes, .int .i64 v.num, .string v.text, .slice px v.list.length pc, .slice py v.fields.length pd] 26)) 26 #[.int .i64 0, .bool false, .int .i64 0, .string ⟨#[]⟩, .slice none 0 0, .slice none 0 0]
    rwa [show (w.alloc (.cells #[.int .i64 v.kind, .bool v.yes, .int .i64 v.num, .string v.text, .slice px v.list.length pc, .slice py v.fields.length pd] 26)).heap.size = w.heap.size + 1 by simp] at this
  have hz0 : ((w.alloc (.cells #[.int .i64 v.kind, .bool v.yes, .int .i64 v.num, .string v.text, .slice px v.list.length pc, .slice py v.fields.length pd] 26)).alloc (.cells #[.int .i64 0, .bool false, .int .i64 0, .string ⟨#[]⟩, .slice none 0 0, .slice none 0 0] 26)).heap.size = w.heap.size + 2 := by simp
  have hcl := cloneList_any N ih v.list hdl hs.2.1 hs.1.1 _ ((w.alloc (.cells #[.int .i64 v.kind, .bool v.yes, .int .i64 v.num, .string v.text, .slice px v.list.length pc, .slice py v.fields.length pd] 26)).alloc (.cells #[.int .i64 0, .bool false, .int .i64 0, .string ⟨#[]⟩, .slice none 0 0, .slice none 0 0] 26)) (V.at_iff.1 (V.Is.below his hbW)).1
  have HCF := Lib.hid (fun W (hW : Below w.heap.size w W) => cloneFields_any N ih v.fields hdf hs.2.2 hs.1.2 _ W (V.at_iff.1 (V.Is.below his hW)).2)
  have HB := Lib.hid (And.intro hbW (And.intro hP (And.intro hZ hz0)))
  clear hsm hdl hdf hs his hbW hP hZ hz0 hdep
  go_enter Try.func50, Try.ntmps50
  go_wp2_with fail
  refine hcl.mono ?_
  rintro e w1 ⟨lv', rfl, hL1, hb1⟩
  obtain ⟨qx, qc, rfl, _, _, _⟩ := id hL1
  obtain ⟨hbW, hP, hZ, hz0⟩ := HB.out
  rw [hz0] at hL1 hb1
  have hP1 : Box w1 w.heap.size 26 #[.int .i64 v.kind, .bool v.yes, .int .i64 v.num, .string v.text, .slice px v.list.length pc, .slice py v.fields.length pd] := (hb1.block _ (by omega)).trans hP
  have hZ1 : Box w1 (w.heap.size + 1) 26 #[.int .i64 0, .bool false, .int .i64 0, .string ⟨#[]⟩, .slice none 0 0, .slice none 0 0] := (hb1.block _ (by omega)).trans hZ
  have hb2 : Below w.heap.size w (w1.setCell ⟨w.heap.size, 4, none⟩ (.slice qx v.list.length qc)) := (hbW.trans (hb1.mono (by omega))).setCell (Nat.le_refl _) _
  have hP2 : Box (w1.setCell ⟨w.heap.size, 4, none⟩ (.slice qx v.list.length qc)) w.heap.size 26 #[.int .i64 v.kind, .bool v.yes, .int .i64 v.num, .string v.text, .slice qx v.list.length qc, .slice py v.fields.length pd] := hP1.setSame 4 _
  have hZ2 : Box (w1.setCell ⟨w.heap.size, 4, none⟩ (.slice qx v.list.length qc)) (w.heap.size + 1) 26 #[.int .i64 0, .bool false, .int .i64 0, .string ⟨#[]⟩, .slice none 0 0, .slice none 0 0] := hZ1.setFar (by show w.heap.size + 1 ≠ w.heap.size; omega) _
  have hL2 : LAt (w1.setCell ⟨w.heap.size, 4, none⟩ (.slice qx v.list.length qc)) (fun q => w.heap.size + 2 ≤ q) v.list (.slice qx v.list.length qc) := LAt.move (fun b hb _ => ⟨hb, Below.heap_setCell w1 ⟨w.heap.size, 4, none⟩ _ b (by show b ≠ w.heap.size; omega)⟩) (by simp [World.setCell]) hL1
  have hcf := HCF.out _ hb2
  have hz1 : w.heap.size + 2 ≤ w1.heap.size := by have := hb1.size; omega
  have hzz : (w1.setCell ⟨w.heap.size, 4, none⟩ (.slice qx v.list.length qc)).heap.size = w1.heap.size := by simp [World.setCell]
  rw [hzz] at hcf
  obtain ⟨⟨x0, x1, x2, x3, x4, x5⟩, f0, f1, f2, f3, f4, f5⟩ := hP1.six
  clear hL1 hb1 hbW hP hZ hz0 hcl hP1 hZ1
  obtain ⟨⟨y0, y1, y2, y3, y4, y5⟩, _⟩ := hP2.six
  have HH := Lib.hid (And.intro hb2 (And.intro hP2 (And.intro hZ2 (And.intro hL2 (And.intro hz1 hzz)))))
  clear hb2 hP2 hZ2 hL2 hz1 hzz
  go_wp2_with fail
  refine hcf.mono ?_
  rintro e w3 ⟨fv', rfl, hF3, hb3⟩
  obtain ⟨qy, qd, rfl, _, _, _⟩ := id hF3
  obtain ⟨hb2, hP2, hZ2, hL2, hz1, hzz⟩ := HH.out
  have hP3 : Box w3 w.heap.size 26 #[.int .i64 v.kind, .bool v.yes, .int .i64 v.num, .string v.text, .slice qx v.list.length qc, .slice py v.fields.length pd] := (hb3.block _ (by omega)).trans hP2
  have hZ3 : Box w3 (w.heap.size + 1) 26 #[.int .i64 0, .bool false, .int .i64 0, .string ⟨#[]⟩, .slice none 0 0, .slice none 0 0] := (hb3.block _ (by omega)).trans hZ2
  have hL3 : LAt w3 (fun q => w.heap.size + 2 ≤ q) v.list (.slice qx v.list.length qc) := LAt.move (fun b hb hlt => ⟨hb, hb3.block b (by omega)⟩) hb3.size hL2
  have hb3w : Below w.heap.size w w3 := hb2.trans (hb3.mono (by omega))
  -- the second store, and the copy into the result
  have hP4 : Box (w3.setCell ⟨w.heap.size, 5, none⟩ (.slice qy v.fields.length qd)) w.heap.size 26 #[.int .i64 v.kind, .bool v.yes, .int .i64 v.num, .string v.text, .slice qx v.list.length qc, .slice qy v.fields.length qd] := hP3.setSame 5 _
  have hZ4 : Box (w3.setCell ⟨w.heap.size, 5, none⟩ (.slice qy v.fields.length qd)) (w.heap.size + 1) 26 #[.int .i64 0, .bool false, .int .i64 0, .string ⟨#[]⟩, .slice none 0 0, .slice none 0 0] := hZ3.setFar (by show w.heap.size + 1 ≠ w.heap.size; omega) _
  have hb4 : Below w.heap.size w (w3.setCell ⟨w.heap.size, 5, none⟩ (.slice qy v.fields.length qd)) := hb3w.setCell (Nat.le_refl _) _
  have hF := Box.sets [.int .i64 v.kind, .bool v.yes, .int .i64 v.num, .string v.text, .slice qx v.list.length qc, .slice qy v.fields.length qd] 0 hZ4
  obtain ⟨⟨k0, k1, k2, k3, k4, k5⟩, _⟩ := Box.six (c0 := .int .i64 v.kind) (c1 := .bool v.yes) (c2 := .int .i64 v.num) (c3 := .string v.text) (c4 := .slice qx v.list.length qc) (c5 := .slice qy v.fields.length qd) hF
  simp only [sets, Nat.zero_add, Nat.reduceAdd] at k0 k1 k2 k3 k4 k5
  have hb5 := Below.sets [.int .i64 v.kind, .bool v.yes, .int .i64 v.num, .string v.text, .slice qx v.list.length qc, .slice qy v.fields.length qd] 0 hb4 (g := w.heap.size + 1) (by omega)
  have hfar : ∀ b, w.heap.size + 2 ≤ b → (sets (w3.setCell ⟨w.heap.size, 5, none⟩ (.slice qy v.fields.length qd)) (w.heap.size + 1) 0 [.int .i64 v.kind, .bool v.yes, .int .i64 v.num, .string v.text, .slice qx v.list.length qc, .slice qy v.fields.length qd]).heap[b]? = w3.heap[b]? := fun b hb =>
    (sets_far _ _ _ _ (by omega)).trans (Below.heap_setCell w3 ⟨w.heap.size, 5, none⟩ _ b (by show b ≠ w.heap.size; omega))
  have hzf : w3.heap.size ≤ (sets (w3.setCell ⟨w.heap.size, 5, none⟩ (.slice qy v.fields.length qd)) (w.heap.size + 1) 0 [.int .i64 v.kind, .bool v.yes, .int .i64 v.num, .string v.text, .slice qx v.list.length qc, .slice qy v.fields.length qd]).heap.size := by rw [sets_size]; simp [World.setCell]
  have hat5 : v.At (sets (w3.setCell ⟨w.heap.size, 5, none⟩ (.slice qy v.fields.length qd)) (w.heap.size + 1) 0 [.int .i64 v.kind, .bool v.yes, .int .i64 v.num, .string v.text, .slice qx v.list.length qc, .slice qy v.fields.length qd]) (fun q => w.heap.size ≤ q) (.slice qx v.list.length qc) (.slice qy v.fields.length qd) :=
    V.at_iff.2 ⟨LAt.move (fun b hb _ => ⟨by omega, hfar b hb⟩) hzf hL3, FAt.move (fun b hb _ => ⟨by omega, hfar b (by omega)⟩) hzf hF3⟩
  obtain ⟨⟨u0, u1, u2, u3, u4, u5⟩, g0, g1, g2, g3, g4, g5⟩ := hP3.six
  obtain ⟨⟨t0, t1, t2, t3, t4, t5⟩, r0, r1, r2, r3, r4, r5⟩ := hP4.six
  obtain ⟨⟨z0, z1, z2, z3, z4, z5⟩, s0, s1, s2, s3, s4, s5⟩ := hZ4.six
  clear hF hP4 hZ4 hP3 hZ3 hL3 hb3w hF3 hb3 hb2 hP2 hZ2 hL2 hz1 hzz hcf hfar hzf x0 x1 x2 x3 x4 x5 f0 f1 f2 f3 f4 f5 y0 y1 y2 y3 y4 y5 hb4
  go_wp2
  refine bodyPost_ret (v := .agg #[.int .i64 v.kind, .bool v.yes, .int .i64 v.num, .string v.text, .slice qx v.list.length qc, .slice qy v.fields.length qd]) (by simp [results, Try.results50, go_sem, k0, k1, k2, k3, k4, k5]) rfl ⟨_, _, rfl, hat5, hb5⟩

theorem clone_all : ∀ N, CloneOK N
  | 0 => fun v lv fv w hd _ _ => by
    cases v
    rw [V.dep] at hd
    omega
  | N + 1 => clone_step N (clone_all N)

theorem vclone_any (v : V) (lv fv : Value) (w : World) (hs : v.sm) (h : v.Is w lv fv) :
    Calls Try.prog 50 #[.agg #[.int .i64 v.kind, .bool v.yes, .int .i64 v.num, .string v.text, lv, fv]] w (CloneP v w) := clone_all v.dep v lv fv w (Nat.le_refl _) hs h

end Go.Proofs.Ytacphlceggbfcaa
