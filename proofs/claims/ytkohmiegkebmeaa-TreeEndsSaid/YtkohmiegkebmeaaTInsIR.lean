/-
  slices.Insert of one element of 1 cells into a row that the call owns (trees of int).
-/
import Derived.Test.YtkohmiegkebmeaaTBox
import Derived.Test.YtkohmiegkebmeaaCopyK
import Derived.Shelf.Spec.SlicesInsertGrow
namespace Go.Proofs.Ytkohmiegkebmeaa.tIR
open Go.RowKit Go.Lib

set_option linter.unusedVariables false

theorem infoE : (Try.prog.info? 65).map (fun i => (i.zero, i.size, i.bytes)) = some (some (.slice none 0 0), 1, 24) := by kernel_rfl

def insC (cs : List Value) (i : Nat) (es : List Value) : List Value := cs.take (i * 1) ++ (es ++ cs.drop (i * 1))

def InsP (w : World) (B : Nat) (v : Value) (n : Nat) (cs : List Value) (e : Ending) (w' : World) : Prop := ∃ v', e = .returned v' ∧ RowK 65 1 B w' v' n cs ∧ Up w v w' v'

/-- a row behind an insert, by its block -/
theorem inserted {w' : World} {B n i G C : Nat} {cs es : List Value} {arr : Array Value} (hi : i ≤ n) (hcs : cs.length = n * 1) (hes : es.length = 1) (h1c : ∀ u ∈ cs, u.oneCell' = true) (h1e : ∀ u ∈ es, u.oneCell' = true)
    (hbox : Box w' G 65 arr) (hsz : arr.size = C * 1) (hC : n + 1 ≤ C) (hC2 : C ≤ maxLen) (hG : B ≤ G)
    (h1 : ∀ q, q < i * 1 → arr[q]? = cs[q]?) (h2 : ∀ q, q < 1 → arr[i * 1 + q]? = es[q]?) (h3 : ∀ q, q < (n - i) * 1 → arr[(i + 1) * 1 + q]? = cs[i * 1 + q]?) :
    RowK 65 1 B w' (.slice (some ⟨G, 0, none⟩) (n + 1) C) (n + 1) (insC cs i es) := by
  have htl : (cs.take (i * 1)).length = i * 1 := by rw [List.length_take]; omega
  refine RowK.mk hbox hsz hG hC hC2 ?_ (fun q hq => ?_) (fun u hu => ?_)
  · unfold insC
    rw [List.length_append, List.length_append, htl, hes, List.length_drop]
    omega
  · unfold insC
    by_cases a : q < i * 1
    · rw [List.getElem?_append_left (by omega), List.getElem?_take, if_pos a, h1 q a]
    · rw [List.getElem?_append_right (by omega), htl]
      by_cases b : q - i * 1 < 1
      · rw [List.getElem?_append_left (by omega), ← h2 _ b]
        congr 1
        omega
      · rw [List.getElem?_append_right (by omega), hes, List.getElem?_drop, ← h3 (q - i * 1 - 1) (by omega)]
        congr 1
        omega
  · unfold insC at hu
    rcases List.mem_append.1 hu with hu | hu
    · exact h1c u (List.mem_of_mem_take hu)
    · rcases List.mem_append.1 hu with hu | hu
      · exact h1e u hu
      · exact h1c u (List.mem_of_mem_drop hu)

abbrev TT := 45

set_option maxHeartbeats 4000000 in
set_option maxRecDepth 100000 in
/-- at the end -/
theorem ins_end {w : World} {B n vb : Nat} {vv : Value} {cs es : List Value} (hrow : RowK 65 1 B w vv n cs) (hn9 : n ≤ 100000) (hB : B ≤ w.heap.size) (hes : es.length = 1) (h1e : ∀ u ∈ es, u.oneCell' = true) (hv : Box w vb 65 es.toArray) :
    Calls Try.prog 41 #[vv, .int .i64 n, .slice (some ⟨vb, 0, none⟩) 1 1] w (InsP w B vv (n + 1) (insC cs n es)) := by
  obtain ⟨a, c, rfl, hc1, hc2⟩ := hrow.form
  obtain ⟨i, hi, hz, hi1, hi2⟩ := info_parts infoE
  have hcl := hrow.len
  have hnews : ∀ j u, es[j]? = some u → w.cell? ((⟨vb, 0, none⟩ : Addr).add j) = some u := by
    intro j u hj
    rw [addr_at, hv.cell]
    simpa using hj
  obtain ⟨v', w', hr, ho', hu⟩ := run_app (P := Try.prog) w B TT TT 65 i _ 1 24 Try.underlying45 hi hz hi1 hi2 rfl (by decide) _ n cs hrow.1 ⟨vb, 0, none⟩ 1 1 es (by omega) hnews h1e (by unfold maxLen; omega) (by omega) hB
  have hfin : RowK 65 1 B w' v' (n + 1) (insC cs n es) := by
    have e : insC cs n es = cs ++ es := by
      unfold insC
      rw [List.take_of_length_le (by omega), List.drop_of_length_le (by omega), List.append_nil]
    rw [e]
    refine ⟨ho', fun u hu => ?_⟩
    rcases List.mem_append.1 hu with hu | hu
    · exact hrow.2 u hu
    · exact h1e u hu
  have HF : Hid (InsP w B (.slice a n c) (n + 1) (insC cs n es) (.returned v') w') := Lib.hid ⟨v', rfl, hfin, hu⟩
  obtain ⟨va, vc, rfl, _, _⟩ := hfin.form
  have h48 : (n : Int) ≤ (c : Int) := by omega
  have hc63 : (c : Int) ≤ 9223372036854775807 := by unfold maxLen at hc2; omega
  have h01 : ¬ ((1 : Int) = 0) := by omega
  clear hfin hu hcl hnews ho' hv hrow
  go_enter Try.func41, Try.ntmps41
  cases a with
  | none =>
    go_wp2_with (at_builtin; refine Lib.wpList_append_run _ rfl _ _ _ _ rfl _ _ rfl rfl _ _ hr ?_)
    go_ret
    exact HF.out
  | some ad =>
    obtain ⟨ab, ao, asp⟩ := ad
    go_wp2_with (at_builtin; refine Lib.wpList_append_run _ rfl _ _ _ _ rfl _ _ rfl rfl _ _ hr ?_)
    all_goals (go_ret; exact HF.out)

set_option maxHeartbeats 4000000 in
set_option maxRecDepth 100000 in
/-- there is room -/
theorem ins_shift {w : World} {B n i c g vb : Nat} {cs fc : List Value} (hrow : RowK 65 1 B w (.slice (some ⟨g, 0, none⟩) n c) n cs) (hn9 : n ≤ 100000) (hi : i < n) (hroom : n + 1 ≤ c) (hvb : vb ≠ g)
    (hfl : fc.length = 1) (hone : ∀ u ∈ fc, u.oneCell' = true) (hv : Box w vb 65 fc.toArray) :
    Calls Try.prog 41 #[.slice (some ⟨g, 0, none⟩) n c, .int .i64 i, .slice (some ⟨vb, 0, none⟩) 1 1] w (InsP w B (.slice (some ⟨g, 0, none⟩) n c) (n + 1) (insC cs i fc)) := by
  obtain ⟨ti, hti, hz, hi1, hi2⟩ := info_parts infoE
  have hsz : (Try.prog.info? 65).map (·.size) = some 1 := by rw [hti]; simp [hi1]
  obtain ⟨cur, hbox, hcz, hgB, _, hcm, hcq⟩ := hrow.parts
  have hcl := hrow.len
  have honc := hrow.2
  have hc63 : c ≤ 9223372036854775807 := by unfold maxLen at hcm; omega
  obtain ⟨c1, hc1⟩ : ∃ c1, c1 = cs.drop (i * 1) := ⟨_, rfl⟩
  have hc1l : c1.length = (n - i) * 1 := by rw [hc1, List.length_drop, hcl]; omega
  have hov : ∀ lb cb, (callFunc 57 #[.slice (some ⟨vb, 0, none⟩) 1 1, .slice (some ⟨g, (i + 1) * 1, none⟩) lb cb]).run Try.prog w = .ok (.value (.bool false)) w := fun lb cb => by
    rw [run_callFunc_extern Try.func57 (by kernel_rfl) (by kernel_rfl) (by kernel_rfl) (e := Extern.SlicesOverlaps.overlaps #[45, 45] #[4]) (by kernel_rfl),
      Lib.run_overlaps_apart w 45 4 65 Try.underlying45 1 (fun w => by simp [Go.sizeOf, typeInfo, hti, hi1]) ⟨vb, 0, none⟩ ⟨g, (i + 1) * 1, none⟩ 1 1 lb cb hvb 65 65 1 (c * 1) (by unfold Box at hv; simp [World.shape?, hv, hfl]) (by unfold Box at hbox; simp [World.shape?, hbox, hcz]) (by omega) (hv.free 0) (hv.free 1)]
    rfl
  have hcell : ∀ q, q < c * 1 → (w.cell? ⟨g, q, none⟩).isSome = true := fun q hq => by rw [hbox.cell, Array.getElem?_eq_getElem (by omega)]; rfl
  have hcp1 : ∀ ty dc sc, (Builtin.copy_ #[TT, TT] ty #[.slice (some ⟨g, (i + 1) * 1, none⟩) (n - i) dc, .slice (some ⟨g, i * 1, none⟩) (n + 1 - i) sc]).run Try.prog w.drew = .ok (goInt ((n - i : Nat) : Int)) (w.drew.setCells g ((i + 1) * 1) c1) := fun ty dc sc =>
    run_copy_cellsK w.drew _ _ ty 65 1 g ((i + 1) * 1) (n - i) dc ⟨g, i * 1, none⟩ (n + 1 - i) sc (n - i) c1 Try.underlying45 hsz (by simp only [Nat.min_def]; split <;> omega) hc1l
      (fun j v hj => by
        have e : ((⟨g, i * 1, none⟩ : Addr).add j) = ⟨g, i * 1 + j, none⟩ := by unfold Addr.add; by_cases h0 : j = 0 <;> simp [h0]
        rw [e]
        show w.cell? ⟨g, i * 1 + j, none⟩ = some v
        rw [hc1, List.getElem?_drop] at hj
        rw [hbox.cell, hcq _ (by have := (List.getElem?_eq_some_iff.1 hj).1; omega)]
        exact hj)
      (fun j hj => hcell _ (by omega)) (fun j hj => hbox.free _) (fun u hu => honc u (by rw [hc1] at hu; exact List.mem_of_mem_drop hu))
  obtain ⟨W1, hW1⟩ : ∃ W1, W1 = w.drew.setCells g ((i + 1) * 1) c1 := ⟨_, rfl⟩
  have hboxD : Box w.drew g 65 cur := hbox
  have hvD : Box w.drew vb 65 fc.toArray := hv
  have hb1 : Box W1 g 65 (aset cur ((i + 1) * 1) c1) := by rw [hW1, setCells_sets]; exact hboxD.sets c1 _
  have hv1 : Box W1 vb 65 fc.toArray := by rw [hW1, setCells_sets]; exact (sets_far c1 w.drew _ vb hvb).trans hvD
  have hcp2 : ∀ (W : World), (∀ x, W.cell? x = W1.cell? x) → (∀ x, W.frozen? x = W1.frozen? x) → ∀ ty dc, (Builtin.copy_ #[TT, TT] ty #[.slice (some ⟨g, i * 1, none⟩) (n + 1 - i) dc, .slice (some ⟨vb, 0, none⟩) 1 1]).run Try.prog W = .ok (goInt ((1 : Nat) : Int)) (W.setCells g (i * 1) fc) := fun W hWc hWf ty dc =>
    run_copy_cellsK W _ _ ty 65 1 g (i * 1) (n + 1 - i) dc ⟨vb, 0, none⟩ 1 1 1 fc Try.underlying45 hsz (by simp only [Nat.min_def]; split <;> omega) (by omega)
      (fun j v hj => by
        have e : ((⟨vb, 0, none⟩ : Addr).add j) = ⟨vb, j, none⟩ := by unfold Addr.add; by_cases h0 : j = 0 <;> simp [h0]
        rw [e, hWc, hv1.cell]
        simpa using hj)
      (fun j hj => by rw [hWc, hb1.cell, Array.getElem?_eq_getElem (by rw [aset_size]; omega)]; rfl) (fun j hj => by rw [hWf]; exact hb1.free _) hone
  have hfin : Hid (∀ W : World, W.heap = W1.heap → W.os = w.os → W.tape = w.tape → W.output = w.output → InsP w B (.slice (some ⟨g, 0, none⟩) n c) (n + 1) (insC cs i fc) (.returned (.slice (some ⟨g, 0, none⟩) (n + 1) c)) (W.setCells g (i * 1) fc)) := Lib.hid fun W hh ho ht hp => by
    rw [setCells_sets]
    have hbW : Box W g 65 (aset cur ((i + 1) * 1) c1) := by unfold Box; rw [hh]; exact hb1
    have hb2 := hbW.sets fc (i * 1)
    have hfar : ∀ q, q ≠ g → (sets W g (i * 1) fc).heap[q]? = w.heap[q]? := fun q hq => by
      rw [sets_far _ _ _ _ hq, hh, hW1, setCells_sets, sets_far _ _ _ _ hq]; rfl
    have hsize : (sets W g (i * 1) fc).heap.size = w.heap.size := by rw [sets_size, hh, hW1, setCells_sets, sets_size]; rfl
    have hbel := Below.sets fc (i * 1) (Below.refl 0 W) (g := g) (Nat.zero_le _)
    refine ⟨_, rfl, ?_, ⟨hbel.os.trans ho, hbel.tape.trans ht, hbel.output.trans hp, by rw [hsize]; exact Nat.le_refl _, fun q _ hne => hfar q fun e => hne (by rw [e]; rfl)⟩, .inl rfl⟩
    refine inserted (by omega) hcl hfl honc hone hb2 (by rw [aset_size, aset_size, hcz]) hroom hcm hgB ?_ ?_ ?_
    · intro q hq
      rw [aset_far _ _ _ _ (by omega), aset_far _ _ _ _ (by omega)]
      exact hcq q (by omega)
    · intro q hq
      rw [List.getElem?_eq_getElem (by omega)]
      exact aset_get fc _ (i * 1) (by rw [aset_size]; omega) q _ (List.getElem?_eq_getElem (by omega))
    · intro q hq
      rw [aset_far _ _ _ _ (by omega)]
      have h9 : q < c1.length := by omega
      have := aset_get c1 cur ((i + 1) * 1) (by omega) q _ (List.getElem?_eq_getElem h9)
      rw [this, ← List.getElem?_eq_getElem h9, hc1, List.getElem?_drop]
  have hww : Hid (W1.os = w.os ∧ W1.tape = w.tape ∧ W1.output = w.output) := Lib.hid (by
    have hbel := Below.sets c1 ((i + 1) * 1) (Below.refl 0 w.drew) (g := g) (Nat.zero_le _)
    rw [hW1, setCells_sets]
    exact ⟨hbel.os, hbel.tape, hbel.output⟩)
  have mixed : Try.prog.follows Departure.mixedOrders = true := by kernel_rfl
  have hw1 : IntKind.i64.wrap ((i : Int) + (1 : Int)) = (i : Int) + (1 : Int) := by rw [IntKind.wrap_i64]; omega
  have hz1 : ¬ ((1 : Int) = 0) := by omega
  have hz2 : ¬ ((i : Int) = (n : Int)) := by omega
  have hb1' : (0 : Int) ≤ (i : Int) + (1 : Int) := by omega
  have hin : i ≤ n := by omega
  have htn : ((i : Int) + (1 : Int)).toNat = i + 1 := by omega
  have hb2' : ¬ (c = i + 1) := by omega
  have hb3 : (i : Int) ≤ (n : Int) + (1 : Int) := by omega
  have hb4 : ¬ (c = i) := by omega
  rw [← hW1] at hcp1
  clear hcq honc hone hcell hboxD hvD hb1 hv1 hc1l hbox hcz hW1 hc1 hv hrow hfl hcl hgB hcm hti hz hi1 hi2 hsz
  simp only [Nat.mul_one] at hov hcp1 hcp2 hfin
  go_enter Try.func41, Try.ntmps41
  go_wp2_with (simp only [hov])
  go_region_law_o (refine Go.Proofs.step_copy_runI rfl _ _ TT TT rfl _ _ (by simp [Act.eval, Act.put]) (by simp [Act.eval, Act.put]) (hcp1 _ _ _) ?_)
  have HD0 := Lib.hid (hfin.out W1 rfl hww.out.1 hww.out.2.1 hww.out.2.2)
  clear hfin hww hcp1 hov
  go_wp2_with (at_builtin; refine Go.Proofs.wpList_copy_runI _ rfl _ _ TT TT rfl _ _ rfl rfl (hcp2 _ (fun _ => rfl) (fun _ => rfl) _ _) ?_)
  go_ret
  exact HD0.out

set_option maxHeartbeats 4000000 in
set_option maxRecDepth 100000 in
/-- there is no room -/
theorem ins_grow {w : World} {B n i c g vb : Nat} {cs fc : List Value} (hrow : RowK 65 1 B w (.slice (some ⟨g, 0, none⟩) n c) n cs) (hn9 : n ≤ 100000) (hi : i < n) (hroom : c < n + 1) (hB : B ≤ w.heap.size)
    (hfl : fc.length = 1) (hone : ∀ u ∈ fc, u.oneCell' = true) (hv : Box w vb 65 fc.toArray) :
    Calls Try.prog 41 #[.slice (some ⟨g, 0, none⟩) n c, .int .i64 i, .slice (some ⟨vb, 0, none⟩) 1 1] w (InsP w B (.slice (some ⟨g, 0, none⟩) n c) (n + 1) (insC cs i fc)) := by
  obtain ⟨ti, hti, hz, hi1, hi2⟩ := info_parts infoE
  have hsz : (Try.prog.info? 65).map (·.size) = some 1 := by rw [hti]; simp [hi1]
  obtain ⟨cur, hbox, hcz, hgB, hnc, hcm, hcq⟩ := hrow.parts
  have hcl := hrow.len
  have honc := hrow.2
  have hc63 : c ≤ 9223372036854775807 := by unfold maxLen at hcm; omega
  obtain ⟨c1, hc1⟩ : ∃ c1, c1 = cs.drop (i * 1) := ⟨_, rfl⟩
  have hc1l : c1.length = (n - i) * 1 := by rw [hc1, List.length_drop, hcl]; omega
  have hgw := hbox.lt
  have hvw := hv.lt
  obtain ⟨zz, hzz⟩ : ∃ zz : Value, zz = .slice none 0 0 := ⟨_, rfl⟩
  rw [← hzz] at hz
  have hzc : zz.cells.size = 1 := by rw [hzz]; rfl
  have hold0 : (Builtin.firstCells ti.size i (.slice (some ⟨g, 0, none⟩) i c)).run Try.prog w.drew = .ok (cs.take (i * 1)).toArray w.drew := by
    rw [hi1]
    exact run_firstCells_some w.drew 1 i ⟨g, 0, none⟩ i c (cs.take (i * 1)) (by rw [List.length_take, hcl]; omega) (fun j v hj => by
      have e : ((⟨g, 0, none⟩ : Addr).add j) = ⟨g, j, none⟩ := by unfold Addr.add; by_cases h0 : j = 0 <;> simp [h0]
      rw [e]
      show w.cell? ⟨g, j, none⟩ = some v
      rw [List.getElem?_take] at hj
      split at hj
      · rw [hbox.cell, hcq _ (by omega)]; exact hj
      · cases hj)
  have hkk : (n : Int) + (1 : Int) - (i : Int) = ((n + 1 - i : Nat) : Int) := by omega
  have hik : i + (n + 1 - i) = n + 1 := by omega
  obtain ⟨G, hG⟩ : ∃ G, G = grownCap w (n + 1) c 65 := ⟨_, rfl⟩
  have hGn : n + 1 ≤ G := by rw [hG]; exact grownCap_ge w _ _ _
  have hGm : G ≤ maxLen := by rw [hG]; exact grownCap_le_maxLen w (n + 1) c 65 (by unfold maxLen; omega)
  obtain ⟨ROW, hROW⟩ : ∃ ROW : Array Value, ROW = (cs.take (i * 1)).toArray ++ Builtin.zeroCells zz.cells (n + 1 - i) ++ Builtin.zeroCells zz.cells (G - (n + 1)) := ⟨_, rfl⟩
  have hrz : ∀ ty, (Builtin.append_ #[TT, 3] ty #[.slice (some ⟨g, 0, none⟩) i c, .int .i64 ((n : Int) + (1 : Int) - (i : Int))]).run Try.prog w =
      .ok (.slice (some ⟨w.heap.size, 0, none⟩) (n + 1) G) (w.drew.alloc (.cells ROW 65)) := fun ty => by
    have h := Lib.run_append_grow_zeros (P := Try.prog) w TT 3 ty 65 ti zz .i64 .i64 Try.underlying45 Try.underlying3 hti hz (some ⟨g, 0, none⟩) i c (cs.take (i * 1)) hold0 (n + 1 - i) (by omega) (by omega) (by omega) (by omega) (by rw [hi2]; omega) (by rw [hi2, hik]; exact growslice_fits hroom (by omega))
    rw [hik] at h
    rw [hkk, hROW, hG]
    exact h
  have hRsz : ROW.size = G * 1 := by
    rw [hROW]
    simp only [Array.size_append, List.size_toArray, List.length_take, hcl]
    rw [size_zeroCells, size_zeroCells, hzc]
    omega
  have hR1 : ∀ q, q < i * 1 → ROW[q]? = cs[q]? := fun q hq => by
    rw [hROW, Array.append_assoc, Array.getElem?_append_left (by simp [hcl]; omega), List.getElem?_toArray, List.getElem?_take, if_pos hq]
  obtain ⟨W1, hW1⟩ : ∃ W1, W1 = w.drew.alloc (.cells ROW 65) := ⟨_, rfl⟩
  rw [← hW1] at hrz
  have hN : Box W1 w.heap.size 65 ROW := by rw [hW1]; exact Box.new w.drew _ _
  have hfar1 : ∀ q, q < w.heap.size → W1.heap[q]? = w.heap[q]? := fun q hq => by rw [hW1]; exact Below.heap_alloc w.drew _ q hq
  have hsz1 : W1.heap.size = w.heap.size + 1 := by
    rw [hW1]
    generalize hd : w.drew = wd
    have : wd.heap.size = w.heap.size := by rw [← hd]; rfl
    rw [← this]
    simp
  have hv1 : Box W1 vb 65 fc.toArray := (hfar1 vb hvw).trans hv
  have hcpA : ∀ (W : World), (∀ x, W.cell? x = W1.cell? x) → (∀ x, W.frozen? x = W1.frozen? x) → ∀ ty dc, (Builtin.copy_ #[TT, TT] ty #[.slice (some ⟨w.heap.size, i * 1, none⟩) (n + 1 - i) dc, .slice (some ⟨vb, 0, none⟩) 1 1]).run Try.prog W = .ok (goInt ((1 : Nat) : Int)) (W.setCells w.heap.size (i * 1) fc) := fun W hWc hWf ty dc =>
    run_copy_cellsK W _ _ ty 65 1 w.heap.size (i * 1) (n + 1 - i) dc ⟨vb, 0, none⟩ 1 1 1 fc Try.underlying45 hsz (by simp only [Nat.min_def]; split <;> omega) (by omega)
      (fun j v hj => by
        have e : ((⟨vb, 0, none⟩ : Addr).add j) = ⟨vb, j, none⟩ := by unfold Addr.add; by_cases h0 : j = 0 <;> simp [h0]
        rw [e, hWc, hv1.cell]
        simpa using hj)
      (fun j hj => by rw [hWc, hN.cell, Array.getElem?_eq_getElem (by omega)]; rfl) (fun j hj => by rw [hWf]; exact hN.free _) hone
  obtain ⟨W2, hW2⟩ : ∃ W2, W2 = W1.setCells w.heap.size (i * 1) fc := ⟨_, rfl⟩
  have hN2 : Box W2 w.heap.size 65 (aset ROW (i * 1) fc) := by rw [hW2, setCells_sets]; exact hN.sets fc _
  have hg2 : Box W2 g 65 cur := by rw [hW2, setCells_sets]; exact (sets_far fc W1 _ g (by omega)).trans ((hfar1 g hgw).trans hbox)
  have hcpB : ∀ (W : World), (∀ x, W.cell? x = W2.cell? x) → (∀ x, W.frozen? x = W2.frozen? x) → ∀ ty dc sc, (Builtin.copy_ #[TT, TT] ty #[.slice (some ⟨w.heap.size, (i + 1) * 1, none⟩) (n - i) dc, .slice (some ⟨g, i * 1, none⟩) (n - i) sc]).run Try.prog W = .ok (goInt ((n - i : Nat) : Int)) (W.setCells w.heap.size ((i + 1) * 1) c1) := fun W hWc hWf ty dc sc =>
    run_copy_cellsK W _ _ ty 65 1 w.heap.size ((i + 1) * 1) (n - i) dc ⟨g, i * 1, none⟩ (n - i) sc (n - i) c1 Try.underlying45 hsz (by simp only [Nat.min_def]; split <;> omega) hc1l
      (fun j v hj => by
        have e : ((⟨g, i * 1, none⟩ : Addr).add j) = ⟨g, i * 1 + j, none⟩ := by unfold Addr.add; by_cases h0 : j = 0 <;> simp [h0]
        rw [e, hWc, hg2.cell]
        rw [hc1, List.getElem?_drop] at hj
        rw [hcq _ (by have := (List.getElem?_eq_some_iff.1 hj).1; omega)]
        exact hj)
      (fun j hj => by rw [hWc, hN2.cell, Array.getElem?_eq_getElem (by rw [aset_size]; omega)]; rfl) (fun j hj => by rw [hWf]; exact hN2.free _) (fun u hu => honc u (by rw [hc1] at hu; exact List.mem_of_mem_drop hu))
  have hfin : Hid (∀ W : World, W.heap = W2.heap → W.os = w.os → W.tape = w.tape → W.output = w.output → InsP w B (.slice (some ⟨g, 0, none⟩) n c) (n + 1) (insC cs i fc) (.returned (.slice (some ⟨w.heap.size, 0, none⟩) (n + 1) G)) (W.setCells w.heap.size ((i + 1) * 1) c1)) := Lib.hid fun W hh ho ht hp => by
    rw [setCells_sets]
    have hbW : Box W w.heap.size 65 (aset ROW (i * 1) fc) := by unfold Box; rw [hh]; exact hN2
    have hb2 := hbW.sets c1 ((i + 1) * 1)
    have hfar : ∀ q, q < w.heap.size → (sets W w.heap.size ((i + 1) * 1) c1).heap[q]? = w.heap[q]? := fun q hq => by
      rw [sets_far _ _ _ _ (by omega), hh, hW2, setCells_sets, sets_far _ _ _ _ (by omega)]; exact hfar1 q hq
    have hsize : (sets W w.heap.size ((i + 1) * 1) c1).heap.size = w.heap.size + 1 := by rw [sets_size, hh, hW2, setCells_sets, sets_size]; exact hsz1
    have hbel := Below.sets c1 ((i + 1) * 1) (Below.refl 0 W) (g := w.heap.size) (Nat.zero_le _)
    refine ⟨_, rfl, ?_, ⟨hbel.os.trans ho, hbel.tape.trans ht, hbel.output.trans hp, by rw [hsize]; omega, fun q hq _ => hfar q hq⟩, .inr fun k hk => by
      have : w.heap.size = k := by simpa [Value.ownBlock] using hk
      omega⟩
    refine inserted (by omega) hcl hfl honc hone hb2 (by rw [aset_size, aset_size, hRsz]) hGn hGm hB ?_ ?_ ?_
    · intro q hq
      rw [aset_far _ _ _ _ (by omega), aset_far _ _ _ _ (by omega)]
      exact hR1 q hq
    · intro q hq
      rw [aset_far _ _ _ _ (by omega), List.getElem?_eq_getElem (by omega)]
      exact aset_get fc _ (i * 1) (by omega) q _ (List.getElem?_eq_getElem (by omega))
    · intro q hq
      have h9 : q < c1.length := by omega
      have := aset_get c1 (aset ROW (i * 1) fc) ((i + 1) * 1) (by rw [aset_size]; omega) q _ (List.getElem?_eq_getElem h9)
      rw [this, ← List.getElem?_eq_getElem h9, hc1, List.getElem?_drop]
  have hww : Hid (W2.os = w.os ∧ W2.tape = w.tape ∧ W2.output = w.output) := Lib.hid (by
    have hbel := Below.sets fc (i * 1) (Below.refl 0 W1) (g := w.heap.size) (Nat.zero_le _)
    rw [hW2, setCells_sets]
    rw [hW1] at hbel ⊢
    exact ⟨hbel.os, hbel.tape, hbel.output⟩)
  have mixed : Try.prog.follows Departure.mixedOrders = true := by kernel_rfl
  have hw1 : IntKind.i64.wrap ((i : Int) + (1 : Int)) = (i : Int) + (1 : Int) := by rw [IntKind.wrap_i64]; omega
  have hz1 : ¬ ((1 : Int) = 0) := by omega
  have hz2 : ¬ ((i : Int) = (n : Int)) := by omega
  have hz3 : (c : Int) < (n : Int) + (1 : Int) := by omega
  have hb1' : (0 : Int) ≤ (i : Int) + (1 : Int) := by omega
  have hin : i ≤ n := by omega
  have htn : ((i : Int) + (1 : Int)).toNat = i + 1 := by omega
  have hb3 : (i : Int) ≤ (n : Int) := by omega
  have hG63 : G ≤ 9223372036854775807 := by unfold maxLen at hGm; omega
  have hGi : ¬ (G = i) := by omega
  have hGim : ¬ (G = i + 1) := by omega
  have hci : ¬ (c = i) := by omega
  have hE1 : ∀ x, ((w.alloc (.cells ROW 65)).drew).cell? x = W1.cell? x := by rw [hW1]; exact fun x => rfl
  have hE2 : ∀ x, ((w.alloc (.cells ROW 65)).drew).frozen? x = W1.frozen? x := by rw [hW1]; exact fun x => rfl
  have hF1 : ∀ x, (((w.alloc (.cells ROW 65)).drew.setCells w.heap.size (i * 1) fc).drew).cell? x = W2.cell? x := by rw [hW2, hW1]; exact fun x => rfl
  have hF2 : ∀ x, (((w.alloc (.cells ROW 65)).drew.setCells w.heap.size (i * 1) fc).drew).frozen? x = W2.frozen? x := by rw [hW2, hW1]; exact fun x => rfl
  have hEW : W2.heap = (((w.alloc (.cells ROW 65)).drew.setCells w.heap.size (i * 1) fc).drew).heap := by rw [hW2, hW1]; rfl
  have HD1 : Hid (InsP w B (.slice (some ⟨g, 0, none⟩) n c) (n + 1) (insC cs i fc) (.returned (.slice (some ⟨w.heap.size, 0, none⟩) (n + 1) G)) ((((w.alloc (.cells ROW 65)).drew.setCells w.heap.size (i * 1) fc).drew).setCells w.heap.size ((i + 1) * 1) c1)) := Lib.hid (hfin.out _ hEW.symm (by rw [← hww.out.1, hW2, hW1]; rfl) (by rw [← hww.out.2.1, hW2, hW1]; rfl) (by rw [← hww.out.2.2, hW2, hW1]; rfl))
  subst hW2
  subst hW1
  clear hfin hww hEW hcq honc hone hv1 hc1l hbox hcz hc1 hv hrow hfl hcl hgB hcm hti hz hi1 hi2 hsz hN hN2 hg2 hfar1 hsz1 hR1 hRsz hROW hG hzz hzc hold0 hkk hik hGm
  simp only [Nat.mul_one] at hrz hcpA hcpB hE1 hE2 hF1 hF2 HD1
  go_enter Try.func41, Try.ntmps41
  go_wp2_with (first
    | (at_builtin; refine Lib.wpList_append_run _ rfl _ _ _ _ rfl _ _ rfl rfl _ _ (hrz _) ?_)
    | (at_builtin; refine Go.Proofs.wpList_copy_runI _ rfl _ _ TT TT rfl _ _ rfl rfl (hcpA _ hE1 hE2 _ _) ?_)
    | (at_builtin; refine Go.Proofs.wpList_copy_runI _ rfl _ _ TT TT rfl _ _ rfl rfl (hcpB _ (fun _ => rfl) (fun _ => rfl) _ _ _) ?_))
  go_region_law_o (refine Go.Proofs.step_copy_runI rfl _ _ TT TT rfl (.slice (some ⟨w.heap.size, i + 1, none⟩) (n - i) (G - (i + 1))) (.slice (some ⟨g, i, none⟩) (n - i) (c - i)) (by simp [Act.eval, Act.put]) (by simp [Act.eval, Act.put]) (hcpB _ hF1 hF2 _ _ _) ?_)
  clear hcpA hcpB hrz hE1 hE2 hF1 hF2
  go_wp2
  go_ret
  exact HD1.out

/-- of whatever row -/
theorem ins_any {w : World} {B n i vb : Nat} {vv : Value} {cs es : List Value} (hrow : RowK 65 1 B w vv n cs) (hn9 : n ≤ 100000) (hi : i ≤ n) (hB : B ≤ w.heap.size) (hvb : vv.ownBlock ≠ some vb) (hes : es.length = 1) (h1e : ∀ u ∈ es, u.oneCell' = true) (hv : Box w vb 65 es.toArray) :
    Calls Try.prog 41 #[vv, .int .i64 i, .slice (some ⟨vb, 0, none⟩) 1 1] w (InsP w B vv (n + 1) (insC cs i es)) := by
  by_cases he : i = n
  · subst he
    exact ins_end hrow hn9 hB hes h1e hv
  · obtain ⟨a, c, rfl, hc1, hc2⟩ := hrow.form
    obtain ⟨g, rfl, _⟩ := hrow.at_ (by omega)
    by_cases hr : n + 1 ≤ c
    · exact ins_shift hrow hn9 (by omega) hr (fun e => hvb (by rw [e]; rfl)) hes h1e hv
    · exact ins_grow hrow hn9 (by omega) (by omega) hB hes h1e hv

end Go.Proofs.Ytkohmiegkebmeaa.tIR
