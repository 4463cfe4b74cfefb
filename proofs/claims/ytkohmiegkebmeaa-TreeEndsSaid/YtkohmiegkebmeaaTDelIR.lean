/-
  slices.Delete of a row that the call owns, by its cells (1 a piece; trees of int).
-/
import Derived.Test.YtkohmiegkebmeaaTBox
import Derived.Shelf.RegionOpenPlain
import Derived.WalkKit
import Derived.Deep.RegionLaw
import Derived.Lib.Walk
import Derived.Lib.SliceRun
namespace Go.Proofs.Ytkohmiegkebmeaa.tIRd
open Go.RowKit Go.Lib

set_option linter.unusedVariables false

theorem infoE : (Try.prog.info? 65).map (fun i => (i.zero, i.size, i.bytes)) = some (some (.slice none 0 0), 1, 24) := by kernel_rfl

theorem run_clearK {P : Program} (w : World) (t e ty : TypeId) (z : Value) (ht : P.underlying t = some (.slice e)) (hv : ∀ w, (zeroValue e).run P w = .ok z w) (h1 : ∀ u ∈ z.cells, u.oneCell' = true) (b o n c : Nat) (hn : 0 < n)
    (hc : ∀ j, j < n * z.cells.size → (w.cell? ⟨b, o + j, none⟩).isSome = true) (hf : ∀ j, j < n * z.cells.size → w.frozen? ⟨b, o + j, none⟩ = false) :
    (Builtin.clear_ #[t] ty #[.slice (some ⟨b, o, none⟩) n c]).run P w = .ok (.tuple #[]) (w.setCells b o (Builtin.zeroCells z.cells n).toList) := by
  have hl : (Builtin.zeroCells z.cells n).toList.length = n * z.cells.size := by rw [Array.length_toList, size_zeroCells]
  have hst := run_storeCells_cells (P := P) b o (Builtin.zeroCells z.cells n).toList 0 w (by rw [hl]; simpa using hc) (by rw [hl]; simpa using hf) (by
    intro v hv'
    unfold Builtin.zeroCells at hv'
    simp only [Array.toList_map, List.mem_map] at hv'
    obtain ⟨q, hq, rfl⟩ := hv'
    rw [Array.mem_toList_iff, Array.mem_range] at hq
    have h0 : 0 < z.cells.size := by
      rcases Nat.eq_zero_or_pos z.cells.size with h | h
      · rw [h, Nat.mul_zero] at hq; omega
      · exact h
    have hlt := Nat.mod_lt q h0
    rw [getElem!_pos z.cells _ hlt]
    exact h1 _ (Array.getElem_mem hlt))
  simp only [Nat.add_zero] at hst
  obtain ⟨m, rfl⟩ : ∃ m, n = m + 1 := ⟨n - 1, by omega⟩
  simp [Builtin.clear_, run_underlying ht, hv, hst]

def delC (cs : List Value) (i j : Nat) : List Value := cs.take (i * 1) ++ cs.drop (j * 1)

def DelP (w : World) (B : Nat) (v : Value) (n : Nat) (cs : List Value) (e : Ending) (w' : World) : Prop := ∃ v', e = .returned v' ∧ RowK 65 1 B w' v' n cs ∧ Up w v w' v'

abbrev TT := 45

set_option maxHeartbeats 4000000 in
set_option maxRecDepth 100000 in
theorem del_any {w : World} {B n i j g c : Nat} {cs : List Value} (hrow : RowK 65 1 B w (.slice (some ⟨g, 0, none⟩) n c) n cs) (hn9 : n ≤ 100000) (hij : i < j) (hj : j ≤ n) :
    Calls Try.prog 29 #[.slice (some ⟨g, 0, none⟩) n c, .int .i64 i, .int .i64 j] w (DelP w B (.slice (some ⟨g, 0, none⟩) n c) (i + (n - j)) (delC cs i j)) := by
  obtain ⟨ti, hti, hz, hi1, hi2⟩ := info_parts infoE
  obtain ⟨cur, hbox, hcz, hgB, hnc, hcm, hcq⟩ := hrow.parts
  have hcl' := hrow.len
  have hone := hrow.2
  have hm : c ≤ 9223372036854775807 := by unfold maxLen at hcm; omega
  have hbD : Box w.drew g 65 cur := hbox
  obtain ⟨news, hnews⟩ : ∃ news, news = cs.drop (j * 1) := ⟨_, rfl⟩
  have hlen : news.length = (n - j) * 1 := by rw [hnews, List.length_drop, hcl']; omega
  obtain ⟨A, hA, hsrc⟩ : ∃ A : Addr, (if c = j then some (⟨g, 0, none⟩ : Addr) else some ⟨g, j, none⟩) = some A ∧ Hid (∀ t u, news[t]? = some u → w.drew.cell? (A.add t) = some u) := by
    by_cases h : c = j
    · refine ⟨⟨g, 0, none⟩, by simp [h], Lib.hid fun t u hu => ?_⟩
      have h0 : news.length = 0 := by omega
      rw [List.length_eq_zero_iff.1 h0] at hu
      simp at hu
    · refine ⟨⟨g, j, none⟩, by simp [h], Lib.hid fun t u hu => ?_⟩
      rw [hnews, List.getElem?_drop] at hu
      have hl := (List.getElem?_eq_some_iff.1 hu).1
      rw [addr_off]
      show w.cell? _ = some u
      rw [hbox.cell, show j + t = j * 1 + t by omega, hcq _ (by omega)]
      exact hu
  have s1 : Hid (news.length = (n - j) * 1) := Lib.hid hlen
  have s2 : Hid (∀ u ∈ news, u.oneCell' = true) := Lib.hid fun u hu => hone u (by rw [hnews] at hu; exact List.mem_of_mem_drop hu)
  have s3 : Hid (∀ t, t < news.length → (w.drew.cell? ⟨g, 0 + i * 1 + t, none⟩).isSome = true ∧ w.drew.frozen? ⟨g, 0 + i * 1 + t, none⟩ = false) := Lib.hid fun t ht =>
    ⟨by rw [hbD.cell, Array.getElem?_eq_getElem (by omega)]; rfl, hbD.free _⟩
  obtain ⟨W1, hW1⟩ : ∃ W1, W1 = w.drew.setCells g (0 + i * 1) news := ⟨_, rfl⟩
  have hb1 : Box W1 g 65 (aset cur (0 + i * 1) news) := by rw [hW1, setCells_sets]; exact hbD.sets news _
  obtain ⟨zs, hzs⟩ : ∃ zs, zs = (Builtin.zeroCells (Value.cells (.slice none 0 0)) (n - (i + (n - j)))).toList := ⟨_, rfl⟩
  have hK : (Value.cells (.slice none 0 0)).size = 1 := rfl
  have hzl : zs.length = (n - (i + (n - j))) * 1 := by rw [hzs, Array.length_toList, size_zeroCells, hK]
  have hcl : ∀ ty, (Builtin.clear_ #[TT] ty #[.slice (some ⟨g, i + (n - j), none⟩) (n - (i + (n - j))) (c - (i + (n - j)))]).run Try.prog W1 = .ok (.tuple #[]) (W1.setCells g (i + (n - j)) zs) := fun ty => by
    rw [hzs]
    refine run_clearK W1 _ _ ty _ Try.underlying45 Try.zeroValue65 (by decide) g _ _ _ (by omega) (fun t ht => ?_) (fun t ht => hb1.free _)
    rw [hK] at ht
    rw [hb1.cell, Array.getElem?_eq_getElem (by rw [aset_size]; omega)]
    rfl
  have hfin : Hid (DelP w B (.slice (some ⟨g, 0, none⟩) n c) (i + (n - j)) (delC cs i j) (.returned (.slice (some ⟨g, 0, none⟩) (i + (n - j)) c)) (W1.setCells g (i + (n - j)) zs)) := Lib.hid (by
    rw [setCells_sets]
    have hb2 := hb1.sets zs (i + (n - j))
    have hfar : ∀ q, q ≠ g → (sets W1 g (i + (n - j)) zs).heap[q]? = w.heap[q]? := fun q hq => by
      rw [sets_far _ _ _ _ hq, hW1, setCells_sets, sets_far _ _ _ _ hq]; rfl
    have hsize : (sets W1 g (i + (n - j)) zs).heap.size = w.heap.size := by rw [sets_size, hW1, setCells_sets, sets_size]; rfl
    have hbel := Below.sets zs (i + (n - j)) (Below.sets news (0 + i * 1) (Below.refl 0 w.drew) (g := g) (Nat.zero_le _)) (g := g) (Nat.zero_le _)
    rw [← setCells_sets g news, ← hW1] at hbel
    refine ⟨_, rfl, ?_, ⟨hbel.os, hbel.tape, hbel.output, by rw [hsize]; exact Nat.le_refl _, fun q _ hne => hfar q fun e => hne (by rw [e]; rfl)⟩, .inl rfl⟩
    have htl : (cs.take (i * 1)).length = i * 1 := by rw [List.length_take]; omega
    refine RowK.mk hb2 (by rw [aset_size, aset_size, hcz]) hgB (by omega) hcm ?_ (fun q hq => ?_) (fun u hu => ?_)
    · unfold delC
      rw [List.length_append, htl, List.length_drop]
      omega
    · rw [aset_far _ _ _ _ (by omega)]
      unfold delC
      by_cases a : q < i * 1
      · rw [aset_far _ _ _ _ (by omega), List.getElem?_append_left (by omega), List.getElem?_take, if_pos a]
        exact hcq q (by omega)
      · rw [List.getElem?_append_right (by omega), htl, ← hnews]
        have h9 : q - i * 1 < news.length := by omega
        have := aset_get news cur (0 + i * 1) (by omega) (q - i * 1) _ (List.getElem?_eq_getElem h9)
        rw [show 0 + i * 1 + (q - i * 1) = q by omega] at this
        rw [this, ← List.getElem?_eq_getElem h9]
    · unfold delC at hu
      rcases List.mem_append.1 hu with hu | hu
      · exact hone u (List.mem_of_mem_take hu)
      · exact hone u (List.mem_of_mem_drop hu))
  have hW : Hid (W1 = w.drew.setCells g (0 + i * 1) news) := Lib.hid hW1
  have mixed : Try.prog.follows Departure.mixedOrders = true := by kernel_rfl
  have hic : i ≤ c := by omega
  have hjc : j ≤ c := by omega
  have hin : i ≤ n := by omega
  have hij2 : i ≤ j := by omega
  have hie : ¬ (c = i + (n - j)) := by omega
  have hle : i + (n - j) ≤ n := by omega
  have hle2 : i + (n - j) ≤ c := by omega
  clear hW1 hb1 hzs hzl hK hbD hlen hnews hone hcl' hrow hbox hcz hgB hcm hcq
  go_enter Try.func29, Try.ntmps29
  go_wp2_with fail
  go_region_law_o (refine step_append_room rfl (.tmp 22) (.tmp 25) TT rfl 65 ti 1 Try.underlying45 hti hi1 g 0 i c (by simp [Act.eval, Act.put]) A (n - j) (c - j) news (by simp [Act.eval, Act.put]) s1.out hsrc.out s2.out (by omega) s3.out ?_; rw [← hW.out])
  go_wp2
  go_ret
  exact hfin.out

end Go.Proofs.Ytkohmiegkebmeaa.tIRd
