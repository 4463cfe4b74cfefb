/-
  slices.Sort at a row of texts that the call owns.
-/
import Derived.Test.YtciknhilbemgdaaTRow
import Derived.Sort.OwnSorted
import Derived.Test.YtciknhilbemgdaaShelf
namespace Go.Proofs.Ytciknhilbemgdaa.cl
open Go.RowKit Go.Maps Go.Sort Go.Proofs.Ytciknhilbemgdaa.tRow

def sorted (ss : List (List UInt8)) : List (List UInt8) := ss.mergeSort fun x y => decide (x ≤ y)

theorem sorted_of {ls : List (List UInt8)} (h : ls.Pairwise (fun x y => bytesBefore x y = true)) {ss : List (List UInt8)} (hp : ss.Perm ls) : sorted ss = ls := by
  have iff : ∀ a b : List UInt8, bytesBefore a b = true ↔ a < b := fun a b => by
    induction a generalizing b with
    | nil => cases b <;> simp [bytesBefore]
    | cons x a ih =>
      cases b with
      | nil => simp [bytesBefore]
      | cons y b =>
        rw [List.cons_lt_cons_iff]
        unfold bytesBefore
        rw [← ih]
        simp only [Bool.or_eq_true, Bool.and_eq_true, decide_eq_true_eq, beq_iff_eq]
  unfold sorted
  refine List.Perm.eq_of_pairwise (le := fun a b => decide (a ≤ b) = true) (fun a b _ _ h1 h2 => ?_) (List.pairwise_mergeSort (fun a b c h1 h2 => ?_) (fun a b => ?_) ss) ?_ ((List.mergeSort_perm _ _).trans hp)
  · simp only [decide_eq_true_eq] at h1 h2
    exact List.le_antisymm h1 h2
  · simp only [decide_eq_true_eq] at h1 h2 ⊢
    exact List.le_trans h1 h2
  · simp only [Bool.or_eq_true, decide_eq_true_eq]
    exact List.le_total a b
  · refine List.Pairwise.imp (fun {a b} hb => ?_) h
    have := (iff _ _).1 hb
    simp only [decide_eq_true_eq]
    exact List.le_of_lt this

theorem sort_none (w : World) (p : Option Addr) (cap : Nat) : Calls Try.prog 15 #[.slice p 0 cap] w fun e w' => e = .returned (.tuple #[]) ∧ w = w' :=
  (Try.slices_Sort_string_none p cap w).mono fun _ _ h => ⟨h.1, h.2.symm⟩

def mk8 (k : List UInt8) : ByteArray := ⟨k.toArray⟩
theorem mk8_list (b : ByteArray) : mk8 b.data.toList = b := by unfold mk8; simp
theorem map_mk8 (ss : List (List UInt8)) : (ss.map mk8).map Value.string = ss.map encStr := by
  rw [List.map_map]
  rfl

theorem sort_any {B : Nat} {w : World} {v : Value} {ss : List (List UInt8)} (h : Ss B w v (ss.map mk8)) (hB : B ≤ w.heap.size) (hl : ss.length ≤ 1000000) :
    Calls Try.prog 15 #[v] w fun e w' => e = .returned (.tuple #[]) ∧ Ss B w' v ((sorted ss).map mk8) ∧ Below B w w' := by
  have h' := h
  unfold Ss at h'
  rw [map_mk8, List.length_map] at h'
  rcases h'.2 with ⟨rfl, hz⟩ | ⟨gb, cap, cur, rfl, hbase, hgb, r1, r2, r3, r4⟩
  · have hss : ss = [] := List.eq_nil_of_length_eq_zero hz
    subst hss
    refine (sort_none w none 0).mono ?_
    rintro e w' ⟨rfl, rfl⟩
    exact ⟨rfl, by simpa [sorted] using h, Below.refl _ _⟩
  · have hH : Holds encStr w gb 0 ss.toArray := holds_of_block hgb (by simpa using r4)
    have hgl : gb < w.heap.size := (Array.getElem?_eq_some_iff.1 hgb).1
    have hsz : ss.length < 4611686018427387904 := by
      omega
    refine (Try.slices_Sort_string gb 0 cap ss w hH hgl hsz).mono ?_
    rintro e w' ⟨rfl, nn, os, rfl⟩
    refine ⟨rfl, ?_, (Below.refl B w).grown (grownBy_sorted _) hB fun j hj => by cases hj; exact hbase⟩
    unfold Ss
    rw [map_mk8, List.length_map, show (sorted ss).length = ss.length by unfold sorted; simp]
    exact ownsRow_sorted (ts := sorted ss) (by unfold sorted; simp) hbase hgb r1 r2 r3

end Go.Proofs.Ytciknhilbemgdaa.cl
