/-
  SortStableFunc at no more than 20 fields: the insertion sort.
-/
import Derived.Test.YtcocljgafhpdaaaVSort
namespace Go.Proofs.Ytcocljgafhpdaaa
open Go.RowKit Go.Sort

/-- what the sort leaves: the row holds d', the block has its size and what lies behind the row, and all else is as it was -/
def SortW (d' : Array FC) (g : Nat) (w w' : World) : Prop :=
  (∀ T arr, Box w g T arr → ∃ arr', Box w' g T arr' ∧ arr'.size = arr.size ∧ ∀ p, d'.size * 7 ≤ p → arr'[p]? = arr[p]?) ∧ HoldsK FC.enc 7 w' g 0 d' ∧ w.grownBy w' (some g)

theorem SortW.trans {d1 d2 : Array FC} {g : Nat} {w w1 w2 : World} (h : SortW d1 g w w1) (k : SortW d2 g w1 w2) (hs : d2.size = d1.size) : SortW d2 g w w2 := by
  obtain ⟨h1, h2, h3⟩ := h
  obtain ⟨k1, k2, k3⟩ := k
  refine ⟨fun T arr hB => ?_, k2, grown_trans h3 k3 (.inl rfl)⟩
  obtain ⟨a1, b1, c1, e1⟩ := h1 T arr hB
  obtain ⟨a2, b2, c2, e2⟩ := k1 T a1 b1
  exact ⟨a2, b2, c2.trans c1, fun p hp => (e2 p hp).trans (e1 p (by omega))⟩

theorem sortW_of {d d' : Array FC} {g n : Nat} {w : World} {os : Array Obj} (hH : HoldsK FC.enc 7 w g 0 d) (hg : g < w.heap.size) (hs : d'.size = d.size) : SortW d' g w (sortWorldK FC.enc 7 w g 0 n d' os) := by
  refine ⟨fun T arr hB => ?_, holdsK_sortWorldK_c FC.enc 7 w g 0 d d' n os hH hg hs, ?_⟩
  · refine ⟨putCells id 0 (flatK FC.enc 7 d') arr, ?_, by simp [putCells], fun p hp => ?_⟩
    · unfold Box at hB ⊢
      show ((w.heap.modify g (onCells (putCells id 0 (flatK FC.enc 7 d')))) ++ os)[g]? = _
      rw [Array.getElem?_append_left (by simpa using hg), Array.getElem?_modify, if_pos rfl, hB]
      rfl
    · unfold putCells
      rw [Array.getElem?_mapIdx]
      have hn : ¬ (0 ≤ p ∧ p < 0 + (flatK FC.enc 7 d').size) := by rw [size_flatK]; omega
      cases arr[p]? with
      | none => rfl
      | some x => simp only [Option.map_some, if_neg hn]
  · refine ⟨rfl, rfl, rfl, ?_, fun k hk hne => ?_⟩
    · show w.heap.size ≤ ((w.heap.modify g (onCells (putCells id 0 (flatK FC.enc 7 d')))) ++ os).size
      simp
    · show ((w.heap.modify g (onCells (putCells id 0 (flatK FC.enc 7 d')))) ++ os)[k]? = _
      have hgk : g ≠ k := fun e => hne (by rw [e])
      rw [Array.getElem?_append_left (by simpa using hk), Array.getElem?_modify, if_neg hgk]

def SortedP (d : Array FC) (g : Nat) (w : World) (e : Ending) (w' : World) : Prop :=
  e = .returned (.tuple #[]) ∧ SortW (Sort.insertionSort (ltOf FC.cf) d 0 d.size) g w w'

theorem ins_size (lt : FC → FC → Bool) : ∀ (a j : Nat) (d : Array FC), (insInner lt a j d).size = d.size
  | a, 0, d => rfl
  | a, j + 1, d => by
    rw [insInner]
    split
    · rw [ins_size lt a j]; simp [swp]
    · rfl
theorem insOuter_size (lt : FC → FC → Bool) (a b : Nat) : ∀ (k i : Nat) (d : Array FC), b - i ≤ k → (insOuter lt a b i d).size = d.size
  | 0, i, d, h => by rw [insOuter, if_neg (by omega)]
  | k + 1, i, d, h => by
    rw [insOuter]
    split
    · rw [insOuter_size lt a b k (i + 1) _ (by omega), ins_size]
    · rfl
theorem sort_size (lt : FC → FC → Bool) (d : Array FC) (a b : Nat) : (Sort.insertionSort lt d a b).size = d.size := insOuter_size lt a b _ _ d (Nat.le_refl _)
theorem sort_none (lt : FC → FC → Bool) (d : Array FC) (b : Nat) : Sort.insertionSort lt d b b = d := by
  rw [Sort.insertionSort, insOuter, if_neg (by omega)]

set_option maxHeartbeats 2000000 in
theorem stable_any (d : Array FC) (hd : d.size ≤ 20) (cap g : Nat) (w : World) (hH : HoldsK FC.enc 7 w g 0 d) (hg : g < w.heap.size) :
    Calls Try.prog 55 #[.slice (some ⟨g, 0, none⟩) d.size cap, .int .i64 d.size, .func (.func 35) #[] #[]] w (SortedP d g w) := by
  have hss := sort_size (ltOf FC.cf) d 0 d.size
  have hw : ∀ w', (∃ n os, w' = sortWorldK FC.enc 7 w g 0 n (Sort.insertionSort (ltOf FC.cf) d 0 d.size) os) → SortW (Sort.insertionSort (ltOf FC.cf) d 0 d.size) g w w' := fun w' ⟨n, os, h⟩ => by
    rw [h]; exact sortW_of hH hg hss
  have hins := insert_any d 0 d.size cap g w hH hg (Nat.zero_le _) (Nat.le_refl _) (by omega)
  generalize hD : Sort.insertionSort (ltOf FC.cf) d 0 d.size = d' at *
  have HW := Lib.hid hw
  have HD := Lib.hid hD
  have HS := Lib.hid hss
  unfold SortedP
  rw [HD.out]
  by_cases h20 : d.size = 20
  · -- one block of 20, and nothing behind it
    have H20 := Lib.hid h20
    have hrest : ∀ w', SortW d' g w w' → Calls Try.prog 83 #[.slice (some ⟨g, 0, none⟩) 20 cap, .int .i64 20, .int .i64 20, .func (.func 35) #[] #[]] w' fun e w2 => e = .returned (.tuple #[]) ∧ SortW d' g w w2 := fun w' hq => by
      have h1 := insert_any d' 20 20 cap g w' hq.2.1 (Nat.lt_of_lt_of_le hg hq.2.2.size) (Nat.le_refl _) (by omega) (by omega)
      rw [show d'.size = 20 by omega] at h1
      refine h1.mono fun e w2 h2 => ⟨h2.1, ?_⟩
      obtain ⟨_, n, os, h3⟩ := h2
      rw [sort_none] at h3
      rw [h3]
      exact hq.trans (sortW_of hq.2.1 (Nat.lt_of_lt_of_le hg hq.2.2.size) rfl) rfl
    rw [h20] at hins ⊢
    have HR := Lib.hid hrest
    clear hH h20 hrest hd hss hD hw
    go_enter Try.func55, Try.ntmps55
    go_wp2_with fail
    refine wp_loop_rounds 2 ?_
    rw [rounds_succ]
    go_wp2_with fail
    refine hins.mono ?_
    rintro e w1 ⟨rfl, hw1⟩
    have HW1 := Lib.hid (HW.out w1 hw1)
    clear hw1 hins
    go_wp2_with fail
    rw [rounds_succ]
    go_wp2_with fail
    refine (HR.out w1 HW1.out).mono ?_
    rintro e w2 ⟨rfl, hw2⟩
    have HW2 := Lib.hid hw2
    clear hw2
    go_wp2_with fail
    refine wp_loop_rounds 1 ?_
    rw [rounds_succ]
    go_wp2
    go_end0
    exact ⟨rfl, HW2.out⟩
  · have h1 : ¬ (20 : Int) ≤ (d.size : Int) := by omega
    have h2 : ¬ (20 : Int) < (d.size : Int) := by omega
    clear hH hd hss hD hw h20
    go_enter Try.func55, Try.ntmps55
    go_wp2_with fail
    refine wp_loop_rounds 1 ?_
    rw [rounds_succ]
    go_wp2_with fail
    refine hins.mono ?_
    rintro e w1 ⟨rfl, hw1⟩
    have HW1 := Lib.hid (HW.out w1 hw1)
    clear hw1 hins
    go_wp2_with fail
    refine wp_loop_rounds 1 ?_
    rw [rounds_succ]
    go_wp2
    go_end0
    exact ⟨rfl, HW1.out⟩

theorem sort_any (d : Array FC) (hd : d.size ≤ 20) (cap g : Nat) (w : World) (hH : HoldsK FC.enc 7 w g 0 d) (hg : g < w.heap.size) :
    Calls Try.prog 34 #[.slice (some ⟨g, 0, none⟩) d.size cap, .func (.func 35) #[] #[]] w (SortedP d g w) := by
  have hcall := stable_any d hd cap g w hH hg
  clear hH
  go_enter Try.func34, Try.ntmps34
  go_wp2_with fail
  refine hcall.mono ?_
  rintro e w1 ⟨rfl, hw1⟩
  have HW1 := Lib.hid hw1
  clear hw1 hcall
  go_wp2
  go_end0
  exact ⟨rfl, HW1.out⟩

end Go.Proofs.Ytcocljgafhpdaaa
