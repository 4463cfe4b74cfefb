/-
  WireApart: its walk.
-/
import Derived.Test.YtcncoppnkodhmabWApM
import Derived.Deep.RegionHeld
import Derived.Deep.DeepCutAuto
import Derived.Outline
namespace Go.Proofs.Ytcncoppnkodhmab.wireApart
open Go.RowKit bsK

set_option linter.unusedVariables false
set_option linter.unusedSimpArgs false

/-- Encode, of whatever question -/
theorem enc_case (q : Ak) : ∃ xs ec, (∀ W, Calls Try.prog 10 #[.agg q.cells] W fun e W' => e = .returned (.tuple #[.string xs, .int .i64 ec]) ∧ Below W.heap.size W W') ∧
    (ec ≠ 0 ∨ ec = 0 ∧ q.right = true ∧ xs = ⟨(octA q).toArray⟩) := by
  cases hr : q.right
  · exact ⟨_, 1, fun W => wenc_no q W hr, .inl (by decide)⟩
  · exact ⟨_, 0, fun W => wenc_yes q W hr, .inr ⟨rfl, rfl, rfl⟩⟩

attribute [-go_sem] run_eql_struct

set_option maxHeartbeats 4000000 in
set_option maxRecDepth 100000 in
theorem walk {w : World} (p q : Ak) :
    Calls Try.prog 6 #[.agg p.cells, .agg q.cells] w fun e w' => e = .returned (.bool true) ∧ Below w.heap.size w w' := by
  obtain ⟨W2, hW2⟩ : ∃ W2, W2 = ((w.alloc (.cells p.cells 24)).alloc (.cells q.cells 24)) := ⟨_, rfl⟩
  have hz2 : W2.heap.size = w.heap.size + 2 := by rw [hW2]; simp
  have hb2 : Below w.heap.size w W2 := by rw [hW2]; exact ((Below.refl _ w).alloc (Nat.le_refl _) _).alloc (by simp) _
  have hp2 : Box W2 w.heap.size 24 p.cells := by rw [hW2]; exact (Box.new w _ _).alloc _
  have hq2 : Box W2 (w.heap.size + 1) 24 q.cells := by
    rw [hW2]
    have := Box.new (w.alloc (.cells p.cells 24)) 24 q.cells
    rwa [World.size_alloc] at this
  have HX : Hid (∀ w', Below W2.heap.size W2 w' → Below w.heap.size w w' ∧ Box w' w.heap.size 24 p.cells ∧ Box w' (w.heap.size + 1) 24 q.cells) := Lib.hid fun w' hb =>
    ⟨hb2.trans (hb.mono hb2.size), (hb.block _ hp2.lt).trans hp2, (hb.block _ hq2.lt).trans hq2⟩
  obtain ⟨xs, ec, hc1, hec⟩ := enc_case p
  obtain ⟨ys, ed, hc2, hed⟩ := enc_case q
  have HC1 := Lib.hid hc1
  have HC2 := Lib.hid hc2
  have HEC := Lib.hid hec
  have HED := Lib.hid hed
  clear hz2 hb2 hp2 hq2 hc1 hc2 hec hed
  go_enter Try.func6, Try.ntmps6
  go_wp2_with fail
  rw [← hW2]
  clear hW2
  refine (head18_any _).mono ?_
  rintro e w1 ⟨rfl, hb1⟩
  have HB1 := Lib.hid hb1
  obtain ⟨_, hx, hy⟩ := HX.out w1 hb1
  obtain ⟨y0, y1, y2, y3, y4, y5, y6⟩ := hx.seven
  clear hx hy hb1
  go_wp2_with fail
  refine (HC1.out w1).mono ?_
  rintro e w3 ⟨rfl, hb3⟩
  have HB3 := Lib.hid (HB1.out.trans (hb3.mono HB1.out.size))
  clear hb3 HC1 HB1 y0 y1 y2 y3 y4 y5 y6
  obtain ⟨_, hx, hy⟩ := HX.out w3 HB3.out
  obtain ⟨y0, y1, y2, y3, y4, y5, y6⟩ := hy.seven
  clear hx hy
  go_wp2_with fail
  refine (HC2.out w3).mono ?_
  rintro e w4 ⟨rfl, hb4⟩
  have HB4 := Lib.hid (HB3.out.trans (hb4.mono HB3.out.size))
  clear hb4 HC2 HB3 y0 y1 y2 y3 y4 y5 y6
  rcases HEC.out with hcs | ⟨rfl, hr1, hxs⟩
  · have hne : (ec != 0) = true := by simpa using hcs
    go_wp2
    go_ret
    exact ⟨rfl, (HX.out _ HB4.out).1⟩
  rcases HED.out with hcs | ⟨rfl, hr2, hys⟩
  · have hne : (ed != 0) = true := by simpa using hcs
    clear hr1 hxs
    go_wp2
    go_ret
    exact ⟨rfl, (HX.out _ HB4.out).1⟩
  obtain ⟨hE, hT⟩ := akTexts_same hr1 hr2 xs ys hxs hys
  obtain ⟨k, hk1, hk2, hk⟩ : ∃ k : Nat, k ≤ xs.size ∧ k ≤ ys.size ∧ k = min xs.size ys.size := ⟨min xs.size ys.size, Nat.min_le_left _ _, Nat.min_le_right _ _, rfl⟩
  rw [← hk] at hT
  have HN := Lib.hid (show min (xs.size : Int) (ys.size : Int) = (k : Int) by omega)
  have hk1' : (k : Int) ≤ (xs.size : Int) := by omega
  have hk2' : (k : Int) ≤ (ys.size : Int) := by omega
  have hql := ak_eql p q
  obtain ⟨SM, hSM⟩ : ∃ SM, SM = smA (p = q) := ⟨_, rfl⟩
  rw [← hSM] at hE hT hql
  clear hr1 hr2 hxs hys hk HEC HED hSM
  obtain ⟨_, hx, hy⟩ := HX.out w4 HB4.out
  obtain ⟨y0, y1, y2, y3, y4, y5, y6⟩ := hx.seven
  obtain ⟨z0, z1, z2, z3, z4, z5, z6⟩ := hy.seven
  clear hx hy
  go_upto_region 8 with fail
  rw [HN.out]
  cases SM
  all_goals
    go_region
    go_wp2
    go_ret
    exact ⟨rfl, (HX.out _ HB4.out.drew).1⟩

end Go.Proofs.Ytcncoppnkodhmab.wireApart
