/-
  WireAsks: its walk.
-/
import Derived.Test.YtcncoppnkodhmabWAsks
import Derived.Test.YtcncoppnkodhmabWApart
import Derived.Deep.RegionLaw
namespace Go.Proofs.Ytcncoppnkodhmab.wireAsks
open Go.RowKit bsK

set_option linter.unusedVariables false
set_option linter.unusedSimpArgs false

attribute [-go_sem] run_eql_struct

set_option maxHeartbeats 4000000 in
set_option maxRecDepth 100000 in
theorem walk_no {w : World} (q : Ak) (cut : Int) (hr : q.right = false) :
    Calls Try.prog 3 #[.agg q.cells, .int .i64 cut] w fun e w' => e = .returned (.bool true) ∧ Below w.heap.size w w' := by
  obtain ⟨W2, hW2⟩ : ∃ W2, W2 = (w.alloc (.cells q.cells 24)) := ⟨_, rfl⟩
  have hb2 : Below w.heap.size w W2 := by rw [hW2]; exact (Below.refl _ w).alloc (Nat.le_refl _) _
  have hq2 : Box W2 w.heap.size 24 q.cells := by rw [hW2]; exact Box.new w _ _
  have HX : Hid (∀ w', Below W2.heap.size W2 w' → Below w.heap.size w w' ∧ Box w' w.heap.size 24 q.cells) := Lib.hid fun w' hb =>
    ⟨hb2.trans (hb.mono hb2.size), (hb.block _ hq2.lt).trans hq2⟩
  have HR : Hid (∀ W, Below W2.heap.size W2 W → Calls Try.prog 11 #[.agg q.cells] W fun e w' => e = .returned (.bool false) ∧ Hid (Below W2.heap.size W2 w') ∧ w'.cell? ⟨w.heap.size, 0, none⟩ = some (.int .i64 q.op) ∧ w'.cell? ⟨w.heap.size, 1, none⟩ = some (.string q.a) ∧ w'.cell? ⟨w.heap.size, 2, none⟩ = some (.string q.b) ∧ w'.cell? ⟨w.heap.size, 3, none⟩ = some (.string q.c) ∧ w'.cell? ⟨w.heap.size, 4, none⟩ = some (.string q.d) ∧ w'.cell? ⟨w.heap.size, 5, none⟩ = some (.int .i64 q.n) ∧ w'.cell? ⟨w.heap.size, 6, none⟩ = some (.int .i64 q.m)) := Lib.hid fun W hW => (wright_any q W).mono fun e w' ⟨he, hb⟩ => by
    have h2 := hW.trans (hb.mono hW.size)
    exact ⟨by rw [he, hr], Lib.hid h2, (HX.out w' h2).2.seven⟩
  have HL : Hid (∀ W, Below W2.heap.size W2 W → Calls Try.prog 12 #[.agg q.cells] W fun e w' => e = .returned (.bool false) ∧ Hid (Below W2.heap.size W2 w') ∧ w'.cell? ⟨w.heap.size, 0, none⟩ = some (.int .i64 q.op) ∧ w'.cell? ⟨w.heap.size, 1, none⟩ = some (.string q.a) ∧ w'.cell? ⟨w.heap.size, 2, none⟩ = some (.string q.b) ∧ w'.cell? ⟨w.heap.size, 3, none⟩ = some (.string q.c) ∧ w'.cell? ⟨w.heap.size, 4, none⟩ = some (.string q.d) ∧ w'.cell? ⟨w.heap.size, 5, none⟩ = some (.int .i64 q.n) ∧ w'.cell? ⟨w.heap.size, 6, none⟩ = some (.int .i64 q.m)) := Lib.hid fun W hW => (lawright_any q W).mono fun e w' ⟨he, hb⟩ => by
    have h2 := hW.trans (hb.mono hW.size)
    exact ⟨by rw [he, hr], Lib.hid h2, (HX.out w' h2).2.seven⟩
  have HE : Hid (∀ W, Below W2.heap.size W2 W → Calls Try.prog 10 #[.agg q.cells] W fun e w' => e = .returned (.tuple #[.string ⟨#[]⟩, .int .i64 1]) ∧ Hid (Below W2.heap.size W2 w') ∧ w'.cell? ⟨w.heap.size, 0, none⟩ = some (.int .i64 q.op) ∧ w'.cell? ⟨w.heap.size, 1, none⟩ = some (.string q.a) ∧ w'.cell? ⟨w.heap.size, 2, none⟩ = some (.string q.b) ∧ w'.cell? ⟨w.heap.size, 3, none⟩ = some (.string q.c) ∧ w'.cell? ⟨w.heap.size, 4, none⟩ = some (.string q.d) ∧ w'.cell? ⟨w.heap.size, 5, none⟩ = some (.int .i64 q.n) ∧ w'.cell? ⟨w.heap.size, 6, none⟩ = some (.int .i64 q.m)) := Lib.hid fun W hW => (wenc_no q W hr).mono fun e w' ⟨he, hb⟩ => by
    have h2 := hW.trans (hb.mono hW.size)
    exact ⟨he, Lib.hid h2, (HX.out w' h2).2.seven⟩
  clear hb2 hq2
  go_enter Try.func3, Try.ntmps3
  go_wp2_with fail
  rw [← hW2]
  clear hW2
  refine (head18_any _).mono ?_
  rintro e w1 ⟨rfl, hb1⟩
  have HB1 := Lib.hid hb1
  obtain ⟨y0, y1, y2, y3, y4, y5, y6⟩ := (HX.out w1 HB1.out).2.seven
  clear hb1
  go_wp2_with fail
  refine (HE.out w1 HB1.out).mono ?_
  rintro e w3 ⟨rfl, HB3, c0, c1, c2, c3, c4, c5, c6⟩
  clear HE HB1 y0 y1 y2 y3 y4 y5 y6
  go_wp2_with fail
  have HB4 : Hid (Below W2.heap.size W2 w3.drew) := Lib.hid HB3.out.drew
  go_region_law (first
    | (go_simp; go_at_call 11; refine (HR.out _ (by first | exact HB6.out | exact HB4.out)).mono ?_; rintro e w5 ⟨rfl, HB5, d0, d1, d2, d3, d4, d5, d6⟩)
    | (go_simp; go_at_call 12; refine (HL.out _ (by first | exact HB5.out | exact HB4.out)).mono ?_; rintro e w6 ⟨rfl, HB6, g0, g1, g2, g3, g4, g5, g6⟩))
  all_goals
    clear HR HB4 HB5 HB3 c0 c1 c2 c3 c4 c5 c6 d0 d1 d2 d3 d4 d5 d6
    go_wp2_with fail
    refine (HL.out _ HB6.out).mono ?_
    rintro e w7 ⟨rfl, HB7, k0, k1, k2, k3, k4, k5, k6⟩
    clear HL HB6
    go_wp2
    go_ret
    exact ⟨rfl, (HX.out _ HB7.out).1⟩

/-- the first k bytes of a text -/
theorem take_data (x : ByteArray) (k : Nat) : (x.extract 0 k).data.toList = x.data.toList.take k := by
  rw [Lib.extract_data]
  simp
theorem read_own {q : Ak} (hr : q.right = true) {xs : ByteArray} (hxs : xs = ⟨(octA q).toArray⟩) (hl : (octA q).length ≤ 16447) (W : World) : Calls Try.prog 13 #[.string xs] W fun e w' => e = .returned (.tuple #[.agg q.cells, .int .i64 0]) ∧ Hid (Below W.heap.size W w') := by
  have hs : xs.size ≤ 20000 := by
    have : xs.size = (octA q).length := by rw [hxs]; rfl
    omega
  refine (wread_any xs hs W).mono ?_
  rintro e w' ⟨hb, he⟩
  have hxd : xs.data.toList = octA q := by rw [hxs]
  rw [hxd, readA_laid hr] at he
  exact ⟨he, Lib.hid hb⟩
theorem read_cut {q : Ak} (hr : q.right = true) {xs : ByteArray} (hxs : xs = ⟨(octA q).toArray⟩) (hl : (octA q).length ≤ 16447) {c : Nat} (hc : c < (octA q).length) (W : World) : Calls Try.prog 13 #[.string (xs.extract 0 c)] W fun e w' => e = .returned (.tuple #[.agg (Ak.mk 0 ⟨#[]⟩ ⟨#[]⟩ ⟨#[]⟩ ⟨#[]⟩ 0 0).cells, .int .i64 2]) ∧ Hid (Below W.heap.size W w') := by
  have hxd : xs.data.toList = octA q := by rw [hxs]
  have hd := take_data xs c
  have hs : (xs.extract 0 c).size ≤ 20000 := by
    have h1 : (xs.extract 0 c).size = (xs.extract 0 c).data.toList.length := by rw [Array.length_toList]; rfl
    rw [h1, hd, List.length_take]
    omega
  refine (wread_any _ hs W).mono ?_
  rintro e w' ⟨hb, he⟩
  rw [hd, hxd, readA_cut hr hc] at he
  exact ⟨he, Lib.hid hb⟩
theorem read_more {q : Ak} (hr : q.right = true) {xs : ByteArray} (hxs : xs = ⟨(octA q).toArray⟩) (hl : (octA q).length ≤ 16447) (W : World) : Calls Try.prog 13 #[.string (xs ++ ⟨#[120]⟩)] W fun e w' => e = .returned (.tuple #[.agg (Ak.mk 0 ⟨#[]⟩ ⟨#[]⟩ ⟨#[]⟩ ⟨#[]⟩ 0 0).cells, .int .i64 2]) ∧ Hid (Below W.heap.size W w') := by
  have hxd : xs.data.toList = octA q := by rw [hxs]
  have hd : (xs ++ (⟨#[120]⟩ : ByteArray)).data.toList = octA q ++ [120] := by
    rw [ByteArray.data_append, Array.toList_append, hxd]
  obtain ⟨y, hy⟩ : ∃ y : ByteArray, y = xs ++ ⟨#[120]⟩ := ⟨_, rfl⟩
  rw [← hy] at hd ⊢
  have hs : y.size ≤ 20000 := by
    have h1 : y.size = y.data.toList.length := by rw [Array.length_toList]; rfl
    rw [h1, hd, List.length_append, List.length_singleton]
    omega
  refine (wread_any y hs W).mono ?_
  rintro e w' ⟨hb, he⟩
  rw [hd, readA_more hr [120] (by simp)] at he
  exact ⟨he, Lib.hid hb⟩

set_option maxHeartbeats 8000000 in
set_option maxRecDepth 100000 in
theorem walk_yes {w : World} (q : Ak) (cut : Int) (hr : q.right = true) :
    Calls Try.prog 3 #[.agg q.cells, .int .i64 cut] w fun e w' => e = .returned (.bool true) ∧ Below w.heap.size w w' := by
  obtain ⟨xs, hxs⟩ : ∃ xs : ByteArray, xs = ⟨(octA q).toArray⟩ := ⟨_, rfl⟩
  have hxl : xs.size = (octA q).length := by rw [hxs]; rfl
  have hxd : xs.data.toList = octA q := by rw [hxs]
  obtain ⟨hl1, hl2⟩ := octA_len hr
  have hm := and_mask16 cut
  obtain ⟨c0, hc0⟩ : ∃ c0 : Nat, cut % 65536 = c0 := ⟨(cut % 65536).toNat, by omega⟩
  rw [hc0] at hm
  have hc1 : c0 ≤ 65535 := by omega
  obtain ⟨c, hcl, HCM⟩ : ∃ c : Nat, c < (octA q).length ∧ Hid ((c0 : Int) % (xs.size : Int) = c) := ⟨c0 % xs.size, by rw [← hxl]; exact Nat.mod_lt _ (by omega), Lib.hid (by simp)⟩
  have hlz : ((xs.size : Int) == 0) = false := by rw [beq_eq_false_iff_ne]; omega
  have HLZ := Lib.hid hlz
  clear hlz
  have HNE : Hid (¬ xs = ByteArray.empty) := Lib.hid fun h => by
    have h1 : xs.size = 0 := by rw [h]; rfl
    omega
  have HA1 := Lib.hid (fun W => read_own hr hxs hl1 W)
  have HA2 := Lib.hid (fun W => read_cut hr hxs hl1 hcl W)
  have HA3 := Lib.hid (fun W => read_more hr hxs hl1 W)
  have hsz9 : (xs.size : Int) ≤ 16447 := by omega
  have hcs : (c : Int) ≤ (xs.size : Int) := by omega
  have hcs0 : (0 : Int) ≤ (c : Int) := by omega
  have hql := ak_eql q q
  rw [smA_true rfl] at hql
  obtain ⟨W2, hW2⟩ : ∃ W2, W2 = (w.alloc (.cells q.cells 24)) := ⟨_, rfl⟩
  have hb2 : Below w.heap.size w W2 := by rw [hW2]; exact (Below.refl _ w).alloc (Nat.le_refl _) _
  have hq2 : Box W2 w.heap.size 24 q.cells := by rw [hW2]; exact Box.new w _ _
  have HX : Hid (∀ w', Below W2.heap.size W2 w' → Below w.heap.size w w' ∧ Box w' w.heap.size 24 q.cells) := Lib.hid fun w' hb =>
    ⟨hb2.trans (hb.mono hb2.size), (hb.block _ hq2.lt).trans hq2⟩
  have HR : Hid (∀ W, Below W2.heap.size W2 W → Calls Try.prog 11 #[.agg q.cells] W fun e w' => e = .returned (.bool true) ∧ Hid (Below W2.heap.size W2 w') ∧ w'.cell? ⟨w.heap.size, 0, none⟩ = some (.int .i64 q.op) ∧ w'.cell? ⟨w.heap.size, 1, none⟩ = some (.string q.a) ∧ w'.cell? ⟨w.heap.size, 2, none⟩ = some (.string q.b) ∧ w'.cell? ⟨w.heap.size, 3, none⟩ = some (.string q.c) ∧ w'.cell? ⟨w.heap.size, 4, none⟩ = some (.string q.d) ∧ w'.cell? ⟨w.heap.size, 5, none⟩ = some (.int .i64 q.n) ∧ w'.cell? ⟨w.heap.size, 6, none⟩ = some (.int .i64 q.m)) := Lib.hid fun W hW => (wright_any q W).mono fun e w' ⟨he, hb⟩ => by
    have h2 := hW.trans (hb.mono hW.size)
    exact ⟨by rw [he, hr], Lib.hid h2, (HX.out w' h2).2.seven⟩
  have HL : Hid (∀ W, Below W2.heap.size W2 W → Calls Try.prog 12 #[.agg q.cells] W fun e w' => e = .returned (.bool true) ∧ Hid (Below W2.heap.size W2 w') ∧ w'.cell? ⟨w.heap.size, 0, none⟩ = some (.int .i64 q.op) ∧ w'.cell? ⟨w.heap.size, 1, none⟩ = some (.string q.a) ∧ w'.cell? ⟨w.heap.size, 2, none⟩ = some (.string q.b) ∧ w'.cell? ⟨w.heap.size, 3, none⟩ = some (.string q.c) ∧ w'.cell? ⟨w.heap.size, 4, none⟩ = some (.string q.d) ∧ w'.cell? ⟨w.heap.size, 5, none⟩ = some (.int .i64 q.n) ∧ w'.cell? ⟨w.heap.size, 6, none⟩ = some (.int .i64 q.m)) := Lib.hid fun W hW => (lawright_any q W).mono fun e w' ⟨he, hb⟩ => by
    have h2 := hW.trans (hb.mono hW.size)
    exact ⟨by rw [he, hr], Lib.hid h2, (HX.out w' h2).2.seven⟩
  have HE : Hid (∀ W, Below W2.heap.size W2 W → Calls Try.prog 10 #[.agg q.cells] W fun e w' => e = .returned (.tuple #[.string xs, .int .i64 0]) ∧ Hid (Below W2.heap.size W2 w') ∧ w'.cell? ⟨w.heap.size, 0, none⟩ = some (.int .i64 q.op) ∧ w'.cell? ⟨w.heap.size, 1, none⟩ = some (.string q.a) ∧ w'.cell? ⟨w.heap.size, 2, none⟩ = some (.string q.b) ∧ w'.cell? ⟨w.heap.size, 3, none⟩ = some (.string q.c) ∧ w'.cell? ⟨w.heap.size, 4, none⟩ = some (.string q.d) ∧ w'.cell? ⟨w.heap.size, 5, none⟩ = some (.int .i64 q.n) ∧ w'.cell? ⟨w.heap.size, 6, none⟩ = some (.int .i64 q.m)) := Lib.hid fun W hW => (wenc_yes q W hr).mono fun e w' ⟨he, hb⟩ => by
    have h2 := hW.trans (hb.mono hW.size)
    exact ⟨by rw [he, hxs], Lib.hid h2, (HX.out w' h2).2.seven⟩
  clear hb2 hq2
  clear hxs hxl hxd hl1 hl2 hcl hc0
  go_enter Try.func3, Try.ntmps3
  go_wp2_with fail
  rw [← hW2]
  clear hW2
  refine (head18_any _).mono ?_
  rintro e w1 ⟨rfl, hb1⟩
  have HB1 := Lib.hid hb1
  obtain ⟨y0, y1, y2, y3, y4, y5, y6⟩ := (HX.out w1 HB1.out).2.seven
  clear hb1
  go_wp2_with fail
  refine (HE.out w1 HB1.out).mono ?_
  rintro e w3 ⟨rfl, HB3, c0, c1, c2, c3, c4, c5, c6⟩
  clear HE HB1 y0 y1 y2 y3 y4 y5 y6
  go_wp2_with fail
  have HB4 : Hid (Below W2.heap.size W2 w3.drew) := Lib.hid HB3.out.drew
  go_region_law (first
    | (go_simp; go_at_call 11; refine (HR.out _ (by first | exact HB6.out | exact HB4.out)).mono ?_; rintro e w5 ⟨rfl, HB5, d0, d1, d2, d3, d4, d5, d6⟩)
    | (go_simp; go_at_call 12; refine (HL.out _ (by first | exact HB5.out | exact HB4.out)).mono ?_; rintro e w6 ⟨rfl, HB6, g0, g1, g2, g3, g4, g5, g6⟩))
  all_goals
    clear HR HB4 HB5 HB3 c0 c1 c2 c3 c4 c5 c6 d0 d1 d2 d3 d4 d5 d6
    go_wp2_with fail
    refine (HL.out _ HB6.out).mono ?_
    rintro e w7 ⟨rfl, HB7, k0, k1, k2, k3, k4, k5, k6⟩
    clear HL HB6
    go_wp2_with fail
    refine (HA1.out _).mono ?_
    rintro e w8 ⟨rfl, HB8⟩
    have hcm := HCM.out
    have hlz := HLZ.out
    have hne := HNE.out
    have HN8 : Hid (Box (w8.alloc (.cells q.cells 24)) w8.heap.size 24 q.cells ∧ Below W2.heap.size W2 (w8.alloc (.cells q.cells 24))) := Lib.hid (by
      have h1 := HB7.out.trans (HB8.out.mono HB7.out.size)
      exact ⟨Box.new w8 _ _, h1.alloc h1.size _⟩)
    clear HA1 HB8 HB7 k0 k1 k2 k3 k4 k5 k6
    go_wp2_with fail
    refine (HA2.out _).mono ?_
    rintro e w9 ⟨rfl, HB9⟩
    obtain ⟨r, hr9⟩ : ∃ r, r = w8.heap.size := ⟨_, rfl⟩
    have HN9 : Hid (Box (w9.alloc (.cells (Ak.mk 0 ⟨#[]⟩ ⟨#[]⟩ ⟨#[]⟩ ⟨#[]⟩ 0 0).cells 24)) r 24 q.cells ∧ Below W2.heap.size W2 (w9.alloc (.cells (Ak.mk 0 ⟨#[]⟩ ⟨#[]⟩ ⟨#[]⟩ ⟨#[]⟩ 0 0).cells 24))) := Lib.hid (by
      rw [hr9]
      have h1 := HB9.out.trans (((Below.refl w9.heap.size w9).alloc (Nat.le_refl _) (.cells (Ak.mk 0 ⟨#[]⟩ ⟨#[]⟩ ⟨#[]⟩ ⟨#[]⟩ 0 0).cells 24)).mono HB9.out.size)
      exact ⟨(h1.block _ HN8.out.1.lt).trans HN8.out.1, HN8.out.2.trans (h1.mono HN8.out.2.size)⟩)
    rw [← hr9]
    clear HA2 HB9 hcm hlz hne HNE HCM HLZ HN8 hr9
    go_wp2_with fail
    refine (HA3.out _).mono ?_
    rintro e w10 ⟨rfl, HB10⟩
    have h1 := HB10.out.trans (((Below.refl w10.heap.size w10).alloc (Nat.le_refl _) (.cells (Ak.mk 0 ⟨#[]⟩ ⟨#[]⟩ ⟨#[]⟩ ⟨#[]⟩ 0 0).cells 24)).mono HB10.out.size)
    have h2 := HN9.out.2.trans (h1.mono HN9.out.2.size)
    have h3 : Box (w10.alloc (.cells (Ak.mk 0 ⟨#[]⟩ ⟨#[]⟩ ⟨#[]⟩ ⟨#[]⟩ 0 0).cells 24)) r 24 q.cells := (h1.block _ HN9.out.1.lt).trans HN9.out.1
    obtain ⟨y0, y1, y2, y3, y4, y5, y6⟩ := h3.seven
    obtain ⟨hB, h4⟩ := HX.out _ h2
    obtain ⟨z0, z1, z2, z3, z4, z5, z6⟩ := h4.seven
    have HBL := Lib.hid hB
    clear HA3 HB10 HN9 h1 h2 h3 h4 hB HX
    go_wp2
    go_ret
    exact ⟨rfl, HBL.out⟩

theorem walk {w : World} (q : Ak) (cut : Int) (_ : (Lit.int .i64 cut).wf = true) :
    Calls Try.prog 3 #[.agg q.cells, .int .i64 cut] w fun e w' => e = .returned (.bool true) ∧ Below w.heap.size w w' := by
  cases hr : q.right
  · exact walk_no q cut hr
  · exact walk_yes q cut hr

end Go.Proofs.Ytcncoppnkodhmab.wireAsks
