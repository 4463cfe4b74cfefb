/-
  rec: a commit as bytes: layCommit, Commit, the laws' head.
-/
import Derived.Test.YtgpfmhoodohggaaRLay
import Derived.Deep.RegionHeld
namespace Go.Proofs.Ytgpfmhoodohggaa
open Go.RowKit

set_option linter.unusedVariables false
set_option linter.unusedSimpArgs false

set_option maxHeartbeats 2000000 in
set_option maxRecDepth 100000 in
theorem layCommit_any {w0 w : World} {a : Option Addr} {len cap : Nat} {ws : List Wr} (h : WrsIs w0 a ws) (hl : ws.length = len) (hle : len ≤ 1000000) (hsz : ∀ x ∈ ws, x.key.size ≤ 5000 ∧ x.val.size ≤ 5000) (s t : Nat) (hs : s ≤ 1099511627776) (ht : t ≤ 1099511627776) (hb : Below w0.heap.size w0 w) :
    Calls Try.prog 20 #[.slice none 0 0, .agg #[.int .i64 (s : Int), .int .i64 (t : Int), .slice a len cap]] w fun e w' => ∃ v', e = .returned v' ∧ BsA w0 w' v' (octC s t ws) := by
  have hbw : Below w0.heap.size w0 (w.alloc (.cells #[.int .i64 (s : Int), .int .i64 (t : Int), .slice a len cap] 25)).drew := (hb.alloc hb.size _).drew
  have hbx : ∀ i, (w.alloc (.cells #[.int .i64 (s : Int), .int .i64 (t : Int), .slice a len cap] 25)).drew.cell? ⟨w.heap.size, i, none⟩ = (#[.int .i64 (s : Int), .int .i64 (t : Int), .slice a len cap] : Array Value)[i]? := fun i => cell_of_row _ _ i _ _ (0, 0) (heap_alloc_new w _)
  have hcl : w.heap.size < (w.alloc (.cells #[.int .i64 (s : Int), .int .i64 (t : Int), .slice a len cap] 25)).drew.heap.size := by show _ < (w.alloc _).heap.size; simp
  have hs9 := octN_lt s (by omega)
  have ht9 := octN_lt t (by omega)
  have HS0 : Hid ((w.alloc (.cells #[.int .i64 (s : Int), .int .i64 (t : Int), .slice a len cap] 25)).drew.cell? ⟨w.heap.size, 0, none⟩ = some (.int .i64 (s : Int)) ∧ (w.alloc (.cells #[.int .i64 (s : Int), .int .i64 (t : Int), .slice a len cap] 25)).drew.cell? ⟨w.heap.size, 1, none⟩ = some (.int .i64 (t : Int)) ∧ (w.alloc (.cells #[.int .i64 (s : Int), .int .i64 (t : Int), .slice a len cap] 25)).drew.cell? ⟨w.heap.size, 2, none⟩ = some (.slice a len cap)) := Lib.hid ⟨hbx 0, hbx 1, hbx 2⟩
  have HC : Hid (Calls Try.prog 25 #[.slice none 0 0, .int .i64 (s : Int)] (w.alloc (.cells #[.int .i64 (s : Int), .int .i64 (t : Int), .slice a len cap] 25)).drew fun e w1 => ∃ v1, e = .returned v1 ∧ (w1.cell? ⟨w.heap.size, 0, none⟩ = some (.int .i64 (s : Int)) ∧ w1.cell? ⟨w.heap.size, 1, none⟩ = some (.int .i64 (t : Int)) ∧ w1.cell? ⟨w.heap.size, 2, none⟩ = some (.slice a len cap)) ∧
      Hid (Calls Try.prog 25 #[v1, .int .i64 (t : Int)] w1 fun e w2 => ∃ v2, e = .returned v2 ∧ (w2.cell? ⟨w.heap.size, 0, none⟩ = some (.int .i64 (s : Int)) ∧ w2.cell? ⟨w.heap.size, 1, none⟩ = some (.int .i64 (t : Int)) ∧ w2.cell? ⟨w.heap.size, 2, none⟩ = some (.slice a len cap)) ∧
        Hid (Calls Try.prog 24 #[v2, .slice a len cap] w2 fun e w3 => ∃ v3, e = .returned v3 ∧ (w3.cell? ⟨w.heap.size, 0, none⟩ = some (.int .i64 (s : Int)) ∧ w3.cell? ⟨w.heap.size, 1, none⟩ = some (.int .i64 (t : Int)) ∧ w3.cell? ⟨w.heap.size, 2, none⟩ = some (.slice a len cap)) ∧ Hid (BsA w0 w3 v3 (octC s t ws))))) := Lib.hid (by
    have hnil := Bs.nil 5 w0.heap.size (w.alloc (.cells #[.int .i64 (s : Int), .int .i64 (t : Int), .slice a len cap] 25)).drew
    refine (num_nat w0.heap.size _ [] s (by omega) _ (by simp) hbw.size hnil).mono ?_
    rintro e w1 ⟨v1, rfl, hown1, hup1⟩
    have hb1 := hbw.trans (hup1.below hnil hbw.size)
    have hne : (Value.slice none 0 0).ownBlock ≠ some w.heap.size := by simp [Value.ownBlock]
    have hz1 := hup1.1.size
    refine ⟨v1, rfl, ⟨(hup1.cell hcl hne 0).trans (hbx 0), (hup1.cell hcl hne 1).trans (hbx 1), (hup1.cell hcl hne 2).trans (hbx 2)⟩, Lib.hid ((num_nat w0.heap.size v1 _ t (by omega) w1 (by rw [List.nil_append]; omega) hb1.size hown1).mono ?_)⟩
    rintro e w2 ⟨v2, rfl, hown2, hup2⟩
    have hb2 := hb1.trans (hup2.below hown1 hb1.size)
    have hne1 := hup1.ne hcl hne
    have hcl1 : w.heap.size < w1.heap.size := by omega
    refine ⟨v2, rfl, ⟨(hup2.cell hcl1 hne1 0).trans ((hup1.cell hcl hne 0).trans (hbx 0)), (hup2.cell hcl1 hne1 1).trans ((hup1.cell hcl hne 1).trans (hbx 1)), (hup2.cell hcl1 hne1 2).trans ((hup1.cell hcl hne 2).trans (hbx 2))⟩, Lib.hid ((layWrites_any h hl hle hsz v2 _ (by rw [List.nil_append, List.length_append]; omega) ⟨hown2, hb2⟩).mono ?_)⟩
    rintro e w3 ⟨v3, rfl, h3, hk3⟩
    have hcl2 : w.heap.size < w2.heap.size := by have := hup2.1.size; omega
    have hne2 := hup2.ne hcl1 hne1
    have hc3 : ∀ i, w3.cell? ⟨w.heap.size, i, none⟩ = w2.cell? ⟨w.heap.size, i, none⟩ := fun i => World.cell?_of_block (a := ⟨w.heap.size, i, none⟩) (hk3.2 _ hcl2 hne2).1
    have hc2 : ∀ i, w2.cell? ⟨w.heap.size, i, none⟩ = (#[.int .i64 (s : Int), .int .i64 (t : Int), .slice a len cap] : Array Value)[i]? := fun i => (hup2.cell hcl1 hne1 i).trans ((hup1.cell hcl hne i).trans (hbx i))
    refine ⟨v3, rfl, ⟨(hc3 0).trans (hc2 0), (hc3 1).trans (hc2 1), (hc3 2).trans (hc2 2)⟩, Lib.hid ?_⟩
    unfold octC
    rw [List.nil_append, List.append_assoc] at h3
    exact h3)
  obtain ⟨R, hR⟩ : ∃ R : World → Value → Prop, R = fun w3 v3 => BsA w0 w3 v3 (octC s t ws) := ⟨_, rfl⟩
  have hgoal : ∀ v w', R w' v ↔ BsA w0 w' v (octC s t ws) := fun v w' => by rw [hR]
  clear h hl hsz hb hbw hbx hcl hs9 ht9 hR hs ht hle hgoal
  go_enter Try.func20, Try.ntmps20
  go_wp2_with fail
  refine wp_region_held_drew (S := fun w' => w'.cell? ⟨w.heap.size, 0, none⟩ = some (.int .i64 (s : Int)) ∧ w'.cell? ⟨w.heap.size, 1, none⟩ = some (.int .i64 (t : Int)) ∧ w'.cell? ⟨w.heap.size, 2, none⟩ = some (.slice a len cap)) (by kernel_rfl) (by exact HS0.out) (fun hHeld => ?_)
  refine wpAnyH_take (i := 0) (oi := _) (v := ?_) rfl (by kernel_rfl) (by kernel_rfl) (by kernel_rfl) (fun _ _ _ h => h) (Or.inl ⟨by rfl, ?_⟩) (by assumption) ?_
  rotate_left
  · (intro w' hSw; (try dsimp only at hSw); go_simp; all_goals with_reducible rfl)
  try simp only [Act.put, List.getElem_toArray, List.getElem_cons_zero, List.getElem_cons_succ, List.setIfInBounds_toArray, List.set_cons_zero, List.set_cons_succ]
  refine wpAnyH_take (i := 1) (oi := _) (v := ?_) rfl (by kernel_rfl) (by kernel_rfl) (by kernel_rfl) (fun _ _ _ h => h) (Or.inl ⟨by rfl, ?_⟩) (by assumption) ?_
  rotate_left
  · (intro w' hSw; (try dsimp only at hSw); go_simp; all_goals with_reducible rfl)
  try simp only [Act.put, List.getElem_toArray, List.getElem_cons_zero, List.getElem_cons_succ, List.setIfInBounds_toArray, List.set_cons_zero, List.set_cons_succ]
  refine wpAnyH_take (i := 2) (oi := _) (v := ?_) rfl (by kernel_rfl) (by kernel_rfl) (by kernel_rfl) (fun _ _ _ h => h) (Or.inl ⟨by rfl, ?_⟩) (by assumption) ?_
  rotate_left
  · (intro w' hSw; (try dsimp only at hSw); go_simp; all_goals with_reducible rfl)
  try simp only [Act.put, List.getElem_toArray, List.getElem_cons_zero, List.getElem_cons_succ, List.setIfInBounds_toArray, List.set_cons_zero, List.set_cons_succ]
  refine wpAnyH_take (i := 4) (oi := _) (v := ?_) rfl (by kernel_rfl) (by kernel_rfl) (by kernel_rfl) (fun _ _ _ h => h) (Or.inl ⟨by rfl, ?_⟩) (by assumption) ?_
  rotate_left
  · (intro w' hSw; (try dsimp only at hSw); go_simp; all_goals with_reducible rfl)
  try simp only [Act.put, List.getElem_toArray, List.getElem_cons_zero, List.getElem_cons_succ, List.setIfInBounds_toArray, List.set_cons_zero, List.set_cons_succ]
  refine wpAnyH_take (i := 5) (oi := _) (v := ?_) rfl (by kernel_rfl) (by kernel_rfl) (by kernel_rfl) (fun _ _ _ h => h) (Or.inl ⟨by rfl, ?_⟩) (by assumption) ?_
  rotate_left
  · (intro w' hSw; (try dsimp only at hSw); go_simp; all_goals with_reducible rfl)
  try simp only [Act.put, List.getElem_toArray, List.getElem_cons_zero, List.getElem_cons_succ, List.setIfInBounds_toArray, List.set_cons_zero, List.set_cons_succ]
  refine wpAnyH_take (i := 7) (oi := _) (v := ?_) rfl (by kernel_rfl) (by kernel_rfl) (by kernel_rfl) (fun _ _ _ h => h) (Or.inl ⟨by rfl, ?_⟩) (by assumption) ?_
  rotate_left
  · (intro w' hSw; (try dsimp only at hSw); go_simp; all_goals with_reducible rfl)
  try simp only [Act.put, List.getElem_toArray, List.getElem_cons_zero, List.getElem_cons_succ, List.setIfInBounds_toArray, List.set_cons_zero, List.set_cons_succ]
  refine wpAnyH_take (i := 8) (oi := _) (v := ?_) rfl (by kernel_rfl) (by kernel_rfl) (by kernel_rfl) (fun _ _ _ h => h) (Or.inl ⟨by rfl, ?_⟩) (by assumption) ?_
  rotate_left
  · (intro w' hSw; (try dsimp only at hSw); go_simp; all_goals with_reducible rfl)
  try simp only [Act.put, List.getElem_toArray, List.getElem_cons_zero, List.getElem_cons_succ, List.setIfInBounds_toArray, List.set_cons_zero, List.set_cons_succ]
  refine wpAnyH_ready (rs := [3]) (by kernel_rfl) (by simp) ?_
  refine AllReadyH.cons rfl (fun K hK => ?_) AllReadyH.nil
  go_simp
  refine HC.out.mono ?_
  rintro e w1 ⟨v1, rfl, hS1, HC2⟩
  refine hK.out _ _ (by exact hS1) (fun hHeld => ?_)
  clear hK K
  try simp only [Act.put, List.getElem_toArray, List.getElem_cons_zero, List.getElem_cons_succ, List.setIfInBounds_toArray, List.set_cons_zero, List.set_cons_succ]
  refine wpAnyH_ready (rs := [6]) (by kernel_rfl) (by simp) ?_
  refine AllReadyH.cons rfl (fun K hK => ?_) AllReadyH.nil
  go_simp
  refine HC2.out.mono ?_
  rintro e w2 ⟨v2, rfl, hS2, HC3⟩
  refine hK.out _ _ (by exact hS2) (fun hHeld => ?_)
  clear hK K
  try simp only [Act.put, List.getElem_toArray, List.getElem_cons_zero, List.getElem_cons_succ, List.setIfInBounds_toArray, List.set_cons_zero, List.set_cons_succ]
  refine wpAnyH_ready (rs := [9]) (by kernel_rfl) (by simp) ?_
  refine AllReadyH.cons rfl (fun K hK => ?_) AllReadyH.nil
  go_simp
  refine HC3.out.mono ?_
  rintro e w3 ⟨v3, rfl, hS3, HS⟩
  refine hK.out _ _ (by exact hS3) (fun hHeld => ?_)
  clear hK K
  try simp only [Act.put, List.getElem_toArray, List.getElem_cons_zero, List.getElem_cons_succ, List.setIfInBounds_toArray, List.set_cons_zero, List.set_cons_succ]
  refine wpAnyH_take (i := 10) (oi := _) (v := ?_) rfl (by kernel_rfl) (by kernel_rfl) (by kernel_rfl) (fun _ _ _ h => h) (Or.inl ⟨by rfl, ?_⟩) (by assumption) ?_
  rotate_left
  · (intro w' hSw; (try dsimp only at hSw); go_simp; all_goals with_reducible rfl)
  try simp only [Act.put, List.getElem_toArray, List.getElem_cons_zero, List.getElem_cons_succ, List.setIfInBounds_toArray, List.set_cons_zero, List.set_cons_succ]
  refine wpAnyH_done (by kernel_rfl) ?_ _
  go_wp2
  go_ret
  exact ⟨v3, rfl, HS.out⟩

theorem rightC_of {s t : Int} {ws : List Wr} (h : rightC s t ws = true) : ∃ m n : Nat, s = (m : Int) ∧ t = (n : Int) ∧ m ≤ 1099511627776 ∧ n ≤ 1099511627776 ∧ 1 ≤ m ∧ ws.length ≤ 200 ∧ ∀ x ∈ ws, x.key.size ≤ 400 ∧ x.val.size ≤ 4096 := by
  unfold rightC rightL at h
  simp only [Bool.and_eq_true, decide_eq_true_eq] at h
  obtain ⟨⟨⟨⟨h1, h2⟩, h3⟩, h4⟩, h5, h6⟩ := h
  refine ⟨s.toNat, t.toNat, by omega, by omega, by omega, by omega, by omega, h5, fun x hx => ?_⟩
  obtain ⟨i, hi, rfl⟩ := List.getElem_of_mem hx
  exact isR_size (isR_of hi (rightW_get h6 hi))

set_option maxHeartbeats 2000000 in
set_option maxRecDepth 100000 in
theorem commit_no {w : World} {a : Option Addr} {len cap : Nat} {ws : List Wr} (h : WrsIs w a ws) (hl : ws.length = len) (hle : len ≤ 1000000) (s t : Int) (hr : rightC s t ws = false) :
    Calls Try.prog 9 #[.agg #[.int .i64 s, .int .i64 t, .slice a len cap]] w fun e w' => e = .returned (.tuple #[.string ⟨#[]⟩, .int .i64 1]) ∧ Below w.heap.size w w' := by
  have hb0 := (Below.refl _ w).alloc (Nat.le_refl _) (.cells #[.int .i64 s, .int .i64 t, .slice a len cap] 25)
  have HC := Lib.hid (recRight_any (cap := cap) (h.below hb0) hl hle s t)
  rw [hr] at HC
  have HB0 := Lib.hid hb0
  clear h hl hr hb0
  go_enter Try.func9, Try.ntmps9
  go_wp2_with fail
  refine HC.out.mono ?_
  rintro e w1 ⟨rfl, hb⟩
  have HB := Lib.hid (HB0.out.trans (hb.mono HB0.out.size))
  clear hb HC HB0
  go_wp2
  exact bodyPost_ret (v := .tuple #[.string ⟨#[]⟩, .int .i64 1]) (by simp [results, Try.results9, go_sem]) rfl ⟨rfl, HB.out⟩

set_option maxHeartbeats 2000000 in
set_option maxRecDepth 100000 in
theorem commit_yes {w : World} {a : Option Addr} {len cap : Nat} {ws : List Wr} (h : WrsIs w a ws) (hl : ws.length = len) (m n : Nat) (hr : rightC (m : Int) (n : Int) ws = true) :
    Calls Try.prog 9 #[.agg #[.int .i64 (m : Int), .int .i64 (n : Int), .slice a len cap]] w fun e w' => e = .returned (.tuple #[.string ⟨(octC m n ws).toArray⟩, .int .i64 0]) ∧ Below w.heap.size w w' := by
  obtain ⟨m', n', e1, e2, h1, h2, _, h3, h4⟩ := rightC_of hr
  obtain rfl : m = m' := by omega
  obtain rfl : n = n' := by omega
  clear e1 e2
  have hb0 := (Below.refl _ w).alloc (Nat.le_refl _) (.cells #[.int .i64 (m : Int), .int .i64 (n : Int), .slice a len cap] 25)
  have HC := Lib.hid (recRight_any (cap := cap) (h.below hb0) hl (by omega) (m : Int) (n : Int))
  rw [hr] at HC
  have HB0 := Lib.hid hb0
  have hbx : ∀ i, (w.alloc (.cells #[.int .i64 (m : Int), .int .i64 (n : Int), .slice a len cap] 25)).cell? ⟨w.heap.size, i, none⟩ = (#[.int .i64 (m : Int), .int .i64 (n : Int), .slice a len cap] : Array Value)[i]? := fun i => cell_of_row _ _ i _ _ (0, 0) (heap_alloc_new w _)
  have HL : Hid (∀ w1, Below (w.alloc (.cells #[.int .i64 (m : Int), .int .i64 (n : Int), .slice a len cap] 25)).heap.size (w.alloc (.cells #[.int .i64 (m : Int), .int .i64 (n : Int), .slice a len cap] 25)) w1 →
      (w1.cell? ⟨w.heap.size, 0, none⟩ = some (.int .i64 (m : Int)) ∧ w1.cell? ⟨w.heap.size, 1, none⟩ = some (.int .i64 (n : Int)) ∧ w1.cell? ⟨w.heap.size, 2, none⟩ = some (.slice a len cap)) ∧
      Calls Try.prog 20 #[.slice none 0 0, .agg #[.int .i64 (m : Int), .int .i64 (n : Int), .slice a len cap]] w1 fun e w2 => ∃ v2, e = .returned v2 ∧ (convert 52 9 v2).run Try.prog w2 = .ok (.string ⟨(octC m n ws).toArray⟩) w2 ∧ Hid (Below w.heap.size w w2)) := Lib.hid fun w1 hb1 => by
    have hz : w.heap.size < (w.alloc (.cells #[.int .i64 (m : Int), .int .i64 (n : Int), .slice a len cap] 25)).heap.size := by simp
    have hbw := HB0.out.trans (hb1.mono HB0.out.size)
    refine ⟨⟨(hb1.cell (p := ⟨w.heap.size, 0, none⟩) hz).trans (hbx 0), (hb1.cell (p := ⟨w.heap.size, 1, none⟩) hz).trans (hbx 1), (hb1.cell (p := ⟨w.heap.size, 2, none⟩) hz).trans (hbx 2)⟩, ?_⟩
    refine (layCommit_any h hl (by omega) (fun x hx => by have := h4 x hx; omega) m n h1 h2 hbw).mono ?_
    rintro e w2 ⟨v2, rfl, ho, hb2⟩
    exact ⟨v2, rfl, conv_bs 5 w.heap.size w2 52 9 Try.underlying52 Try.underlying5 Try.underlying9 v2 _ ho, Lib.hid hb2⟩
  obtain ⟨L, hL⟩ : ∃ L, L = (octC m n ws).toArray := ⟨_, rfl⟩
  rw [← hL] at HL ⊢
  clear h hl hr hb0 h1 h2 h3 h4 hbx hL
  go_enter Try.func9, Try.ntmps9
  go_wp2_with fail
  refine HC.out.mono ?_
  rintro e w1 ⟨rfl, hb⟩
  obtain ⟨⟨c0, c1, c2⟩, hlay⟩ := HL.out w1 hb
  have HLAY := Lib.hid hlay
  clear hb HC HB0 HL hlay
  go_wp2_with fail
  refine HLAY.out.mono ?_
  rintro e w2 ⟨v2, rfl, hcv, HB⟩
  clear HLAY
  go_wp2
  exact bodyPost_ret (v := .tuple #[.string ⟨L⟩, .int .i64 0]) (by simp [results, Try.results9, go_sem]) rfl ⟨rfl, HB.out⟩

end Go.Proofs.Ytgpfmhoodohggaa
