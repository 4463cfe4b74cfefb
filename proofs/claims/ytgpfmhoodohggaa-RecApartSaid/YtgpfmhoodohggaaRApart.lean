/-
  RecApart: for every two commits the law's function returns true, and writes nothing that was there.
-/
import Derived.Test.YtgpfmhoodohggaaRHead
import Derived.Deep.RegionHeld
import Derived.Deep.DeepCutAuto
import Derived.Outline
namespace Go.Proofs.Ytgpfmhoodohggaa
open Go.RowKit

set_option linter.unusedVariables false
set_option linter.unusedSimpArgs false

theorem octN_apart (m n : Nat) (hm : m < 2 ^ 64) (hn : n < 2 ^ 64) (r s : List UInt8) (h : octN m ++ r = octN n ++ s) : m = n ∧ r = s := by
  have h1 := numRead_laid m (2 ^ 64) r hm
  have h2 := numRead_laid n (2 ^ 64) s hn
  rw [if_pos (by omega)] at h1 h2
  rw [h, h2] at h1
  simp only [Option.some.injEq, Prod.mk.injEq] at h1
  exact ⟨h1.1.symm, h1.2.symm⟩

theorem octT_apart (x y : ByteArray) (hx : x.size < 2 ^ 64) (hy : y.size < 2 ^ 64) (r s : List UInt8) (h : octT x ++ r = octT y ++ s) : x = y ∧ r = s := by
  have h1 := textRead_laid x (2 ^ 64) r hx
  have h2 := textRead_laid y (2 ^ 64) s hy
  rw [if_pos (by omega)] at h1 h2
  rw [h, h2] at h1
  simp only [Option.some.injEq, Prod.mk.injEq] at h1
  exact ⟨ByteArray.ext (Array.toList_inj.1 h1.1.symm), h1.2.symm⟩

theorem octF_apart (x y : Bool) (r s : List UInt8) (h : octF x ++ r = octF y ++ s) : x = y ∧ r = s := by
  have h1 := flagRead_laid x r
  have h2 := flagRead_laid y s
  rw [h, h2] at h1
  simp only [Option.some.injEq, Prod.mk.injEq] at h1
  exact ⟨h1.1.symm, h1.2.symm⟩

def small (x : Wr) : Prop := x.key.size ≤ 400 ∧ x.val.size ≤ 4096
theorem octW_apart (x y : Wr) (hx : small x) (hy : small y) (r s : List UInt8) (h : octW x ++ r = octW y ++ s) : x = y ∧ r = s := by
  obtain ⟨k, v, g⟩ := x
  obtain ⟨k', v', g'⟩ := y
  obtain ⟨a1, a2⟩ := hx
  obtain ⟨b1, b2⟩ := hy
  dsimp only at a1 a2 b1 b2
  unfold octW at h
  dsimp only at h
  simp only [List.append_assoc] at h
  obtain ⟨e1, h2⟩ := octT_apart k k' (by omega) (by omega) _ _ h
  obtain ⟨e2, h3⟩ := octF_apart g g' _ _ h2
  obtain ⟨e3, h4⟩ := octT_apart v v' (by omega) (by omega) _ _ h3
  exact ⟨by rw [e1, e2, e3], h4⟩

theorem flat_apart : ∀ (a b : List Wr) (r s : List UInt8), a.length = b.length → (∀ z ∈ a, small z) → (∀ z ∈ b, small z) → a.flatMap octW ++ r = b.flatMap octW ++ s → a = b ∧ r = s
  | [], [], r, s, _, _, _, h => ⟨rfl, h⟩
  | x :: a, y :: b, r, s, hl, ha, hb, h => by
    have e : octW x ++ (a.flatMap octW ++ r) = octW y ++ (b.flatMap octW ++ s) := by
      simpa using h
    obtain ⟨h1, h2⟩ := octW_apart x y (ha x (by simp)) (hb y (by simp)) _ _ e
    obtain ⟨h3, h4⟩ := flat_apart a b r s (by simpa using hl) (fun z hz => ha z (by simp [hz])) (fun z hz => hb z (by simp [hz])) h2
    exact ⟨by rw [h1, h3], h4⟩

theorem octC_apart (m n m' n' : Nat) (ws vs : List Wr) (hr : rightC (m : Int) (n : Int) ws = true) (hq : rightC (m' : Int) (n' : Int) vs = true) (r s : List UInt8) (h : octC m n ws ++ r = octC m' n' vs ++ s) : (m = m' ∧ n = n' ∧ ws = vs) ∧ r = s := by
  obtain ⟨a, b, e1, e2, h1, h2, _, h3, h4⟩ := rightC_of hr
  obtain ⟨a', b', e1', e2', h1', h2', _, h3', h4'⟩ := rightC_of hq
  unfold octC octWs at h
  simp only [List.append_assoc] at h
  obtain ⟨f1, g1⟩ := octN_apart m m' (by omega) (by omega) _ _ h
  obtain ⟨f2, g2⟩ := octN_apart n n' (by omega) (by omega) _ _ g1
  obtain ⟨f3, g3⟩ := octN_apart _ _ (by omega) (by omega) _ _ g2
  obtain ⟨f4, g4⟩ := flat_apart ws vs r s f3 h4 h4' g3
  exact ⟨⟨f1, f2, f4⟩, g4⟩

theorem octC_cut (m n m' n' : Nat) (ws vs : List Wr) (hr : rightC (m : Int) (n : Int) ws = true) (hq : rightC (m' : Int) (n' : Int) vs = true) (k : Nat) (hk : k = min (octC m n ws).length (octC m' n' vs).length)
    (h : (octC m n ws).take k = (octC m' n' vs).take k) : m = m' ∧ n = n' ∧ ws = vs := by
  rcases Nat.le_total (octC m n ws).length (octC m' n' vs).length with hh | hh
  · have e : k = (octC m n ws).length := by omega
    rw [e, List.take_length] at h
    refine (octC_apart m n m' n' ws vs hr hq ((octC m' n' vs).drop (octC m n ws).length) [] ?_).1
    rw [List.append_nil]
    conv => lhs; lhs; rw [h]
    exact List.take_append_drop _ _
  · have e : k = (octC m' n' vs).length := by omega
    rw [e, List.take_length] at h
    refine (octC_apart m n m' n' ws vs hr hq [] ((octC m n ws).drop (octC m' n' vs).length) ?_).1
    rw [List.append_nil]
    conv => rhs; lhs; rw [← h]
    exact (List.take_append_drop _ _).symm

theorem texts_same (m n m' n' : Nat) (ws vs : List Wr) (hr : rightC (m : Int) (n : Int) ws = true) (hq : rightC (m' : Int) (n' : Int) vs = true) (x y : ByteArray) (hx : x = ⟨(octC m n ws).toArray⟩) (hy : y = ⟨(octC m' n' vs).toArray⟩) (SM : Bool) (hSM : SM = smB ((m : Int) = (m' : Int) ∧ (n : Int) = (n' : Int) ∧ ws = vs)) :
    (x.toList == y.toList) = SM ∧ ((x.extract 0 (min x.size y.size)).toList == (y.extract 0 (min x.size y.size)).toList) = SM := by
  have hxs : x.size = (octC m n ws).length := by rw [hx]; rfl
  have hys : y.size = (octC m' n' vs).length := by rw [hy]; rfl
  by_cases hp : m = m' ∧ n = n' ∧ ws = vs
  · have h1 : SM = true := by rw [hSM]; exact smB_true ⟨by omega, by omega, hp.2.2⟩
    have hxy : x = y := by rw [hx, hy, hp.1, hp.2.1, hp.2.2]
    rw [h1, hxy]
    simp
  · have h1 : SM = false := by rw [hSM]; exact smB_false fun h => hp ⟨by omega, by omega, h.2.2⟩
    rw [h1, Lib.toList_data, Lib.toList_data, Lib.toList_data, Lib.toList_data, Lib.extract_data, Lib.extract_data, beq_eq_false_iff_ne, beq_eq_false_iff_ne, hxs, hys, hx, hy]
    constructor
    · intro h
      exact hp (octC_apart m n m' n' ws vs hr hq [] [] (by rw [List.append_nil, List.append_nil]; simpa using h)).1
    · intro h
      exact hp (octC_cut m n m' n' ws vs hr hq _ rfl (by simpa using h))

theorem commit_case {w : World} {a : Option Addr} {len cap : Nat} {ws : List Wr} (h : WrsIs w a ws) (hl : ws.length = len) (hle : len ≤ 1000000) (s t : Int) : ∃ xs ec, (∀ W, Below w.heap.size w W →
    Calls Try.prog 9 #[.agg #[.int .i64 s, .int .i64 t, .slice a len cap]] W fun e W' => e = .returned (.tuple #[.string xs, .int .i64 ec]) ∧ Below W.heap.size W W') ∧
    (ec ≠ 0 ∨ ec = 0 ∧ ∃ m n : Nat, s = (m : Int) ∧ t = (n : Int) ∧ rightC (m : Int) (n : Int) ws = true ∧ xs = ⟨(octC m n ws).toArray⟩) := by
  cases hr : rightC s t ws
  · exact ⟨_, 1, fun W hb => commit_no (h.below hb) hl hle s t hr, .inl (by decide)⟩
  · obtain ⟨m, n, rfl, rfl, _⟩ := rightC_of hr
    exact ⟨_, 0, fun W hb => commit_yes (h.below hb) hl m n hr, .inr ⟨rfl, m, n, rfl, rfl, hr, rfl⟩⟩

set_option maxHeartbeats 4000000 in
set_option maxRecDepth 100000 in
theorem walk (s1 t1 : Int) (a1 : Option Addr) (len1 cap1 : Nat) (ws : List Wr) (w : World) (hc1 : WrsCame w a1 len1 cap1 ws) (s2 t2 : Int) (a2 : Option Addr) (len2 cap2 : Nat) (vs : List Wr) (hc2 : WrsCame w a2 len2 cap2 vs) :
    Calls Try.prog 5 #[.agg #[.int .i64 s1, .int .i64 t1, .slice a1 len1 cap1], .agg #[.int .i64 s2, .int .i64 t2, .slice a2 len2 cap2]] w fun e w' => e = .returned (.bool true) ∧ Below w.heap.size w w' := by
  obtain ⟨hl1, _, _, hi1, _⟩ := hc1
  obtain ⟨hl2, _, _, hi2, _⟩ := hc2
  have hb0 : Below w.heap.size w ((w.alloc (.cells #[.int .i64 s1, .int .i64 t1, .slice a1 len1 cap1] 25)).alloc (.cells #[.int .i64 s2, .int .i64 t2, .slice a2 len2 cap2] 25)) := ((Below.refl _ w).alloc (Nat.le_refl _) _).alloc (by simp) _
  obtain ⟨W2, hW2⟩ : ∃ W2, W2 = ((w.alloc (.cells #[.int .i64 s1, .int .i64 t1, .slice a1 len1 cap1] 25)).alloc (.cells #[.int .i64 s2, .int .i64 t2, .slice a2 len2 cap2] 25)) := ⟨_, rfl⟩
  have hz2 : W2.heap.size = w.heap.size + 2 := by rw [hW2]; simp
  have HX : Hid (∀ w', Below W2.heap.size W2 w' → Below w.heap.size w w' ∧ W2.heap.size ≤ w'.heap.size ∧ w'.cell? ⟨w.heap.size, 0, none⟩ = some (.int .i64 s1) ∧ w'.cell? ⟨w.heap.size, 1, none⟩ = some (.int .i64 t1) ∧ w'.cell? ⟨w.heap.size, 2, none⟩ = some (.slice a1 len1 cap1) ∧ w'.cell? ⟨w.heap.size + 1, 0, none⟩ = some (.int .i64 s2) ∧ w'.cell? ⟨w.heap.size + 1, 1, none⟩ = some (.int .i64 t2) ∧ w'.cell? ⟨w.heap.size + 1, 2, none⟩ = some (.slice a2 len2 cap2)) := Lib.hid (fun w' hb => by
    have hx1 : ∀ i, W2.cell? ⟨w.heap.size, i, none⟩ = (#[.int .i64 s1, .int .i64 t1, .slice a1 len1 cap1] : Array Value)[i]? := fun i => by
      rw [hW2]
      exact (World.cell?_of_block (a := ⟨w.heap.size, i, none⟩) (Below.heap_alloc _ _ _ (by simp))).trans (cell_of_row _ _ i _ _ (0, 0) (heap_alloc_new w _))
    have hx2 : ∀ i, W2.cell? ⟨w.heap.size + 1, i, none⟩ = (#[.int .i64 s2, .int .i64 t2, .slice a2 len2 cap2] : Array Value)[i]? := fun i => by
      rw [hW2]
      have h9 := heap_alloc_new (w.alloc (.cells #[.int .i64 s1, .int .i64 t1, .slice a1 len1 cap1] 25)) (.cells #[.int .i64 s2, .int .i64 t2, .slice a2 len2 cap2] 25)
      rw [World.size_alloc] at h9
      exact cell_of_row _ _ i _ _ (0, 0) h9
    have h : ∀ i : Nat, w'.cell? ⟨w.heap.size, i, none⟩ = (#[.int .i64 s1, .int .i64 t1, .slice a1 len1 cap1] : Array Value)[i]? := fun i => (hb.cell (p := ⟨w.heap.size, i, none⟩) (by show w.heap.size < _; omega)).trans (hx1 i)
    have h' : ∀ i : Nat, w'.cell? ⟨w.heap.size + 1, i, none⟩ = (#[.int .i64 s2, .int .i64 t2, .slice a2 len2 cap2] : Array Value)[i]? := fun i => (hb.cell (p := ⟨w.heap.size + 1, i, none⟩) (by show w.heap.size + 1 < _; omega)).trans (hx2 i)
    rw [← hW2] at hb0
    exact ⟨hb0.trans (hb.mono (by omega)), hb.size, h 0, h 1, h 2, h' 0, h' 1, h' 2⟩)
  by_cases h40 : (40 : Int) < (len1 : Int)
  · clear hb0 hi1 hi2 hl1 hl2
    go_enter Try.func5, Try.ntmps5
    go_wp2_with fail
    rw [← hW2]
    clear hW2
    refine (head11_any _).mono ?_
    rintro e w1 ⟨rfl, hb1⟩
    obtain ⟨hb, hz, x0, x1, x2, y0, y1, y2⟩ := HX.out _ hb1
    clear hb1
    go_wp2
    go_ret
    exact ⟨rfl, hb⟩
  by_cases h41 : (40 : Int) < (len2 : Int)
  · clear hb0 hi1 hi2 hl1 hl2
    go_enter Try.func5, Try.ntmps5
    go_wp2_with fail
    rw [← hW2]
    clear hW2
    refine (head11_any _).mono ?_
    rintro e w1 ⟨rfl, hb1⟩
    obtain ⟨hb, hz, x0, x1, x2, y0, y1, y2⟩ := HX.out _ hb1
    clear hb1
    go_wp2
    go_ret
    exact ⟨rfl, hb⟩
  obtain ⟨xs, ec, hco1, hec⟩ := commit_case (cap := cap1) hi1 hl1 (by omega) s1 t1
  obtain ⟨ys, ed, hco2, hed⟩ := commit_case (cap := cap2) hi2 hl2 (by omega) s2 t2
  have HC1 := Lib.hid hco1
  have HC2 := Lib.hid hco2
  obtain ⟨SM, hSM⟩ : ∃ SM, SM = smB (s1 = s2 ∧ t1 = t2 ∧ ws = vs) := ⟨_, rfl⟩
  have HS : Hid (∀ W, Below w.heap.size w W → Calls Try.prog 14 #[.agg #[.int .i64 s1, .int .i64 t1, .slice a1 len1 cap1], .agg #[.int .i64 s2, .int .i64 t2, .slice a2 len2 cap2]] W fun e W' => e = .returned (.bool SM) ∧ Below W.heap.size W W') := Lib.hid fun W hb => by
    rw [hSM]
    exact same_any (hi1.below hb) hl1 (hi2.below hb) hl2 (by omega) (by omega) s1 t1 s2 t2
  have HEC := Lib.hid hec
  have HED := Lib.hid hed
  have HSM := Lib.hid hSM
  clear hb0 hi1 hi2 hl1 hl2 hco1 hco2 hec hed hSM
  go_enter Try.func5, Try.ntmps5
  go_wp2_with fail
  rw [← hW2]
  clear hW2
  refine (head11_any _).mono ?_
  rintro e w1 ⟨rfl, hb1⟩
  obtain ⟨hbw1, hz1, x0, x1, x2, y0, y1, y2⟩ := HX.out _ hb1
  go_wp2_with fail
  refine (HC1.out w1 hbw1).mono ?_
  rintro e w3 ⟨rfl, hb3⟩
  have hB3 := hb1.trans (hb3.mono hz1)
  clear hb1 hbw1 hz1 x0 x1 x2 y0 y1 y2 hb3
  obtain ⟨hbw3, hz3, x0, x1, x2, y0, y1, y2⟩ := HX.out _ hB3
  go_wp2_with fail
  refine (HC2.out w3 hbw3).mono ?_
  rintro e w4 ⟨rfl, hb4⟩
  have hB4 := hB3.trans (hb4.mono hz3)
  clear hB3 hbw3 hz3 x0 x1 x2 y0 y1 y2 hb4
  obtain ⟨hbw4, hz4, x0, x1, x2, y0, y1, y2⟩ := HX.out _ hB4
  rcases HEC.out with hcs | ⟨rfl, m, n, hm, hn, hr1, hxs⟩
  · have hne : (ec != 0) = true := by simpa using hcs
    go_wp2
    go_ret
    exact ⟨rfl, hbw4⟩
  rcases HED.out with hcs | ⟨rfl, m', n', hm', hn', hr2, hys⟩
  · have hne : (ed != 0) = true := by simpa using hcs
    clear hr1 hxs hm hn
    go_wp2
    go_ret
    exact ⟨rfl, hbw4⟩
  have hsl1 := (rightC_of hr1)
  have hts := texts_same m n m' n' ws vs hr1 hr2 xs ys hxs hys SM (by rw [HSM.out, hm, hn, hm', hn'])
  obtain ⟨k, hk1, hk2, hk⟩ : ∃ k : Nat, k ≤ xs.size ∧ k ≤ ys.size ∧ k = min xs.size ys.size := ⟨min xs.size ys.size, Nat.min_le_left _ _, Nat.min_le_right _ _, rfl⟩
  rw [← hk] at hts
  have HN := Lib.hid (show min (xs.size : Int) (ys.size : Int) = (k : Int) by omega)
  obtain ⟨hE, hT⟩ := hts
  have hk1' : (k : Int) ≤ (xs.size : Int) := by omega
  have hk2' : (k : Int) ≤ (ys.size : Int) := by omega
  clear hr1 hr2 hxs hys hm hn hm' hn' hsl1 hk HEC HED HSM
  have HB4 := Lib.hid hB4
  clear hB4 hz4
  go_upto_region 10 with fail
  rw [HN.out]
  cases SM
  all_goals
    have HB5 := Lib.hid HB4.out.drew
    refine wp_region_held_drew (S := fun w' => w'.cell? ⟨w.heap.size, 0, none⟩ = some (.int .i64 s1) ∧ w'.cell? ⟨w.heap.size, 1, none⟩ = some (.int .i64 t1) ∧ w'.cell? ⟨w.heap.size, 2, none⟩ = some (.slice a1 len1 cap1) ∧ w'.cell? ⟨w.heap.size + 1, 0, none⟩ = some (.int .i64 s2) ∧ w'.cell? ⟨w.heap.size + 1, 1, none⟩ = some (.int .i64 t2) ∧ w'.cell? ⟨w.heap.size + 1, 2, none⟩ = some (.slice a2 len2 cap2)) (by kernel_rfl) (by exact ⟨x0, x1, x2, y0, y1, y2⟩) (fun hHeld => ?_)
    clear x0 x1 x2 y0 y1 y2 HB4 hbw4
    refine wpAnyH_take (i := 0) (oi := _) (v := ?_) rfl (by kernel_rfl) (by kernel_rfl) (by kernel_rfl) (fun _ _ _ h => h) (Or.inl ⟨by rfl, ?_⟩) (by assumption) ?_
    rotate_left
    · (intro w' hSw; (try dsimp only at hSw); go_simp; all_goals with_reducible rfl)
    try simp only [Act.put, List.getElem_toArray, List.getElem_cons_zero, List.getElem_cons_succ, List.setIfInBounds_toArray, List.set_cons_zero, List.set_cons_succ]
    refine wpAnyH_take (i := 1) (oi := _) (v := ?_) rfl (by kernel_rfl) (by kernel_rfl) (by kernel_rfl) (fun _ _ _ h => h) (Or.inl ⟨by rfl, ?_⟩) (by assumption) ?_
    rotate_left
    · (intro w' hSw; (try dsimp only at hSw); go_simp; all_goals with_reducible rfl)
    try simp only [Act.put, List.getElem_toArray, List.getElem_cons_zero, List.getElem_cons_succ, List.setIfInBounds_toArray, List.set_cons_zero, List.set_cons_succ]
    refine wpAnyH_take (i := 2) (oi := _) (v := ?_) rfl (by kernel_rfl) (by kernel_rfl) (by kernel_rfl) (fun _ _ _ h => h) (Or.inl ⟨by rfl, ?_⟩) (by assumption) ?_
    rotate_left
    · (intro w' hSw; (try dsimp only at hSw); go_simp; all_goals with_reducible rfl)
    try simp only [Act.put, List.getElem_toArray, List.getElem_cons_zero, List.getElem_cons_succ, List.setIfInBounds_toArray, List.set_cons_zero, List.set_cons_succ]
    refine wpAnyH_take (i := 3) (oi := _) (v := ?_) rfl (by kernel_rfl) (by kernel_rfl) (by kernel_rfl) (fun _ _ _ h => h) (Or.inl ⟨by rfl, ?_⟩) (by assumption) ?_
    rotate_left
    · (intro w' hSw; (try dsimp only at hSw); go_simp; all_goals with_reducible rfl)
    try simp only [Act.put, List.getElem_toArray, List.getElem_cons_zero, List.getElem_cons_succ, List.setIfInBounds_toArray, List.set_cons_zero, List.set_cons_succ]
    refine wpAnyH_take (i := 4) (oi := _) (v := ?_) rfl (by kernel_rfl) (by kernel_rfl) (by kernel_rfl) (fun _ _ _ h => h) (Or.inl ⟨by rfl, ?_⟩) (by assumption) ?_
    rotate_left
    · (intro w' hSw; (try dsimp only at hSw); go_simp; all_goals with_reducible rfl)
    try simp only [Act.put, List.getElem_toArray, List.getElem_cons_zero, List.getElem_cons_succ, List.setIfInBounds_toArray, List.set_cons_zero, List.set_cons_succ]
    refine wpAnyH_ready (rs := [5]) (by kernel_rfl) (by simp) ?_
    refine AllReadyH.cons rfl (fun K hK => ?_) AllReadyH.nil
    go_simp
    have hbl5 := (HX.out _ HB5.out).1
    have hzl5 := (HX.out _ HB5.out).2.1
    refine (HS.out _ hbl5).mono ?_
    rintro e w6 ⟨rfl, hb6⟩
    have HB6 := Lib.hid (HB5.out.trans (hb6.mono hzl5))
    obtain ⟨_, _, z0, z1, z2, z3, z4, z5⟩ := HX.out _ HB6.out
    clear hbl5 hzl5 hb6
    refine hK.out _ _ (by exact ⟨z0, z1, z2, z3, z4, z5⟩) (fun hHeld => ?_)
    clear hK K z0 z1 z2 z3 z4 z5
    try simp only [Act.put, List.getElem_toArray, List.getElem_cons_zero, List.getElem_cons_succ, List.setIfInBounds_toArray, List.set_cons_zero, List.set_cons_succ]
    refine wpAnyH_take (i := 6) (oi := _) (v := ?_) rfl (by kernel_rfl) (by kernel_rfl) (by kernel_rfl) (fun _ _ _ h => h) (Or.inl ⟨by rfl, ?_⟩) (by assumption) ?_
    rotate_left
    · (intro w' hSw; (try dsimp only at hSw); go_simp; all_goals with_reducible rfl)
    try simp only [Act.put, List.getElem_toArray, List.getElem_cons_zero, List.getElem_cons_succ, List.setIfInBounds_toArray, List.set_cons_zero, List.set_cons_succ]
    refine wpAnyH_take (i := 7) (oi := _) (v := ?_) rfl (by kernel_rfl) (by kernel_rfl) (by kernel_rfl) (fun _ _ _ h => h) (Or.inl ⟨by rfl, ?_⟩) (by assumption) ?_
    rotate_left
    · (intro w' hSw; (try dsimp only at hSw); go_simp; all_goals with_reducible rfl)
    try simp only [Act.put, List.getElem_toArray, List.getElem_cons_zero, List.getElem_cons_succ, List.setIfInBounds_toArray, List.set_cons_zero, List.set_cons_succ]
    refine wpAnyH_take (i := 8) (oi := _) (v := ?_) rfl (by kernel_rfl) (by kernel_rfl) (by kernel_rfl) (fun _ _ _ h => h) (Or.inl ⟨by rfl, ?_⟩) (by assumption) ?_
    rotate_left
    · (intro w' hSw; (try dsimp only at hSw); go_simp; all_goals with_reducible rfl)
    try simp only [Act.put, List.getElem_toArray, List.getElem_cons_zero, List.getElem_cons_succ, List.setIfInBounds_toArray, List.set_cons_zero, List.set_cons_succ]
    refine wpAnyH_take (i := 9) (oi := _) (v := ?_) rfl (by kernel_rfl) (by kernel_rfl) (by kernel_rfl) (fun _ _ _ h => h) (Or.inl ⟨by rfl, ?_⟩) (by assumption) ?_
    rotate_left
    · (intro w' hSw; (try dsimp only at hSw); go_simp; all_goals with_reducible rfl)
    try simp only [Act.put, List.getElem_toArray, List.getElem_cons_zero, List.getElem_cons_succ, List.setIfInBounds_toArray, List.set_cons_zero, List.set_cons_succ]
    refine wpAnyH_take (i := 10) (oi := _) (v := ?_) rfl (by kernel_rfl) (by kernel_rfl) (by kernel_rfl) (fun _ _ _ h => h) (Or.inl ⟨by rfl, ?_⟩) (by assumption) ?_
    rotate_left
    · (intro w' hSw; (try dsimp only at hSw); go_simp; all_goals with_reducible rfl)
    try simp only [Act.put, List.getElem_toArray, List.getElem_cons_zero, List.getElem_cons_succ, List.setIfInBounds_toArray, List.set_cons_zero, List.set_cons_succ]
    refine wpAnyH_take (i := 11) (oi := _) (v := ?_) rfl (by kernel_rfl) (by kernel_rfl) (by kernel_rfl) (fun _ _ _ h => h) (Or.inl ⟨by rfl, ?_⟩) (by assumption) ?_
    rotate_left
    · (intro w' hSw; (try dsimp only at hSw); go_simp; all_goals with_reducible rfl)
    try simp only [Act.put, List.getElem_toArray, List.getElem_cons_zero, List.getElem_cons_succ, List.setIfInBounds_toArray, List.set_cons_zero, List.set_cons_succ]
    refine wpAnyH_take (i := 12) (oi := _) (v := ?_) rfl (by kernel_rfl) (by kernel_rfl) (by kernel_rfl) (fun _ _ _ h => h) (Or.inl ⟨by rfl, ?_⟩) (by assumption) ?_
    rotate_left
    · (intro w' hSw; (try dsimp only at hSw); go_simp; all_goals with_reducible rfl)
    try simp only [Act.put, List.getElem_toArray, List.getElem_cons_zero, List.getElem_cons_succ, List.setIfInBounds_toArray, List.set_cons_zero, List.set_cons_succ]
    refine wpAnyH_take (i := 13) (oi := _) (v := ?_) rfl (by kernel_rfl) (by kernel_rfl) (by kernel_rfl) (fun _ _ _ h => h) (Or.inl ⟨by rfl, ?_⟩) (by assumption) ?_
    rotate_left
    · (intro w' hSw; (try dsimp only at hSw); go_simp; all_goals with_reducible rfl)
    try simp only [Act.put, List.getElem_toArray, List.getElem_cons_zero, List.getElem_cons_succ, List.setIfInBounds_toArray, List.set_cons_zero, List.set_cons_succ]
    refine wpAnyH_take (i := 14) (oi := _) (v := ?_) rfl (by kernel_rfl) (by kernel_rfl) (by kernel_rfl) (fun _ _ _ h => h) (Or.inl ⟨by rfl, ?_⟩) (by assumption) ?_
    rotate_left
    · (intro w' hSw; (try dsimp only at hSw); go_simp; all_goals with_reducible rfl)
    try simp only [Act.put, List.getElem_toArray, List.getElem_cons_zero, List.getElem_cons_succ, List.setIfInBounds_toArray, List.set_cons_zero, List.set_cons_succ]
    refine wpAnyH_take (i := 15) (oi := _) (v := ?_) rfl (by kernel_rfl) (by kernel_rfl) (by kernel_rfl) (fun _ _ _ h => h) (Or.inl ⟨by rfl, ?_⟩) (by assumption) ?_
    rotate_left
    · (intro w' hSw; (try dsimp only at hSw); go_simp; all_goals with_reducible rfl)
    try simp only [Act.put, List.getElem_toArray, List.getElem_cons_zero, List.getElem_cons_succ, List.setIfInBounds_toArray, List.set_cons_zero, List.set_cons_succ]
    refine wpAnyH_take (i := 16) (oi := _) (v := ?_) rfl (by kernel_rfl) (by kernel_rfl) (by kernel_rfl) (fun _ _ _ h => h) (Or.inl ⟨by rfl, ?_⟩) (by assumption) ?_
    rotate_left
    · (intro w' hSw; (try dsimp only at hSw); go_simp; all_goals with_reducible rfl)
    try simp only [Act.put, List.getElem_toArray, List.getElem_cons_zero, List.getElem_cons_succ, List.setIfInBounds_toArray, List.set_cons_zero, List.set_cons_succ]
    refine wpAnyH_ready (rs := [17]) (by kernel_rfl) (by simp) ?_
    refine AllReadyH.cons rfl (fun K hK => ?_) AllReadyH.nil
    go_simp
    have hbl6 := (HX.out _ HB6.out).1
    have hzl6 := (HX.out _ HB6.out).2.1
    refine (HS.out _ hbl6).mono ?_
    rintro e w7 ⟨rfl, hb7⟩
    have HB7 := Lib.hid (HB6.out.trans (hb7.mono hzl6))
    obtain ⟨_, _, z0, z1, z2, z3, z4, z5⟩ := HX.out _ HB7.out
    clear hbl6 hzl6 hb7
    refine hK.out _ _ (by exact ⟨z0, z1, z2, z3, z4, z5⟩) (fun hHeld => ?_)
    clear hK K z0 z1 z2 z3 z4 z5
    try simp only [Act.put, List.getElem_toArray, List.getElem_cons_zero, List.getElem_cons_succ, List.setIfInBounds_toArray, List.set_cons_zero, List.set_cons_succ]
    refine wpAnyH_take (i := 18) (oi := _) (v := ?_) rfl (by kernel_rfl) (by kernel_rfl) (by kernel_rfl) (fun _ _ _ h => h) (Or.inl ⟨by rfl, ?_⟩) (by assumption) ?_
    rotate_left
    · (intro w' hSw; (try dsimp only at hSw); go_simp; all_goals with_reducible rfl)
    try simp only [Act.put, List.getElem_toArray, List.getElem_cons_zero, List.getElem_cons_succ, List.setIfInBounds_toArray, List.set_cons_zero, List.set_cons_succ]
    refine wpAnyH_take (i := 19) (oi := _) (v := ?_) rfl (by kernel_rfl) (by kernel_rfl) (by kernel_rfl) (fun _ _ _ h => h) (Or.inl ⟨by rfl, ?_⟩) (by assumption) ?_
    rotate_left
    · (intro w' hSw; (try dsimp only at hSw); go_simp; all_goals with_reducible rfl)
    try simp only [Act.put, List.getElem_toArray, List.getElem_cons_zero, List.getElem_cons_succ, List.setIfInBounds_toArray, List.set_cons_zero, List.set_cons_succ]
    refine wpAnyH_take (i := 20) (oi := _) (v := ?_) rfl (by kernel_rfl) (by kernel_rfl) (by kernel_rfl) (fun _ _ _ h => h) (Or.inl ⟨by rfl, ?_⟩) (by assumption) ?_
    rotate_left
    · (intro w' hSw; (try dsimp only at hSw); go_simp; all_goals with_reducible rfl)
    try simp only [Act.put, List.getElem_toArray, List.getElem_cons_zero, List.getElem_cons_succ, List.setIfInBounds_toArray, List.set_cons_zero, List.set_cons_succ]
    refine wpAnyH_done (by kernel_rfl) ?_ _
    go_wp2
    go_ret
    exact ⟨rfl, (HX.out _ HB7.out).1⟩

end Go.Proofs.Ytgpfmhoodohggaa
