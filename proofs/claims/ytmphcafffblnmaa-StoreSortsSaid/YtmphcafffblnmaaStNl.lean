/-
  store: the calls at a nil store.
-/
import Derived.Test.YtmphcafffblnmaaStBs
namespace Go.Proofs.Ytmphcafffblnmaa.sT
open Go.RowKit Go.Proofs.Ytmphcafffblnmaa.tC Go.Proofs.Ytmphcafffblnmaa.rgR

set_option linter.unusedVariables false
set_option linter.unusedSimpArgs false
attribute [local go_sem] Oper.semAt_some

theorem low_nil (w : World) : Calls Try.prog 21 #[.pointer none] w fun e w' => e = .returned (.int .i64 0) ∧ w = w' := by
  go_enter Try.func21, Try.ntmps21
  go_wp2
  go_ret
  exact ⟨rfl, rfl⟩
theorem last_nil (w : World) : Calls Try.prog 22 #[.pointer none] w fun e w' => e = .returned (.int .i64 0) ∧ w = w' := by
  go_enter Try.func22, Try.ntmps22
  go_wp2
  go_ret
  exact ⟨rfl, rfl⟩
theorem chains_nil (w : World) : Calls Try.prog 49 #[.pointer none] w fun e w' => e = .returned (.pointer none) ∧ w = w' := by
  go_enter Try.func49, Try.ntmps49
  go_wp2
  go_ret
  exact ⟨rfl, rfl⟩
theorem commit_nil (c : Value) (hc : ∃ a b s, c = .agg #[a, b, s]) (w : World) : Calls Try.prog 28 #[.pointer none, c] w fun e w' => e = .returned (.int .i64 1) ∧ Below w.heap.size w w' := by
  obtain ⟨a, b, s, rfl⟩ := hc
  have HB : Hid (Below w.heap.size w (w.alloc (.cells #[a, b, s] 43))) := Lib.hid ((Below.refl _ _).alloc (Nat.le_refl _) _)
  go_enter Try.func28, Try.ntmps28
  go_wp2
  first | exact ⟨rfl, HB.out⟩ | (go_ret; exact ⟨rfl, HB.out⟩)
theorem vacuum_nil (w : World) : Calls Try.prog 32 #[.pointer none, .int .i64 0] w fun e w' => e = .returned (.int .i64 1) ∧ Below w.heap.size w w' := by
  have HB : Hid (Below w.heap.size w w) := Lib.hid (Below.refl _ _)
  go_enter Try.func32, Try.ntmps32
  go_wp2
  first | exact ⟨rfl, HB.out⟩ | (go_ret; exact ⟨rfl, HB.out⟩)

/-- a nil tree tells nothing -/
theorem from_nil (n bt bk : Nat) (w : World) (hbt : w.cell? ⟨bt, 0, none⟩ = some (.pointer none)) (hlt : bt < w.heap.size) :
    SeqR Fence.wide n Try.prog 77 #[.pointer (some ⟨bt, 0, none⟩), .pointer (some ⟨bk, 0, none⟩)] (fun _ : Unit => #[.string ⟨#[]⟩, .slice none 0 0]) (fun _ _ => True)
      (fun ys => ys = []) (fun _ => False) 0 0 w := fun l J Jx W hW hJ hJx hY h0 => by
  refine callsIn_wide.2 ?_
  have hc1 := (hW.cell (p := ⟨bt, 0, none⟩) hlt).trans hbt
  have HJ := Lib.hid hJ
  have H0 := Lib.hid h0
  have HL : Hid (∀ W, Calls Try.prog 65 #[.pointer none] W fun e w' => e = .returned (.int .i64 0) ∧ W = w') := Lib.hid len_nil
  clear hbt hJ hJx hY h0 hW hlt
  go_enter Try.func77, Try.ntmps77
  go_step3
  go_wp2_with fail
  refine (HL.out _).mono ?_
  rintro e w2 ⟨rfl, rfl⟩
  go_wp2
  simp only [Exit.noGoto_ret]
  refine bodyPost_ret (results_none rfl _ _ _) rfl ?_
  exact ⟨⟨_, rfl⟩, .inl ⟨[], rfl, H0.out⟩⟩

set_option maxHeartbeats 4000000 in
set_option maxRecDepth 100000 in
theorem versions_nil (W : World) : Calls Try.prog 33 #[.pointer none] W fun e w' => e = .returned (.int .i64 0) ∧ Below W.heap.size W w' := by
  have HC := Lib.hid chains_nil
  refine (callsIn_wide (n := 3)).1 (callsIn_of_wp_marks Try.func33 rfl trivial ?_)
  simp only [Try.ntmps33, List.size_toArray, List.length_cons, List.length_nil, Nat.reduceAdd, Nat.reduceSub, Array.replicate_succ, Array.replicate_zero, List.push_toArray, List.append_toArray, List.nil_append, List.cons_append]
  refine (wpIn_wide (n := 3)).2 ?_
  go_wp2_with fail
  refine (HC.out _).mono ?_
  rintro e w2 ⟨rfl, rfl⟩
  go_wp2_with fail
  obtain ⟨c, hc⟩ : ∃ c, c = W.heap.size := ⟨_, rfl⟩
  obtain ⟨WB, hWB⟩ : ∃ WB, WB = W.alloc (.cells #[.int .i64 0] 3) := ⟨_, rfl⟩
  rw [← hWB]
  refine (from_any _ ⟨#[]⟩ _).mono ?_
  rintro e W6 ⟨rfl, hw6⟩
  have hzB : WB.heap.size = c + 1 := by rw [hWB, World.size_alloc, hc]
  rw [hzB, ← hc]
  have HALL : Hid (Below c W W6 ∧ Boxed W6 c 3 (.int .i64 ((0 : Nat) : Int)) ∧ Boxed W6 (c + 1) 98 (.pointer none) ∧ W6.heap.size = c + 3) := Lib.hid (by
    have h1 := Boxed.new W 3 (.int .i64 0)
    rw [← hc, ← hWB] at h1
    have h2 := Boxed.new WB 98 (.pointer none)
    simp only [World.size_alloc, hzB] at h2
    have hb : Below c W WB := by rw [hWB]; exact (Below.refl _ _).alloc (by rw [← hc]; exact Nat.le_refl _) _
    rw [hw6]
    exact ⟨(hb.alloc (by omega) _).alloc (by simp; omega) _, (h1.alloc _).alloc _, h2.alloc _, by simp [hzB]⟩)
  have HCC := Lib.hid hc
  clear hw6 hzB hWB hc
  go_wp2_with fail
  obtain ⟨hb6, bN, bT, hsz⟩ := HALL.out
  have HST := Lib.hid (from_nil 2 (c + 1) (c + 1 + 1) W6 bT.cell bT.lt)
  have HBN := Lib.hid bN
  have HSZ := Lib.hid hsz
  have HB6 := Lib.hid hb6
  clear hb6 bN bT hsz HALL
  refine (wpIn_wide (n := 3)).1 ?_
  refine' wpIn_rangeR rfl (by omega) (gf := 77) (lb := #[.pointer (some ⟨c + 1, 0, none⟩), .pointer (some ⟨c + 1 + 1, 0, none⟩)]) rfl trivial (enters_of Try.func77 (by kernel_rfl) rfl)
    HST.out (fun _ _ => trivial) (fun _ _ _ _ _ _ _ _ => trivial) (Below.refl _ _) (fun _ => rfl)
    (fun pre W' => Boxed W' c 3 (.int .i64 ((0 : Nat) : Int)) ∧ Below c W6 W')
    (fun _ _ _ => False)
    (OwnFrom.and (fun pre X Y row hs hg hr => hs.kept hg (fun e => by have := (hr c e.symm).1; have := HSZ.out; omega)) (ownFrom_below (by have := HSZ.out; omega) (by have := HSZ.out; omega)))
    (fun _ _ _ _ _ h _ _ => h) ⟨HBN.out, Below.refl _ _⟩ (fun _ => ?_) ?assign ?body ?done ?stop
  case assign =>
    intro l x W K hK
    rw [fold2]
    simp only [List.setIfInBounds_toArray, List.set_cons_succ, List.set_cons_zero]
    repeat gi_step
    exact hK
  case body =>
    rintro l pre x W' _ hlen _
    exact absurd hlen (by omega)
  case done =>
    rintro D ys W' hD e ⟨bn, hB⟩ hK
    have hcn := bn.cell
    have HF : Hid (Below W.heap.size W (W'.putObj D (.deferred none))) := Lib.hid (by
      have h1 := HB6.out.trans hB
      rw [HCC.out] at h1
      exact h1.trans (belowK_b (w := W) (Nat.le_refl _) _ D _ _ (by have := HSZ.out; have := HCC.out; omega) hK rfl rfl))
    clear e bn hB
    go_wp2
    refine ⟨by simp, .inl ⟨_, _, rfl, run_takeDeferred hK, ?_⟩⟩
    refine ⟨.int .i64 0, ?_, rfl, HF.out⟩
    simp [results, Try.f33, go_sem]
  case stop =>
    rintro D co pre W' hD hsp h hK
    exact h.elim

end Go.Proofs.Ytmphcafffblnmaa.sT
