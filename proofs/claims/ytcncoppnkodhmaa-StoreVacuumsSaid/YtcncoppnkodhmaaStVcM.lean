/-
  StoreVacuums, plainly: two Vacuums, one behind the other, come to one.
-/
import Derived.Test.YtcncoppnkodhmaaStAgM
namespace Go.Proofs.Ytcncoppnkodhmaa.sT
open Go.RowKit Go.Proofs.Ytcncoppnkodhmaa.tC Go.Proofs.Ytcncoppnkodhmaa.storeFrees

set_option linter.unusedVariables false
set_option linter.unusedSimpArgs false

theorem firstC_le {vs : List Ver} {r : Nat} (h : r ≤ vs.length) : firstC vs r ≤ r := by
  cases r with
  | zero => exact Nat.le_refl _
  | succ m =>
    rw [firstC_at vs m (by omega)]
    split <;> omega
theorem cut_cut {vs : List Ver} (h : Rise vs) {s1 s2 : Int} (hs : s1 ≤ s2) : cutV (cutV vs s1) s2 = cutV vs s2 := by
  have hm := up_mono (vs := vs) hs
  obtain ⟨h1, _⟩ := up_pre h s1
  obtain ⟨h2, _⟩ := up_pre h s2
  have hf := firstC_le h1
  unfold cutV
  rw [List.drop_drop, up_drop h s2 _ (by omega)]
  congr 1
  obtain ⟨f, hfe⟩ : ∃ f, f = firstC vs (upN vs s1) := ⟨_, rfl⟩
  obtain ⟨u, hu⟩ : ∃ u, u = upN vs s2 := ⟨_, rfl⟩
  rw [← hu] at hm h2 ⊢
  rw [← hfe] at hf ⊢
  cases hd : u - f with
  | zero =>
    have e1 : u = f := by omega
    have e2 : upN vs s1 = u := by omega
    rw [firstC_zero, Nat.add_zero, ← e2, ← hfe]
  | succ m =>
    have hm2 : m < (vs.drop f).length := by rw [List.length_drop]; omega
    rw [firstC_at (vs.drop f) m hm2, List.getElem_drop]
    have e1 : u = (f + m) + 1 := by omega
    rw [e1, firstC_at vs (f + m) (by omega)]
    split <;> omega
theorem cut_same {vs : List Ver} {s1 s2 : Int} (h : upN vs s1 = upN vs s2) : cutV vs s1 = cutV vs s2 := by unfold cutV; rw [h]
theorem cut_nil (s : Int) : cutV [] s = [] := by unfold cutV; simp

theorem vac1_comp (f1 f2 : ByteArray → Bool) {s1 s2 : Int} (hs : s1 ≤ s2) (p : ByteArray × List Ver) (hr : Rise p.2) (hsame : f1 p.1 = true → f2 p.1 = false → upN p.2 s1 = upN p.2 s2) : (vac1 f1 s1 p).bind (vac1 f2 s2) = vac1 (fun k => f1 k || f2 k) s2 p := by
  have hcc := cut_cut hr hs
  cases h1 : f1 p.1 with
  | false =>
    have e1 : vac1 f1 s1 p = some p := by unfold vac1; rw [h1]; rfl
    rw [e1]
    unfold vac1
    simp only [Option.bind_some, h1, Bool.false_or]
  | true =>
    have e3 : vac1 (fun k => f1 k || f2 k) s2 p = if cutV p.2 s2 = [] then none else some (p.1, cutV p.2 s2) := by unfold vac1; simp only [h1, Bool.true_or, if_true]
    have e1 : vac1 f1 s1 p = if cutV p.2 s1 = [] then none else some (p.1, cutV p.2 s1) := by unfold vac1; simp only [h1, if_true]
    rw [e3, e1]
    by_cases hc : cutV p.2 s1 = []
    · have hc2 : cutV p.2 s2 = [] := by rw [← hcc, hc, cut_nil]
      rw [if_pos hc, if_pos hc2]; rfl
    · rw [if_neg hc, Option.bind_some]
      cases h2 : f2 p.1 with
      | true =>
        have e2 : vac1 f2 s2 (p.1, cutV p.2 s1) = if cutV (cutV p.2 s1) s2 = [] then none else some (p.1, cutV (cutV p.2 s1) s2) := by unfold vac1; simp only [h2, if_true]
        rw [e2, hcc]
      | false =>
        have e2 : vac1 f2 s2 (p.1, cutV p.2 s1) = some (p.1, cutV p.2 s1) := by unfold vac1; simp only [h2, Bool.false_eq_true, if_false]
        have he := cut_same (hsame h1 h2)
        rw [e2, ← he, if_neg hc]
theorem fm_congr {α β : Type} {f g : α → Option β} : ∀ {l : List α}, (∀ x ∈ l, f x = g x) → l.filterMap f = l.filterMap g
  | [], _ => rfl
  | x :: r, h => by
    rw [List.filterMap_cons, List.filterMap_cons, h x List.mem_cons_self, fm_congr fun y hy => h y (List.mem_cons_of_mem _ hy)]
theorem vacK_comp (f1 f2 : ByteArray → Bool) {s1 s2 : Int} (hs : s1 ≤ s2) (ks : KL) (h : ∀ p ∈ ks, Rise p.2 ∧ (f1 p.1 = true → f2 p.1 = false → upN p.2 s1 = upN p.2 s2)) : vacK f2 s2 (vacK f1 s1 ks) = vacK (fun k => f1 k || f2 k) s2 ks := by
  unfold vacK
  rw [List.filterMap_filterMap]
  exact fm_congr fun p hp => vac1_comp f1 f2 hs p (h p hp).1 (h p hp).2

theorem vac_zero (M : StM) : M.vacuum 0 = M := by
  unfold StM.vacuum
  have e : vacK (fun k => (allW (M.cms.take 0)).any fun w => decide (w.key = k)) ((M.low + 0 : Nat) : Int) M.keys = M.keys := by
    unfold vacK
    rw [show (fun k => (allW (M.cms.take 0)).any fun w => decide (w.key = k)) = fun _ => false by funext k; simp [allW]]
    have : (vac1 (fun _ => false) ((M.low + 0 : Nat) : Int)) = some := by
      funext p
      unfold vac1
      simp
    rw [this, List.filterMap_some]
  rw [e]
  simp

theorem allW_app (a b : List CmM) : allW (a ++ b) = allW a ++ allW b := by unfold allW; rw [List.flatMap_append]

/-- of a store behind commits, two Vacuums come to one -/
theorem vac_vac {first : Nat} {B : List Wr} {cs : List CmM} {N : Nat} (hg : SG (madeM first B cs) N) (hcs : ∀ z (h : z < cs.length), (cs[z]).seq = (first : Int) + 1 + z) {a b : Nat} (hab : a + b ≤ cs.length) :
    ((madeM first B cs).vacuum a).vacuum b = (madeM first B cs).vacuum (a + b) := by
  obtain ⟨l1, l2⟩ := madeM_low first B cs
  obtain ⟨r1, r2⟩ := rise_made first B cs
  obtain ⟨S, hS⟩ : ∃ S, S = madeM first B cs := ⟨_, rfl⟩
  have hch : ∀ p ∈ S.keys, p.2 = S.chain p.1 := fun p hp => by
    unfold StM.chain
    rw [hS] at hp ⊢
    rw [look_in r1 hp]
    rfl
  have e : vacK (fun k => (allW ((S.cms.drop a).take b)).any fun w => decide (w.key = k)) ((S.low + a + b : Nat) : Int) (vacK (fun k => (allW (S.cms.take a)).any fun w => decide (w.key = k)) ((S.low + a : Nat) : Int) S.keys) = vacK (fun k => (allW (S.cms.take (a + b))).any fun w => decide (w.key = k)) ((S.low + (a + b) : Nat) : Int) S.keys := by
    rw [vacK_comp _ _ (by omega) S.keys fun p hp => ?_]
    · have hf : (fun k => ((allW (S.cms.take a)).any fun w => decide (w.key = k)) || ((allW ((S.cms.drop a).take b)).any fun w => decide (w.key = k))) = fun k => (allW (S.cms.take (a + b))).any fun w => decide (w.key = k) := by
        funext k
        rw [List.take_add, allW_app, List.any_append]
      rw [hf, Nat.add_assoc]
    · refine ⟨(by rw [hS] at hp; exact (hg.up p hp).1), fun q1 q2 => ?_⟩
      unfold upN
      refine List.countP_congr fun v hv => ?_
      simp only [decide_eq_true_eq]
      constructor
      · intro h; omega
      · intro h
        rw [hch p hp, hS, r2] at hv
        rw [hS, l1] at h ⊢
        rcases List.mem_append.1 hv with hv | hv
        · rw [ver_seq hv]; omega
        · obtain ⟨c, hc, hvc⟩ := List.mem_flatMap.1 hv
          obtain ⟨i, hi, rfl⟩ := List.getElem_of_mem hc
          rw [ver_seq hvc, hcs i hi] at h ⊢
          by_cases hia : i < a
          · omega
          · exfalso
            rw [List.any_eq_false] at q2
            unfold verOf at hvc
            obtain ⟨w, hw, _⟩ := List.mem_map.1 hvc
            rw [List.mem_filter] at hw
            refine q2 w ?_ hw.2
            unfold allW
            rw [hS, l2]
            refine List.mem_flatMap.2 ⟨cs[i], ?_, hw.1⟩
            rw [List.mem_iff_getElem]
            refine ⟨i - a, by rw [List.length_take, List.length_drop]; omega, ?_⟩
            rw [List.getElem_take, List.getElem_drop]
            congr 1
            omega
  rw [← hS]
  unfold StM.vacuum
  simp only
  rw [e, List.drop_drop, Nat.add_assoc]

end Go.Proofs.Ytcncoppnkodhmaa.sT
