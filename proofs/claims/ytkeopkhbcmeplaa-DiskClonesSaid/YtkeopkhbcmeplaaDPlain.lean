/-
  disk, plainly: the names rise, and how many bytes there are.
-/
import Derived.Test.YtkeopkhbcmeplaaDPut
import Derived.WideAt
import Derived.WideShapes
namespace Go.Proofs.Ytkeopkhbcmeplaa
open Go.RowKit Go.ChangeMaps Go.MapKept Go.WideMaps Go.WideAt Go.WideShapes

theorem before_iff : ∀ a b : L8, bytesBefore a b = true ↔ a < b
  | [], [] => by simp [bytesBefore]
  | [], _ :: _ => by simp [bytesBefore]
  | _ :: _, [] => by simp [bytesBefore]
  | a :: r, b :: s => by
    rw [bytesBefore, List.cons_lt_cons_iff, Bool.or_eq_true, Bool.and_eq_true, before_iff r s]
    simp

/-- the names rise strictly -/
def RiseN (fs : List FP) : Prop := fs.Pairwise fun a b => bytesBefore a.1.name b.1.name = true

theorem RiseN.del {fs : List FP} (h : RiseN fs) (k : L8) : RiseN (delP k fs) := List.Pairwise.sublist (List.filter_sublist ..) h

theorem delP_ne {k : L8} {fs : List FP} {p : FP} (h : p ∈ delP k fs) : p.1.name ≠ k := fun e => by
  have := (List.mem_filter.1 h).2
  simp [e] at this

theorem RiseN.ins {x : FP} : ∀ {fs : List FP}, RiseN fs → (∀ p ∈ fs, p.1.name ≠ x.1.name) → RiseN (insP x fs)
  | [], _, _ => by simp [insP, RiseN]
  | y :: r, h, hne => by
    rw [insP]
    have h1 := List.pairwise_cons.1 h
    by_cases g : bytesBefore x.1.name y.1.name = true
    · rw [if_pos g]
      refine List.pairwise_cons.2 ⟨fun p hp => ?_, h⟩
      rcases List.mem_cons.1 hp with rfl | hp
      · exact g
      · exact bytes_trans _ _ _ g (h1.1 p hp)
    · rw [if_neg g]
      refine List.pairwise_cons.2 ⟨fun p hp => ?_, RiseN.ins h1.2 fun p hp => hne p (List.mem_cons_of_mem _ hp)⟩
      rcases insP_mem hp with rfl | hp
      · rcases bytes_total y.1.name p.1.name (hne y (List.mem_cons_self ..)) with h2 | h2
        · exact h2
        · exact absurd h2 g
      · exact h1.1 p hp

theorem RiseN.put {fs : List FP} (h : RiseN fs) (x : FP) : RiseN (putP x fs) := (h.del _).ins fun _ hp => delP_ne hp

/-- how many bytes all files have -/
def sumP (fs : List FP) : Nat := (fs.map fun p => p.1.data.length).sum

theorem sumP_ins (x : FP) : ∀ fs : List FP, sumP (insP x fs) = x.1.data.length + sumP fs
  | [] => rfl
  | y :: r => by
    have ih := sumP_ins x r
    unfold sumP at ih ⊢
    rw [insP]
    split
    · simp
    · simp only [List.map_cons, List.sum_cons, ih]; omega

theorem delP_off {k : L8} : ∀ {fs : List FP}, (∀ p ∈ fs, p.1.name ≠ k) → delP k fs = fs := fun {fs} h => List.filter_eq_self.2 fun p hp => by simpa using h p hp

theorem sumP_del {k : L8} : ∀ {fs : List FP}, RiseN fs → sumP (delP k fs) + lenOf k fs = sumP fs
  | [], _ => rfl
  | y :: r, h => by
    have h1 := List.pairwise_cons.1 h
    by_cases e : y.1.name = k
    · have hne : ∀ p ∈ r, p.1.name ≠ k := fun p hp e2 => by
        have := h1.1 p hp
        rw [e, e2, bytes_irrefl] at this
        cases this
      have e1 : delP k (y :: r) = r := by
        have := delP_off hne
        unfold delP at this ⊢
        rw [List.filter_cons, if_neg (by simp [e]), this]
      have e2 : lenOf k (y :: r) = y.1.data.length := by unfold lenOf getP; rw [List.find?_cons]; simp [e]
      rw [e1, e2]
      unfold sumP
      simp only [List.map_cons, List.sum_cons]
      omega
    · have ih := sumP_del (k := k) h1.2
      have e1 : delP k (y :: r) = y :: delP k r := by unfold delP; rw [List.filter_cons, if_pos (by simp [e])]
      have e3 : (y.1.name == k) = false := by simpa using e
      have e2 : lenOf k (y :: r) = lenOf k r := by unfold lenOf getP; rw [List.find?_cons, e3]
      rw [e1, e2]
      unfold sumP at ih ⊢
      simp only [List.map_cons, List.sum_cons]
      omega

theorem lenOf_le {k : L8} {fs : List FP} (h : RiseN fs) : lenOf k fs ≤ sumP fs := by
  have := sumP_del (k := k) h
  omega

theorem sumP_put {fs : List FP} (h : RiseN fs) (x : FP) : (sumP (putP x fs) : Int) = sumP fs + ((x.1.data.length : Int) - lenOf x.1.name fs) := by
  have := sumP_del (k := x.1.name) h
  unfold putP
  rw [sumP_ins]
  omega

/-- the sorted names are the files' names -/
theorem names_sorted {fs : List FP} (h : RiseN fs) {ss : List L8} (hp : ss.Perm (fs.map fun p => p.1.name)) : ss.mergeSort (fun x y => decide (x ≤ y)) = fs.map fun p => p.1.name := by
  refine List.Perm.eq_of_pairwise (le := fun a b => decide (a ≤ b) = true) (fun a b _ _ h1 h2 => ?_) (List.pairwise_mergeSort (fun a b c h1 h2 => ?_) (fun a b => ?_) ss) ?_ ((List.mergeSort_perm _ _).trans hp)
  · simp only [decide_eq_true_eq] at h1 h2
    exact List.le_antisymm h1 h2
  · simp only [decide_eq_true_eq] at h1 h2 ⊢
    exact List.le_trans h1 h2
  · simp only [Bool.or_eq_true, decide_eq_true_eq]
    exact List.le_total a b
  · refine List.pairwise_map.2 (List.Pairwise.imp (fun {a b} hb => ?_) h)
    have := (before_iff _ _).1 hb
    simp only [decide_eq_true_eq]
    exact List.le_of_lt this

theorem strKeys_fs (fs : List FP) : strKeys (dm (fvals fs)) = fs.map fun p => p.1.name := by
  rw [show strKeys (dm (fvals fs)) = (fvals fs).map (·.1) from dm_keys _]
  unfold fvals
  rw [List.map_map]
  rfl

end Go.Proofs.Ytkeopkhbcmeplaa
