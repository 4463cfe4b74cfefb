/-
  disk, plainly: a file behind all others; a file by its own name. (For Crash's round.)
-/
import Derived.Test.YtkeopkhbcmeplaaDPlain
namespace Go.Proofs.Ytkeopkhbcmeplaa
open Go.RowKit Go.ChangeMaps Go.MapKept Go.WideMaps Go.WideAt Go.WideShapes

theorem insP_last {x : FP} : ∀ {fs : List FP}, (∀ p ∈ fs, bytesBefore p.1.name x.1.name = true) → insP x fs = fs ++ [x]
  | [], _ => rfl
  | y :: r, h => by
    have h1 := h y (List.mem_cons_self ..)
    have h2 : ¬ bytesBefore x.1.name y.1.name = true := fun g => by
      have := bytes_trans _ _ _ g h1
      rw [bytes_irrefl] at this
      cases this
    rw [insP, if_neg h2, insP_last fun p hp => h p (List.mem_cons_of_mem _ hp)]
    rfl

/-- what rises behind all others is laid at the end -/
theorem putP_last {x : FP} {fs : List FP} (h : ∀ p ∈ fs, bytesBefore p.1.name x.1.name = true) : putP x fs = fs ++ [x] := by
  have hne : ∀ p ∈ fs, p.1.name ≠ x.1.name := fun p hp e => by
    have := h p hp
    rw [e, bytes_irrefl] at this
    cases this
  unfold putP
  rw [delP_off hne, insP_last h]

theorem lenOf_last {k : L8} {fs : List FP} (h : ∀ p ∈ fs, bytesBefore p.1.name k = true) : lenOf k fs = 0 := by
  have hne : getP k fs = none := List.find?_eq_none.2 fun p hp e => by
    have := h p hp
    rw [show p.1.name = k by simpa using e, bytes_irrefl] at this
    cases this
  unfold lenOf
  rw [hne]

/-- a file by its own name -/
theorem getP_self {fs : List FP} (h : RiseN fs) : ∀ p ∈ fs, getP p.1.name fs = some p := by
  induction fs with
  | nil => intro p hp; cases hp
  | cons y r ih =>
    intro p hp
    have h1 := List.pairwise_cons.1 h
    unfold getP
    rw [List.find?_cons]
    rcases List.mem_cons.1 hp with rfl | hp
    · simp
    · have e : (y.1.name == p.1.name) = false := by
        have h2 := h1.1 p hp
        have : y.1.name ≠ p.1.name := fun e => by rw [e, bytes_irrefl] at h2; cases h2
        simpa using this
      rw [e]
      exact ih h1.2 p hp

/-- what a crash leaves of a file (its slice as it was) -/
def crF (p : FP) (k : Nat) : FileS := ⟨p.1.name, p.1.data.take k, k⟩

theorem name_before {fs gs : List FP} {p : FP} (h : RiseN (fs ++ p :: gs)) : ∀ q ∈ fs, bytesBefore q.1.name p.1.name = true := fun q hq => (List.pairwise_append.1 h).2.2 q hq p (List.mem_cons_self ..)

end Go.Proofs.Ytkeopkhbcmeplaa
