/-
  val's Right: is a value right?
-/
import Derived.Test.YtacphlceggbfcaaValMem
import Derived.WalkKit
import Derived.WalkLawsBesides
import Derived.WalkSpells
namespace Go.Proofs.Ytacphlceggbfcaa
open Go.RowKit

theorem ret_bool2 {a b : Bool} (h : a = b) : Ending.returned (.bool a) = .returned (.bool b) := by rw [h]

set_option maxHeartbeats 4000000 in
theorem plain_walk (k : Int) (y : Bool) (n : Int) (t : ByteArray) (a : Option Addr) (c : Nat) (L : Nat) (a' : Option Addr) (c' : Nat) (F : Nat) (w : World) :
    Calls Try.prog 95 #[.agg #[.int .i64 k, .bool y, .int .i64 n, .string t, .slice a L c, .slice a' F c']] w fun e w' =>
      e = .returned (.bool (decide (0 ≤ k) && decide (k ≤ 5) && (k == 1 || !y) && (k == 2 || n == 0) && (k == 3 || decide (t.toList = [])) && (k == 4 || ((L : Int) == 0)) && (k == 5 || ((F : Int) == 0)))) ∧ Below w.heap.size w w' := by
  go_enter Try.func95, Try.ntmps95
  go_wp2
  all_goals
    go_ret
    refine ⟨ret_bool2 ?_, (Below.refl _ w).alloc (Nat.le_refl _) _⟩
    simp_all <;> (intros; exfalso; omega)

theorem plain_any (k : Int) (y : Bool) (n : Int) (t : ByteArray) (a : Option Addr) (c : Nat) (l : List V) (a' : Option Addr) (c' : Nat) (f : List Fd) (w : World) :
    Calls Try.prog 95 #[.agg #[.int .i64 k, .bool y, .int .i64 n, .string t, .slice a l.length c, .slice a' f.length c']] w fun e w' => e = .returned (.bool (plainP k y n t l f)) ∧ Below w.heap.size w w' := by
  have h := plain_walk k y n t a c l.length a' c' f.length w
  have e1 : decide (t.toList = []) = decide (t = ⟨#[]⟩) := by
    rw [Bool.eq_iff_iff, decide_eq_true_eq, decide_eq_true_eq, Lib.toList_data]
    exact ⟨fun h => by apply ByteArray.ext; exact Array.toList_inj.1 h, fun h => by rw [h]⟩
  have e2 : ∀ x : Nat, ((x : Int) == 0) = decide (x = 0) := fun x => by
    rw [Bool.eq_iff_iff, decide_eq_true_eq, beq_iff_eq]; omega
  rw [e1, e2, e2] at h
  exact h

end Go.Proofs.Ytacphlceggbfcaa
