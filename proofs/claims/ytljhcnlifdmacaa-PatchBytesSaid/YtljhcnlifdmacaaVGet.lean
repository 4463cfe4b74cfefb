/-
  val's ofMap: the fields of a map.
-/
import Derived.Test.YtljhcnlifdmacaaVClone2
namespace Go.Proofs.Ytljhcnlifdmacaa
open Go.RowKit

set_option maxHeartbeats 1000000 in
theorem fieldsOf_any (k : Int) (y : Bool) (n : Int) (t : ByteArray) (ax : Option Addr) (lx cx : Nat) (ay : Option Addr) (ly cy : Nat) (w : World) :
    Calls Try.prog 38 #[.agg #[.int .i64 k, .bool y, .int .i64 n, .string t, .slice ax lx cx, .slice ay ly cy]] w fun e w' =>
      e = .returned (if k = 5 then .slice ay ly cy else .slice none 0 0) ∧ Below w.heap.size w w' := by
  by_cases hk : k = 5
  · subst hk
    go_enter Try.func38, Try.ntmps38
    go_wp2
    exact bodyPost_ret (v := .slice ay ly cy) (by simp [results, Try.results38, go_sem]) rfl ⟨rfl, ((Below.refl _ _).alloc (Nat.le_refl _) _)⟩
  · go_enter Try.func38, Try.ntmps38
    go_wp2
    exact bodyPost_ret (v := .slice none 0 0) (by simp [results, Try.results38, go_sem]) rfl ⟨rfl, ((Below.refl _ _).alloc (Nat.le_refl _) _)⟩

end Go.Proofs.Ytljhcnlifdmacaa
