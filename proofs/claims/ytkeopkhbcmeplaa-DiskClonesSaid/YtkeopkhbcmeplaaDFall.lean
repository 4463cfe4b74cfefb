/-
  disk.Fall, New.
-/
import Derived.Test.YtkeopkhbcmeplaaDSync
namespace Go.Proofs.Ytkeopkhbcmeplaa
open Go.RowKit

theorem fall_set {w : World} {B d mb n : Nat} {S : DS} {fs : List FP} (h : DiskAt w B d mb n S fs) (m : Int) :
    DiskAt ((w.setCell ⟨d, 3, none⟩ (.bool true)).setCell ⟨d, 4, none⟩ (.int .i64 m)) B d mb n { S with falls := true, left := m } fs ∧ DKept w ((w.setCell ⟨d, 3, none⟩ (.bool true)).setCell ⟨d, 4, none⟩ (.int .i64 m)) (Foot d mb fs) :=
  ⟨(h.set (S' := { S with falls := true }) 3 (.bool true) rfl).set (S' := { S with falls := true, left := m }) 4 (.int .i64 m) rfl, (kept_set mb fs 3 _).trans (kept_set mb fs 4 _)⟩

set_option maxHeartbeats 1000000 in
theorem fall_any {B d mb n : Nat} {S : DS} {fs : List FP} (w : World) (h : DiskAt w B d mb n S fs) (t : Int) :
    Calls Try.prog 19 #[.pointer (some ⟨d, 0, none⟩), .int .i64 t] w fun e w' => e = .returned (.tuple #[]) ∧ DiskAt w' B d mb n { S with falls := true, left := max t 0 } fs ∧ DKept w w' (Foot d mb fs) := by
  obtain ⟨⟨c0, c1, c2, c3, c4, c5⟩, f0, f1, f2, f3, f4, f5⟩ := Box.six h.1
  have HD := Lib.hid (fall_set h (max t 0))
  clear h
  rcases Int.lt_or_le t 0 with ht | ht
  · rw [show max t 0 = 0 by omega] at HD ⊢
    go_enter Try.func19, Try.ntmps19
    go_wp2
    go_end0
    exact ⟨rfl, HD.out⟩
  · rw [show max t 0 = t by omega] at HD ⊢
    go_enter Try.func19, Try.ntmps19
    go_wp2
    go_end0
    exact ⟨rfl, HD.out⟩

theorem new_at (w : World) (r : Int) : DiskAt ((w.alloc (.map #[] 0)).alloc (.cells #[.map (some w.heap.size), .int .i64 r, .int .i64 0, .bool false, .int .i64 0, .bool false] 63)) w.heap.size (w.heap.size + 1) w.heap.size 0 ⟨r, 0, false, 0, false⟩ [] ∧
    Below w.heap.size w ((w.alloc (.map #[] 0)).alloc (.cells #[.map (some w.heap.size), .int .i64 r, .int .i64 0, .bool false, .int .i64 0, .bool false] 63)) := by
  have h1 : (w.alloc (.map #[] 0)).heap.size = w.heap.size + 1 := by simp
  refine ⟨⟨?_, ?_, (fun p hp => by cases hp), by omega, Nat.le_refl _, by omega, (fun p hp => by cases hp), List.Pairwise.nil⟩, ((Below.refl _ w).alloc (Nat.le_refl _) _).alloc (by omega) _⟩
  · have := heap_alloc_new (w.alloc (.map #[] 0)) (.cells #[.map (some w.heap.size), .int .i64 r, .int .i64 0, .bool false, .int .i64 0, .bool false] 63)
    rw [h1] at this
    exact this
  · exact (MapAt.made 9 w).kept (Below.heap_alloc _ _ _ (by omega))

set_option maxHeartbeats 1000000 in
theorem new_any (w : World) (r : Int) : Calls Try.prog 12 #[.int .i64 r] w fun e w' => ∃ d mb, e = .returned (.pointer (some ⟨d, 0, none⟩)) ∧ DiskAt w' w.heap.size d mb 0 ⟨min (max r 0) 1048576, 0, false, 0, false⟩ [] ∧ Below w.heap.size w w' := by
  have hmk : (Instr.makeMap 61 none).run Try.prog w = .ok (.map (some w.heap.size)) (w.alloc (.map #[] 0)) := by kernel_rfl
  rcases Int.lt_or_le r 0 with hr | hr
  · rw [show min (max r 0) 1048576 = 0 by omega]
    have HD := Lib.hid (new_at w 0)
    go_enter Try.func12, Try.ntmps12
    go_wp2
    go_ret
    exact ⟨_, _, rfl, HD.out⟩
  · rcases Int.lt_or_le 1048576 r with hr2 | hr2
    · rw [show min (max r 0) 1048576 = 1048576 by omega]
      have HD := Lib.hid (new_at w 1048576)
      go_enter Try.func12, Try.ntmps12
      go_wp2
      go_ret
      exact ⟨_, _, rfl, HD.out⟩
    · rw [show min (max r 0) 1048576 = r by omega]
      have HD := Lib.hid (new_at w r)
      go_enter Try.func12, Try.ntmps12
      go_wp2
      go_ret
      exact ⟨_, _, rfl, HD.out⟩

end Go.Proofs.Ytkeopkhbcmeplaa
