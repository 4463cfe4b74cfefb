/-
  No disk: what it tells.
-/
import Derived.Test.YtkeopkhbcmeplaaDClone
namespace Go.Proofs.Ytkeopkhbcmeplaa
open Go.RowKit

theorem nil_down (w : World) : Calls Try.prog 21 #[.pointer none] w fun e w' => e = .returned (.bool true) ∧ w = w' := by
  go_enter Try.func21, Try.ntmps21
  go_wp2
  go_ret
  exact ⟨rfl, rfl⟩
theorem nil_turn (w : World) : Calls Try.prog 36 #[.pointer none] w fun e w' => e = .returned (.bool false) ∧ w = w' := by
  go_enter Try.func36, Try.ntmps36
  go_wp2_with fail
  refine (nil_down _).mono ?_
  rintro e w1 ⟨rfl, rfl⟩
  go_wp2
  go_ret
  exact ⟨rfl, rfl⟩
theorem nil_append (s b : ByteArray) (w : World) : Calls Try.prog 20 #[.pointer none, .string s, .string b] w fun e w' => e = .returned (.int .i64 8) ∧ w = w' := by
  go_enter Try.func20, Try.ntmps20
  go_wp2_with fail
  refine (nil_turn _).mono ?_
  rintro e w1 ⟨rfl, rfl⟩
  go_wp2
  go_ret
  exact ⟨rfl, rfl⟩
theorem nil_read (s : ByteArray) (w : World) : Calls Try.prog 16 #[.pointer none, .string s] w fun e w' => e = .returned (.tuple #[.string ⟨#[]⟩, .int .i64 8]) ∧ w = w' := by
  go_enter Try.func16, Try.ntmps16
  go_wp2_with fail
  refine (nil_down _).mono ?_
  rintro e w1 ⟨rfl, rfl⟩
  go_wp2
  exact bodyPost_ret (v := .tuple #[.string ⟨#[]⟩, .int .i64 8]) (by simp [results, Try.results16, go_sem]) rfl ⟨rfl, rfl⟩
theorem nil_room (w : World) : Calls Try.prog 22 #[.pointer none] w fun e w' => e = .returned (.int .i64 0) ∧ w = w' := by
  go_enter Try.func22, Try.ntmps22
  go_wp2
  go_ret
  exact ⟨rfl, rfl⟩
theorem nil_clone (w : World) : Calls Try.prog 18 #[.pointer none] w fun e w' => e = .returned (.pointer none) ∧ w = w' := by
  go_enter Try.func18, Try.ntmps18
  go_wp2
  go_ret
  exact ⟨rfl, rfl⟩
theorem nil_fall (t : Int) (w : World) : Calls Try.prog 19 #[.pointer none, .int .i64 t] w fun e w' => e = .returned (.tuple #[]) ∧ w = w' := by
  go_enter Try.func19, Try.ntmps19
  go_wp2
  exact bodyPost_ret (v := .tuple #[]) (by simp [results, Try.results19, go_sem]) rfl ⟨rfl, rfl⟩
theorem nil_names (w : World) : Calls Try.prog 23 #[.pointer none] w fun e w' => e = .returned (.slice none 0 0) ∧ w = w' := by
  go_enter Try.func23, Try.ntmps23
  go_wp2_with fail
  refine (nil_down _).mono ?_
  rintro e w1 ⟨rfl, rfl⟩
  go_wp2
  go_ret
  exact ⟨rfl, rfl⟩
theorem nil_crash (w : World) : Calls Try.prog 17 #[.pointer none, .slice none 0 0] w fun e w' => ∃ d, e = .returned (.pointer (some ⟨d, 0, none⟩)) ∧ DM w' w.heap.size d 0 ⟨[], 1048576, false, -1⟩ ∧ Below w.heap.size w w' := by
  go_enter Try.func17, Try.ntmps17
  go_wp2_with fail
  refine (new_dm _ 1048576).mono ?_
  rintro e w1 ⟨d, rfl, hD, hb⟩
  have HF := Lib.hid (And.intro hD hb)
  clear hD hb
  go_wp2
  go_ret
  exact ⟨d, rfl, HF.out⟩

theorem clone_dm {w : World} {B d n : Nat} {M : MS} (h : DM w B d n M) (hn : n ≤ 100000) :
    Calls Try.prog 18 #[.pointer (some ⟨d, 0, none⟩)] w fun e w' => ∃ c, e = .returned (.pointer (some ⟨c, 0, none⟩)) ∧ DM w' w.heap.size c n M ∧ Below w.heap.size w w' := by
  obtain ⟨mb, m, S, fs, rfl, hI, h1, h2, hD⟩ := h
  refine (clone_any w hD hI (by omega)).mono ?_
  rintro e w' ⟨c, mb2, m2, cs, rfl, hfl, hm2, hD2, hb⟩
  refine ⟨c, rfl, ⟨mb2, m2, S, cs, by rw [hfl], by rw [hfl]; exact hI, ?_, by omega, hD2⟩, hb⟩
  rw [← fl_length, hfl, fl_length]; exact h1

end Go.Proofs.Ytkeopkhbcmeplaa
