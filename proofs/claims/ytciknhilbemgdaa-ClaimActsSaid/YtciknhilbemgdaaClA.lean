/-
  claim: the contracts of isOther, New, Busy and its function, Len, Take.
-/
import Derived.Test.YtciknhilbemgdaaCl
namespace Go.Proofs.Ytciknhilbemgdaa.cl
open Go.RowKit Go.Maps Go.MapKept Go.WideMaps Go.ChangeMaps

theorem key_s {k : ByteArray} (hk : k.size ≤ maxLen) : keyOf Try.prog 9 (.string k) = some (.string k.data.toList) := keyOf_string_mk (P := Try.prog) Try.underlying9 hk
theorem zero_i (w : World) : (zeroValue 3).run Try.prog w = .ok (.int .i64 0) w := by kernel_rfl

/-- what a look-up in claims tells -/
theorem look_any {B : Nat → Prop} {w : World} {c n : Nat} {gs : G} (h : CAt B w c n gs) (k : ByteArray) (hk : k.size ≤ maxLen) : ∃ mb : Option Nat, w.cell? ⟨c, 0, none⟩ = some (.map mb) ∧
    (Instr.lookup 28 (.map mb) (.string k) true).run Try.prog w = .ok (.tuple #[.int .i64 ((getG k.data.toList gs).getD 0), .bool (getG k.data.toList gs).isSome]) w := by
  obtain ⟨h0, h1, mb, h2, h3⟩ := h
  refine ⟨mb, cell_of_row w c 0 _ _ (0, 0) h2, ?_⟩
  rcases h3 with ⟨rfl, rfl⟩ | ⟨b, rfl, h4, h5, h6⟩
  · exact Maps.look_nil true law_s Try.underlying28 (zero_i w) (key_s hk)
  · have hr := MapAt.look (e := 3) h6 Try.underlying9 Try.underlying28 (zero_i w) k hk true
    rw [hr, toV_get]
    cases getG k.data.toList gs <;> rfl

set_option maxHeartbeats 1000000 in
theorem other_any {B : Nat → Prop} {w : World} {c n : Nat} {gs : G} (h : CAt B w c n gs) (who : Int) (k : ByteArray) (hk : k.size ≤ maxLen) :
    Calls Try.prog 14 #[.pointer (some ⟨c, 0, none⟩), .int .i64 who, .string k] w fun e w' => e = .returned (.bool (otherG gs who k.data.toList)) ∧ w = w' := by
  obtain ⟨mb, hc, hl⟩ := look_any h k hk
  have HF : Hid ((bif (getG k.data.toList gs).isSome then ((getG k.data.toList gs).getD 0 != who) else false) = otherG gs who k.data.toList) := Lib.hid (by
    unfold otherG
    cases getG k.data.toList gs <;> rfl)
  obtain ⟨z, hz⟩ : ∃ z, z = (getG k.data.toList gs).getD 0 := ⟨_, rfl⟩
  obtain ⟨b, hb⟩ : ∃ b, b = (getG k.data.toList gs).isSome := ⟨_, rfl⟩
  rw [← hz, ← hb] at HF hl
  clear hz hb h
  cases b
  · go_enter Try.func14, Try.ntmps14
    go_wp2
    go_ret
    exact ⟨by rw [← HF.out]; rfl, rfl⟩
  · go_enter Try.func14, Try.ntmps14
    go_wp2
    go_ret
    exact ⟨by rw [← HF.out]; rfl, rfl⟩

theorem other_nil (w : World) (who : Int) (k : ByteArray) :
    Calls Try.prog 14 #[.pointer none, .int .i64 who, .string k] w fun e w' => e = .returned (.bool false) ∧ w = w' := by
  go_enter Try.func14, Try.ntmps14
  go_wp2
  go_ret
  exact ⟨rfl, rfl⟩

theorem new_any (w : World) : Calls Try.prog 7 #[] w fun e w' => e = .returned (.pointer (some ⟨w.heap.size, 0, none⟩)) ∧ w' = w.alloc (.cells #[.map none] 42) := by
  go_enter Try.func7, Try.ntmps7
  go_wp2
  go_ret
  exact ⟨rfl, rfl⟩
theorem CAt.new (w : World) (B : Nat → Prop) (hB : B w.heap.size) : CAt B (w.alloc (.cells #[.map none] 42)) w.heap.size 0 [] :=
  ⟨List.Pairwise.nil, hB, none, heap_alloc_new w _, .inl ⟨rfl, rfl⟩⟩

/-- Busy's function: whose it is, and of which claims -/
def BAt (w : World) (v : Value) (c : Option Addr) (who : Int) : Prop := ∃ p q, v = .func (.func 13) #[] #[.pointer (some ⟨p, 0, none⟩), .pointer (some ⟨q, 0, none⟩)] ∧
  w.heap[p]? = some (.cells #[.pointer c] 24 (0, 0)) ∧ w.heap[q]? = some (.cells #[.int .i64 who] 3 (0, 0))

theorem busy_any (w : World) (c : Option Addr) (who : Int) : Calls Try.prog 8 #[.pointer c, .int .i64 who] w fun e w' =>
    e = .returned (.func (.func 13) #[] #[.pointer (some ⟨w.heap.size, 0, none⟩), .pointer (some ⟨w.heap.size + 1, 0, none⟩)]) ∧ w' = (w.alloc (.cells #[.pointer c] 24)).alloc (.cells #[.int .i64 who] 3) := by
  go_enter Try.func8, Try.ntmps8
  go_wp2
  go_ret
  exact ⟨rfl, rfl⟩

theorem asked_any {B : Nat → Prop} {w : World} {c n : Nat} {gs : G} (h : CAt B w c n gs) (who : Int) (p q : Nat) (hp : w.cell? ⟨p, 0, none⟩ = some (.pointer (some ⟨c, 0, none⟩))) (hq : w.cell? ⟨q, 0, none⟩ = some (.int .i64 who)) (k : ByteArray) (hk : k.size ≤ maxLen) :
    Calls Try.prog 13 #[.string k, .pointer (some ⟨p, 0, none⟩), .pointer (some ⟨q, 0, none⟩)] w fun e w' => e = .returned (.bool (otherG gs who k.data.toList)) ∧ w = w' := by
  have H := other_any h who k hk
  clear h
  go_enter Try.func13, Try.ntmps13
  go_wp2_with fail
  refine H.mono ?_
  rintro e w1 ⟨rfl, rfl⟩
  go_wp2
  go_ret
  exact ⟨rfl, rfl⟩
theorem asked_nil (w : World) (who : Int) (p q : Nat) (hp : w.cell? ⟨p, 0, none⟩ = some (.pointer none)) (hq : w.cell? ⟨q, 0, none⟩ = some (.int .i64 who)) (k : ByteArray) :
    Calls Try.prog 13 #[.string k, .pointer (some ⟨p, 0, none⟩), .pointer (some ⟨q, 0, none⟩)] w fun e w' => e = .returned (.bool false) ∧ w = w' := by
  have H := other_nil w who k
  go_enter Try.func13, Try.ntmps13
  go_wp2_with fail
  refine H.mono ?_
  rintro e w1 ⟨rfl, rfl⟩
  go_wp2
  go_ret
  exact ⟨rfl, rfl⟩

theorem run_len {B : Nat → Prop} {w : World} {c n : Nat} {gs : G} (h : CAt B w c n gs) : ∃ mb : Option Nat, w.cell? ⟨c, 0, none⟩ = some (.map mb) ∧
    ∀ ty, (Builtin.len_ #[28] ty #[.map mb]).run Try.prog w = .ok (.int .i64 gs.length) w := by
  obtain ⟨h0, h1, mb, h2, h3⟩ := h
  refine ⟨mb, cell_of_row w c 0 _ _ (0, 0) h2, fun ty => ?_⟩
  rcases h3 with ⟨rfl, rfl⟩ | ⟨b, rfl, h4, h5, h6⟩
  · exact Maps.len_nil Try.underlying28 ty
  · have h7 := World.ownsMap.len (P := Try.prog) h6 Try.underlying28 ty
    rw [toV_size] at h7
    exact h7

theorem len_any {B : Nat → Prop} {w : World} {c n : Nat} {gs : G} (h : CAt B w c n gs) :
    Calls Try.prog 11 #[.pointer (some ⟨c, 0, none⟩)] w fun e w' => e = .returned (.int .i64 gs.length) ∧ w = w' := by
  obtain ⟨mb, hc, hl⟩ := run_len h
  clear h
  go_enter Try.func11, Try.ntmps11
  go_wp2
  go_ret
  exact ⟨rfl, rfl⟩
theorem len_nil (w : World) : Calls Try.prog 11 #[.pointer none] w fun e w' => e = .returned (.int .i64 0) ∧ w = w' := by
  go_enter Try.func11, Try.ntmps11
  go_wp2
  go_ret
  exact ⟨rfl, rfl⟩

end Go.Proofs.Ytciknhilbemgdaa.cl
