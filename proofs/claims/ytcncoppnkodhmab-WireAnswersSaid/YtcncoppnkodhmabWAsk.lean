/-
  wire: questions in memory; texts and numbers, where they lie; Right's contract.
-/
import Derived.Test.YtcncoppnkodhmabWBsK
import Derived.Test.YtcncoppnkodhmabWSt
import Derived.Test.YtcncoppnkodhmabTBox
namespace Go.Proofs.Ytcncoppnkodhmab
open Go.RowKit bsK

set_option linter.unusedVariables false
set_option linter.unusedSimpArgs false

/-- a question -/
structure Ak where
  op : Int
  a : ByteArray
  b : ByteArray
  c : ByteArray
  d : ByteArray
  n : Int
  m : Int
abbrev Ak.cells (q : Ak) : Array Value := #[.int .i64 q.op, .string q.a, .string q.b, .string q.c, .string q.d, .int .i64 q.n, .int .i64 q.m]
def Ak.right (q : Ak) : Bool := decide (q.a.size ≤ 4096) && (decide (q.b.size ≤ 4096) && (decide (q.c.size ≤ 4096) && (decide (q.d.size ≤ 4096) && (decide (0 ≤ q.n ∧ q.n ≤ 1099511627776) && (decide (0 ≤ q.m ∧ q.m ≤ 1099511627776) && decide (1 ≤ q.op ∧ q.op ≤ 19))))))


def Ak.tx (q : Ak) : Nat → ByteArray
  | 0 => q.a
  | 1 => q.b
  | 2 => q.c
  | _ => q.d
def Ak.nu (q : Ak) : Nat → Int
  | 0 => q.n
  | _ => q.m
theorem Ak.no_tx {q : Ak} {k : Nat} (hk : k < 4) (h : ¬ (q.tx k).size ≤ 4096) : q.right = false := by
  unfold Ak.right
  match k, hk, h with
  | 0, _, h => rw [decide_eq_false (show ¬ q.a.size ≤ 4096 from h)]; rfl
  | 1, _, h => rw [decide_eq_false (show ¬ q.b.size ≤ 4096 from h)]; simp
  | 2, _, h => rw [decide_eq_false (show ¬ q.c.size ≤ 4096 from h)]; simp
  | 3, _, h => rw [decide_eq_false (show ¬ q.d.size ≤ 4096 from h)]; simp
theorem Ak.no_nu {q : Ak} {k : Nat} (hk : k < 2) (h : ¬ (0 ≤ q.nu k ∧ q.nu k ≤ 1099511627776)) : q.right = false := by
  unfold Ak.right
  match k, hk, h with
  | 0, _, h => rw [decide_eq_false (show ¬ (0 ≤ q.n ∧ q.n ≤ 1099511627776) from h)]; simp
  | 1, _, h => rw [decide_eq_false (show ¬ (0 ≤ q.m ∧ q.m ≤ 1099511627776) from h)]; simp
theorem Ak.right_op {q : Ak} (h : ∀ j, j < 4 → (q.tx j).size ≤ 4096) (h2 : ∀ j, j < 2 → 0 ≤ q.nu j ∧ q.nu j ≤ 1099511627776) : q.right = decide (1 ≤ q.op ∧ q.op ≤ 19) := by
  unfold Ak.right
  rw [decide_eq_true (show q.a.size ≤ 4096 from h 0 (by omega)), decide_eq_true (show q.b.size ≤ 4096 from h 1 (by omega)), decide_eq_true (show q.c.size ≤ 4096 from h 2 (by omega)), decide_eq_true (show q.d.size ≤ 4096 from h 3 (by omega)),
    decide_eq_true (show 0 ≤ q.n ∧ q.n ≤ 1099511627776 from h2 0 (by omega)), decide_eq_true (show 0 ≤ q.m ∧ q.m ≤ 1099511627776 from h2 1 (by omega))]
  simp
theorem Ak.of_right {q : Ak} (h : q.right = true) : (∀ j, (q.tx j).size ≤ 4096) ∧ (∀ j, 0 ≤ q.nu j ∧ q.nu j ≤ 1099511627776) ∧ 1 ≤ q.op ∧ q.op ≤ 19 := by
  unfold Ak.right at h
  simp only [Bool.and_eq_true, decide_eq_true_eq] at h
  obtain ⟨h1, h2, h3, h4, h5, h6, h7⟩ := h
  refine ⟨fun j => ?_, fun j => ?_, h7⟩
  · match j with
    | 0 => exact h1
    | 1 => exact h2
    | 2 => exact h3
    | j + 3 => exact h4
  · match j with
    | 0 => exact h5
    | j + 1 => exact h6

set_option maxHeartbeats 2000000 in
set_option maxRecDepth 100000 in
theorem wtexts_any (w : World) (g : Nat) :
    Calls Try.prog 19 #[.pointer (some ⟨g, 0, none⟩)] w fun e w' => e = .returned (.agg #[.pointer (some ⟨g, 1, none⟩), .pointer (some ⟨g, 2, none⟩), .pointer (some ⟨g, 3, none⟩), .pointer (some ⟨g, 4, none⟩)]) ∧ Below w.heap.size w w' := by
  have hb : Below w.heap.size w (w.alloc (.cells #[.pointer (some ⟨g, 1, none⟩), .pointer (some ⟨g, 2, none⟩), .pointer (some ⟨g, 3, none⟩), .pointer (some ⟨g, 4, none⟩)] 48)).drew := ((Below.refl _ w).alloc (Nat.le_refl _) _).drew
  have HB := Lib.hid hb
  clear hb
  go_enter Try.func19, Try.ntmps19
  go_wp2
  go_region
  go_wp2
  exact bodyPost_ret (v := .agg #[.pointer (some ⟨g, 1, none⟩), .pointer (some ⟨g, 2, none⟩), .pointer (some ⟨g, 3, none⟩), .pointer (some ⟨g, 4, none⟩)]) (by simp [results, Try.results19, go_sem]) rfl ⟨rfl, HB.out⟩

set_option maxHeartbeats 2000000 in
set_option maxRecDepth 100000 in
theorem wnumbers_any (w : World) (g : Nat) :
    Calls Try.prog 21 #[.pointer (some ⟨g, 0, none⟩)] w fun e w' => e = .returned (.agg #[.pointer (some ⟨g, 5, none⟩), .pointer (some ⟨g, 6, none⟩)]) ∧ Below w.heap.size w w' := by
  have hb : Below w.heap.size w (w.alloc (.cells #[.pointer (some ⟨g, 5, none⟩), .pointer (some ⟨g, 6, none⟩)] 52)).drew := ((Below.refl _ w).alloc (Nat.le_refl _) _).drew
  have HB := Lib.hid hb
  clear hb
  go_enter Try.func21, Try.ntmps21
  go_wp2
  go_region
  go_wp2
  exact bodyPost_ret (v := .agg #[.pointer (some ⟨g, 5, none⟩), .pointer (some ⟨g, 6, none⟩)]) (by simp [results, Try.results21, go_sem]) rfl ⟨rfl, HB.out⟩

theorem idx4 (p0 p1 p2 p3 : Value) : (∀ w, (Instr.index 48 (.agg #[p0, p1, p2, p3]) (.int .i64 0)).run Try.prog w = .ok p0 w) ∧ (∀ w, (Instr.index 48 (.agg #[p0, p1, p2, p3]) (.int .i64 1)).run Try.prog w = .ok p1 w) ∧ (∀ w, (Instr.index 48 (.agg #[p0, p1, p2, p3]) (.int .i64 2)).run Try.prog w = .ok p2 w) ∧ ∀ w, (Instr.index 48 (.agg #[p0, p1, p2, p3]) (.int .i64 3)).run Try.prog w = .ok p3 w := by
  refine ⟨fun _ => ?_, fun _ => ?_, fun _ => ?_, fun _ => ?_⟩ <;> kernel_rfl
theorem idx2 (p0 p1 : Value) : (∀ w, (Instr.index 52 (.agg #[p0, p1]) (.int .i64 0)).run Try.prog w = .ok p0 w) ∧ ∀ w, (Instr.index 52 (.agg #[p0, p1]) (.int .i64 1)).run Try.prog w = .ok p1 w := by
  refine ⟨fun _ => ?_, fun _ => ?_⟩ <;> kernel_rfl

theorem Box.seven {w : World} {g : Nat} {t : TypeId} {c0 c1 c2 c3 c4 c5 c6 : Value} (h : Box w g t #[c0, c1, c2, c3, c4, c5, c6]) : w.cell? ⟨g, 0, none⟩ = some c0 ∧ w.cell? ⟨g, 1, none⟩ = some c1 ∧ w.cell? ⟨g, 2, none⟩ = some c2 ∧ w.cell? ⟨g, 3, none⟩ = some c3 ∧ w.cell? ⟨g, 4, none⟩ = some c4 ∧ w.cell? ⟨g, 5, none⟩ = some c5 ∧ w.cell? ⟨g, 6, none⟩ = some c6 :=
  ⟨h.cell 0, h.cell 1, h.cell 2, h.cell 3, h.cell 4, h.cell 5, h.cell 6⟩

set_option maxHeartbeats 2000000 in
set_option maxRecDepth 100000 in
theorem wright_any (q : Ak) (w : World) :
    Calls Try.prog 11 #[.agg q.cells] w fun e w' => e = .returned (.bool q.right) ∧ Below w.heap.size w w' := by
  have HB0 : Hid (Box (w.alloc (.cells q.cells 24)) w.heap.size 24 q.cells ∧ Below w.heap.size w (w.alloc (.cells q.cells 24))) := Lib.hid ⟨Box.new _ _ _, (Below.refl _ w).alloc (Nat.le_refl _) _⟩
  go_enter Try.func11, Try.ntmps11
  go_wp2_with fail
  refine (wtexts_any _ _).mono ?_
  rintro e w1 ⟨rfl, hb1⟩
  have H1 : Hid ((∀ j, j < 0 → (q.tx j).size ≤ 4096) ∧ Box w1 w.heap.size 24 q.cells ∧ Below w.heap.size w w1) := Lib.hid ⟨fun j hj => absurd hj (Nat.not_lt_zero _), (hb1.block _ HB0.out.1.lt).trans HB0.out.1, HB0.out.2.trans (hb1.mono HB0.out.2.size)⟩
  clear hb1 HB0
  go_wp2_with fail
  go_loopw [8] (fun i wr => ∃ k : Nat, k ≤ 4 ∧ i = .int .i64 (k : Int) ∧ Hid ((∀ j, j < k → (q.tx j).size ≤ 4096) ∧ Box wr w.heap.size 24 q.cells ∧ Below w.heap.size w wr)) (fun i _ => 4 - (intOf i).toNat)
  case atStart => exact ⟨0, Nat.zero_le _, rfl, H1⟩
  case round =>
    obtain ⟨k, hk, rfl, hst⟩ := hrel
    clear H1
    obtain ⟨y0, y1, y2, y3, y4, y5, y6⟩ := hst.out.2.1.seven
    obtain ⟨z0, z1, z2, z3⟩ := idx4 (.pointer (some ⟨w.heap.size, 1, none⟩)) (.pointer (some ⟨w.heap.size, 2, none⟩)) (.pointer (some ⟨w.heap.size, 3, none⟩)) (.pointer (some ⟨w.heap.size, 4, none⟩))
    by_cases hlt : k < 4
    · by_cases hsz : (q.tx k).size ≤ 4096
      · have HN : Hid ((∀ j, j < k + 1 → (q.tx j).size ≤ 4096) ∧ Box wr w.heap.size 24 q.cells ∧ Below w.heap.size w wr) := Lib.hid ⟨fun j hj => by
          by_cases e : j = k
          · rw [e]; exact hsz
          · exact hst.out.1 j (by omega), hst.out.2⟩
        clear hst
        obtain rfl | rfl | rfl | rfl : k = 0 ∨ k = 1 ∨ k = 2 ∨ k = 3 := by omega
        all_goals
          simp only [Ak.tx] at hsz
          go_wp2
          go_roundw
          case rel => exact ⟨_, by omega, by go_num, HN⟩
          case measure => simp [intOf]
      · have HR := Lib.hid (Ak.no_tx hlt hsz)
        have HB := Lib.hid hst.out.2.2
        clear hst
        obtain rfl | rfl | rfl | rfl : k = 0 ∨ k = 1 ∨ k = 2 ∨ k = 3 := by omega
        all_goals
          simp only [Ak.tx] at hsz
          go_wp2
          go_ret
          exact ⟨by rw [HR.out]; rfl, HB.out⟩
    · obtain rfl : k = 4 := by omega
      have HTX := Lib.hid hst.out.1
      have HBW := Lib.hid hst.out.2
      clear hst y0 y1 y2 y3 y4 y5 y6 z0 z1 z2 z3
      go_wp2_with fail
      refine (wnumbers_any _ _).mono ?_
      rintro e w2 ⟨rfl, hb2⟩
      have H2 : Hid ((∀ j, j < 0 → 0 ≤ q.nu j ∧ q.nu j ≤ 1099511627776) ∧ Box w2 w.heap.size 24 q.cells ∧ Below w.heap.size w w2) := Lib.hid ⟨fun j hj => absurd hj (Nat.not_lt_zero _), (hb2.block _ HBW.out.1.lt).trans HBW.out.1, HBW.out.2.trans (hb2.mono HBW.out.2.size)⟩
      clear hb2 HBW
      go_wp2_with fail
      go_loopw [18] (fun i wr => ∃ k : Nat, k ≤ 2 ∧ i = .int .i64 (k : Int) ∧ Hid ((∀ j, j < k → 0 ≤ q.nu j ∧ q.nu j ≤ 1099511627776) ∧ Box wr w.heap.size 24 q.cells ∧ Below w.heap.size w wr)) (fun i _ => 2 - (intOf i).toNat)
      case atStart => exact ⟨0, Nat.zero_le _, rfl, H2⟩
      case round =>
        obtain ⟨k, hk, rfl, hst⟩ := hrel
        clear H2
        obtain ⟨y0, y1, y2, y3, y4, y5, y6⟩ := hst.out.2.1.seven
        obtain ⟨z0, z1⟩ := idx2 (.pointer (some ⟨w.heap.size, 5, none⟩)) (.pointer (some ⟨w.heap.size, 6, none⟩))
        by_cases hlt : k < 2
        · by_cases hsz : 0 ≤ q.nu k ∧ q.nu k ≤ 1099511627776
          · have HN : Hid ((∀ j, j < k + 1 → 0 ≤ q.nu j ∧ q.nu j ≤ 1099511627776) ∧ Box wr w.heap.size 24 q.cells ∧ Below w.heap.size w wr) := Lib.hid ⟨fun j hj => by
              by_cases e : j = k
              · rw [e]; exact hsz
              · exact hst.out.1 j (by omega), hst.out.2⟩
            clear hst
            obtain rfl | rfl : k = 0 ∨ k = 1 := by omega
            all_goals
              simp only [Ak.nu] at hsz
              obtain ⟨s1, s2⟩ := hsz
              go_wp2
              go_roundw
              case rel => exact ⟨_, by omega, by go_num, HN⟩
              case measure => simp [intOf]
          · have HR := Lib.hid (Ak.no_nu hlt hsz)
            have HB := Lib.hid hst.out.2.2
            clear hst
            obtain rfl | rfl : k = 0 ∨ k = 1 := by omega
            all_goals
              simp only [Ak.nu] at hsz
              first
                | (by_cases s1 : q.n < 0
                   · clear hsz
                     go_wp2
                     go_ret
                     exact ⟨by rw [HR.out]; rfl, HB.out⟩
                   · have s2 : 1099511627776 < q.n := by omega
                     clear hsz
                     go_wp2
                     go_ret
                     exact ⟨by rw [HR.out]; rfl, HB.out⟩)
                | (by_cases s1 : q.m < 0
                   · clear hsz
                     go_wp2
                     go_ret
                     exact ⟨by rw [HR.out]; rfl, HB.out⟩
                   · have s2 : 1099511627776 < q.m := by omega
                     clear hsz
                     go_wp2
                     go_ret
                     exact ⟨by rw [HR.out]; rfl, HB.out⟩)
        · obtain rfl : k = 2 := by omega
          have HR := Lib.hid (Ak.right_op HTX.out hst.out.1)
          have HB := Lib.hid hst.out.2.2
          clear hst HTX
          by_cases s1 : 1 ≤ q.op
          · by_cases s2 : q.op ≤ 19
            · go_wp2
              go_ret
              exact ⟨by rw [HR.out, decide_eq_true ⟨s1, s2⟩]; rfl, HB.out⟩
            · go_wp2
              go_ret
              exact ⟨by rw [HR.out, decide_eq_false fun h : 1 ≤ q.op ∧ q.op ≤ 19 => by omega]; rfl, HB.out⟩
          · go_wp2
            go_ret
            exact ⟨by rw [HR.out, decide_eq_false fun h : 1 ≤ q.op ∧ q.op ≤ 19 => by omega]; rfl, HB.out⟩

end Go.Proofs.Ytcncoppnkodhmab
