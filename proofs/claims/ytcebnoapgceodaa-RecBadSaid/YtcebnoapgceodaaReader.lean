/-
  octet's Reader: a block of two cells, what is left to read and whether there was an error; each method's contract.
-/
import Derived.Test.YtcebnoapgceodaaOwn
import Derived.Test.YtcebnoapgceodaaShelf
import Derived.WalkLawsBesides
import Derived.WalkSpells
namespace Go.Proofs.Ytcebnoapgceodaa
open Go.RowKit

/-- Block b is a Reader that has s left; 'bad': there was an error. -/
def Rd (w : World) (b : Nat) (s : ByteArray) (bad : Bool) : Prop := w.heap[b]? = some (.cells #[.string s, .bool bad] 192 (0, 0))

theorem Rd.rest {w : World} {b : Nat} {s : ByteArray} {bad : Bool} (h : Rd w b s bad) : w.cell? ⟨b, 0, none⟩ = some (.string s) := by
  unfold World.cell?; rw [h]; rfl
theorem Rd.bad {w : World} {b : Nat} {s : ByteArray} {bad : Bool} (h : Rd w b s bad) : w.cell? ⟨b, 1, none⟩ = some (.bool bad) := by
  unfold World.cell?; rw [h]; rfl
theorem Rd.free {w : World} {b : Nat} {s : ByteArray} {bad : Bool} (h : Rd w b s bad) (j : Nat) : w.frozen? ⟨b, j, none⟩ = false := by
  unfold World.frozen?; rw [h]; simp
theorem Rd.lt {w : World} {b : Nat} {s : ByteArray} {bad : Bool} (h : Rd w b s bad) : b < w.heap.size := (Array.getElem?_eq_some_iff.1 h).1

theorem Rd.setRest {w : World} {b : Nat} {s : ByteArray} {bad : Bool} (h : Rd w b s bad) (s' : ByteArray) : Rd (w.setCell ⟨b, 0, none⟩ (.string s')) b s' bad := heap_setCell_same w b 0 _ _ (.string s') h
theorem Rd.setBad {w : World} {b : Nat} {s : ByteArray} {bad : Bool} (h : Rd w b s bad) (bad' : Bool) : Rd (w.setCell ⟨b, 1, none⟩ (.bool bad')) b s bad' := heap_setCell_same w b 1 _ _ (.bool bad') h
theorem grown_setCell (w : World) (b i : Nat) (v : Value) : w.grownBy (w.setCell ⟨b, i, none⟩ v) (some b) :=
  ⟨rfl, rfl, rfl, by simp, fun k _ hne => Below.heap_setCell w _ v k (by intro e; exact hne (by rw [e]))⟩

/-- From w to w' the Reader alone has turned (and there may be new blocks): now it has s left. -/
def Goes (w : World) (b : Nat) (s : ByteArray) (bad : Bool) (w' : World) : Prop := Rd w' b s bad ∧ w.grownBy w' (some b)

theorem Goes.refl {w : World} {b : Nat} {s : ByteArray} {bad : Bool} (h : Rd w b s bad) : Goes w b s bad w := ⟨h, World.grownBy.refl w _⟩
theorem Goes.trans {w w1 w2 : World} {b : Nat} {s s' : ByteArray} {bad bad' : Bool} (h : Goes w b s bad w1) (k : Goes w1 b s' bad' w2) : Goes w b s' bad' w2 := ⟨k.1, grown_trans h.2 k.2 (.inl rfl)⟩
/-- behind new blocks -/
theorem Goes.below {w w1 w2 : World} {b : Nat} {s : ByteArray} {bad : Bool} (h : Goes w b s bad w1) (k : Below w1.heap.size w1 w2) : Goes w b s bad w2 :=
  ⟨(k.block b h.1.lt).trans h.1, ⟨k.os.trans h.2.os, k.tape.trans h.2.tape, k.output.trans h.2.output, Nat.le_trans h.2.size k.size, fun j hj hne => (k.block j (Nat.lt_of_lt_of_le hj h.2.size)).trans (h.2.block j hj hne)⟩⟩
theorem Goes.frame {w w' : World} {b B : Nat} {s : ByteArray} {bad : Bool} (h : Goes w b s bad w') (hB : B ≤ w.heap.size) (hb : B ≤ b) : Below B w w' :=
  (Below.refl B w).grown h.2 hB fun k hk => by simp at hk; omega

/-- fail -/
theorem fail_at (b : Nat) (s : ByteArray) (bad : Bool) (w : World) (h : Rd w b s bad) :
    Calls Try.prog 115 #[.pointer (some ⟨b, 0, none⟩)] w fun e w' => e = .returned (.tuple #[]) ∧ Goes w b ⟨#[]⟩ true w' := by
  have h0 := h.rest
  have h1 := h.bad
  have f0 := h.free 0
  have f1 := h.free 1
  go_enter Try.func115, Try.ntmps115
  go_wp2
  go_end0
  exact ⟨rfl, (h.setRest ⟨#[]⟩).setBad true, grown_trans (grown_setCell w b 0 _) (grown_setCell _ b 1 _) (.inl rfl)⟩

/-- Left -/
theorem left_at (b : Nat) (s : ByteArray) (bad : Bool) (w : World) (h : Rd w b s bad) :
    Calls Try.prog 110 #[.pointer (some ⟨b, 0, none⟩)] w fun e w' => e = .returned (.int .i64 s.size) ∧ w = w' := by
  have h0 := h.rest
  go_enter Try.func110, Try.ntmps110
  go_wp2
  go_ret
  exact ⟨rfl, rfl⟩

theorem left_nil (w : World) :
    Calls Try.prog 110 #[.pointer none] w fun e w' => e = .returned (.int .i64 0) ∧ w = w' := by
  go_enter Try.func110, Try.ntmps110
  go_wp2
  go_ret
  exact ⟨rfl, rfl⟩

/-- the number of the error: ErrForm, or OK -/
def errOf (bad : Bool) : Int := if bad then 2 else 0

/-- Err -/
theorem err_at (b : Nat) (s : ByteArray) (bad : Bool) (w : World) (h : Rd w b s bad) :
    Calls Try.prog 111 #[.pointer (some ⟨b, 0, none⟩)] w fun e w' => e = .returned (.int .i64 (errOf bad)) ∧ w = w' := by
  have h1 := h.bad
  cases bad
  all_goals
    go_enter Try.func111, Try.ntmps111
    go_wp2
    go_ret
    exact ⟨rfl, rfl⟩

theorem err_nil (w : World) :
    Calls Try.prog 111 #[.pointer none] w fun e w' => e = .returned (.int .i64 2) ∧ w = w' := by
  go_enter Try.func111, Try.ntmps111
  go_wp2
  go_ret
  exact ⟨rfl, rfl⟩

/-- End -/
theorem end_at (b : Nat) (s : ByteArray) (bad : Bool) (w : World) (h : Rd w b s bad) :
    Calls Try.prog 66 #[.pointer (some ⟨b, 0, none⟩)] w fun e w' => e = .returned (.int .i64 (errOf (bad || decide (0 < s.size)))) ∧ w = w' := by
  by_cases h0 : 0 < s.size
  · have h0' : (0 : Int) < (s.size : Int) := by omega
    go_enter Try.func66, Try.ntmps66
    go_wp2_with (go_at_call 110; refine (left_at b s bad _ h).mono ?_; rintro e w' ⟨rfl, rfl⟩)
    go_ret
    exact ⟨by simp [h0, errOf], rfl⟩
  · have h0' : s.size = 0 := by omega
    have hh := left_at b s bad w h
    rw [h0'] at hh
    go_enter Try.func66, Try.ntmps66
    go_wp2_with (first
      | (go_at_call 110; refine hh.mono ?_; rintro e w' ⟨rfl, rfl⟩)
      | (go_at_call 111; refine (err_at b s bad _ h).mono ?_; rintro e w' ⟨rfl, rfl⟩))
    go_ret
    exact ⟨by simp [h0], rfl⟩

theorem end_nil (w : World) :
    Calls Try.prog 66 #[.pointer none] w fun e w' => e = .returned (.int .i64 2) ∧ w = w' := by
  go_enter Try.func66, Try.ntmps66
  go_wp2_with (first
    | (go_at_call 110; refine (left_nil _).mono ?_; rintro e w' ⟨rfl, rfl⟩)
    | (go_at_call 111; refine (err_nil _).mono ?_; rintro e w' ⟨rfl, rfl⟩))
  go_ret
  exact ⟨rfl, rfl⟩

/-- take: of fewer than one byte -/
theorem take_none (b : Nat) (n : Int) (hn : n < 1) (w : World) :
    Calls Try.prog 113 #[.pointer (some ⟨b, 0, none⟩), .int .i64 n] w fun e w' => e = .returned (.string ⟨#[]⟩) ∧ w = w' := by
  go_enter Try.func113, Try.ntmps113
  go_wp2
  go_ret
  exact ⟨rfl, rfl⟩

theorem take_nil (n : Int) (w : World) :
    Calls Try.prog 113 #[.pointer none, .int .i64 n] w fun e w' => e = .returned (.string ⟨#[]⟩) ∧ w = w' := by
  go_enter Try.func113, Try.ntmps113
  go_wp2
  go_ret
  exact ⟨rfl, rfl⟩

/-- take: of more than there are -/
theorem take_few (b : Nat) (s : ByteArray) (bad : Bool) (n : Nat) (h1 : 1 ≤ n) (h2 : s.size < n) (w : World) (h : Rd w b s bad) :
    Calls Try.prog 113 #[.pointer (some ⟨b, 0, none⟩), .int .i64 n] w fun e w' => e = .returned (.string ⟨#[]⟩) ∧ Goes w b ⟨#[]⟩ true w' := by
  have h0 := h.rest
  have h1' : ¬ (n : Int) < 1 := by omega
  go_enter Try.func113, Try.ntmps113
  go_wp2_with (go_at_call 115; refine (fail_at b s bad _ h).mono ?_; rintro e w' ⟨rfl, hg⟩)
  go_ret
  exact ⟨rfl, hg⟩

/-- take: of as many as there are, or fewer -/
theorem take_ok (b : Nat) (s : ByteArray) (bad : Bool) (n : Nat) (h1 : 1 ≤ n) (h2 : n ≤ s.size) (w : World) (h : Rd w b s bad) :
    Calls Try.prog 113 #[.pointer (some ⟨b, 0, none⟩), .int .i64 n] w fun e w' => e = .returned (.string (s.extract 0 n)) ∧ Goes w b (s.extract n s.size) bad w' := by
  have h0 := h.rest
  have f0 := h.free 0
  have h1' : ¬ (n : Int) < 1 := by omega
  have h2' : ¬ (s.size : Int) < (n : Int) := by omega
  go_enter Try.func113, Try.ntmps113
  go_wp2
  go_ret
  exact ⟨rfl, h.setRest _, grown_setCell w b 0 _⟩

/-- strings.Clone -/
theorem clone_any (s : ByteArray) (w : World) (hs : s.size ≤ 281474976710656) :
    Calls Try.prog 175 #[.string s] w fun e w' => e = .returned (.string s) ∧ Below w.heap.size w w' := by
  go_enter Try.func175, Try.ntmps175
  go_wp2_with (go_at_call 204; refine (Try.stringslite_Clone s _ hs).mono ?_; rintro e w' ⟨rfl, hb⟩)
  go_ret
  exact ⟨rfl, hb⟩

/-- Raw -/
theorem raw_none (b : Nat) (s : ByteArray) (bad : Bool) (n : Int) (hn : n < 1) (w : World) (h : Rd w b s bad) :
    Calls Try.prog 146 #[.pointer (some ⟨b, 0, none⟩), .int .i64 n] w fun e w' => e = .returned (.string ⟨#[]⟩) ∧ Goes w b s bad w' := by
  go_enter Try.func146, Try.ntmps146
  go_wp2_with (first
    | (go_at_call 113; refine (take_none b n hn _).mono ?_; rintro e w' ⟨rfl, rfl⟩)
    | (go_at_call 175; refine (clone_any ⟨#[]⟩ _ (by decide)).mono ?_; rintro e w' ⟨rfl, hb⟩))
  go_ret
  exact ⟨rfl, (Goes.refl h).below hb⟩

theorem raw_nil (n : Int) (w : World) :
    Calls Try.prog 146 #[.pointer none, .int .i64 n] w fun e w' => e = .returned (.string ⟨#[]⟩) ∧ Below w.heap.size w w' := by
  go_enter Try.func146, Try.ntmps146
  go_wp2_with (first
    | (go_at_call 113; refine (take_nil n _).mono ?_; rintro e w' ⟨rfl, rfl⟩)
    | (go_at_call 175; refine (clone_any ⟨#[]⟩ _ (by decide)).mono ?_; rintro e w' ⟨rfl, hb⟩))
  go_ret
  exact ⟨rfl, hb⟩

theorem raw_few (b : Nat) (s : ByteArray) (bad : Bool) (n : Nat) (h1 : 1 ≤ n) (h2 : s.size < n) (w : World) (h : Rd w b s bad) :
    Calls Try.prog 146 #[.pointer (some ⟨b, 0, none⟩), .int .i64 n] w fun e w' => e = .returned (.string ⟨#[]⟩) ∧ Goes w b ⟨#[]⟩ true w' := by
  go_enter Try.func146, Try.ntmps146
  go_wp2_with (first
    | (go_at_call 113; refine (take_few b s bad n h1 h2 _ h).mono ?_; rintro e w1 ⟨rfl, hg⟩)
    | (go_at_call 175; refine (clone_any ⟨#[]⟩ _ (by decide)).mono ?_; rintro e w2 ⟨rfl, hb⟩))
  go_ret
  exact ⟨rfl, hg.below hb⟩

theorem raw_ok (b : Nat) (s : ByteArray) (bad : Bool) (n : Nat) (h1 : 1 ≤ n) (h2 : n ≤ s.size) (hs : s.size ≤ 281474976710656) (w : World) (h : Rd w b s bad) :
    Calls Try.prog 146 #[.pointer (some ⟨b, 0, none⟩), .int .i64 n] w fun e w' => e = .returned (.string (s.extract 0 n)) ∧ Goes w b (s.extract n s.size) bad w' := by
  have hx : (s.extract 0 n).size ≤ 281474976710656 := by simp [ByteArray.size_extract]; omega
  go_enter Try.func146, Try.ntmps146
  go_wp2_with (first
    | (go_at_call 113; refine (take_ok b s bad n h1 h2 _ h).mono ?_; rintro e w1 ⟨rfl, hg⟩)
    | (go_at_call 175; refine (clone_any _ _ hx).mono ?_; rintro e w2 ⟨rfl, hb⟩))
  go_ret
  exact ⟨rfl, hg.below hb⟩

/-- Read: a Reader in a new block. -/
theorem read_any (s : ByteArray) (w : World) :
    Calls Try.prog 64 #[.string s] w fun e w' => e = .returned (.pointer (some ⟨w.heap.size, 0, none⟩)) ∧ Rd w' w.heap.size s false ∧ Below w.heap.size w w' := by
  go_enter Try.func64, Try.ntmps64
  go_wp2
  go_ret
  exact ⟨rfl, heap_alloc_new w _, (Below.refl _ w).alloc (Nat.le_refl _) _⟩

end Go.Proofs.Ytcebnoapgceodaa
