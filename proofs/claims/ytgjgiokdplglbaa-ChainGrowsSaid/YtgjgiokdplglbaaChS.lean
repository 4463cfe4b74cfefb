/-
  chain: sort.Search at the chain's closure, upTo, At.
-/
import Derived.Test.YtgjgiokdplglbaaChR
namespace Go.Proofs.Ytgjgiokdplglbaa
open Go.RowKit

theorem right_none (a : Option Addr) (c : Nat) (w : World) :
    Calls Try.prog 28 #[.slice a 0 c] w fun e w' => e = .returned (.bool (rightC [])) ∧ Below w.heap.size w w' := by
  have HF : Hid (rightC [] = true) := Lib.hid (decide_eq_true fun i hi => absurd hi (Nat.not_lt_zero _))
  go_enter Try.func28, Try.ntmps28
  go_wp2
  refine wp_loop_rounds 1 ?_
  rw [rounds_succ]
  go_wp2
  go_ret
  exact ⟨by rw [HF.out]; rfl, Below.refl _ _⟩

theorem right_any' (a : Option Addr) (c : Nat) (vs : List Ver) (w : World) (h : ChIs w a vs) (hl : vs.length ≤ c) (hc : c ≤ 9223372036854775807) :
    Calls Try.prog 28 #[.slice a vs.length c] w fun e w' => e = .returned (.bool (rightC vs)) ∧ Below w.heap.size w w' := by
  rcases h.2 with rfl | ⟨b, off, rfl, hlt, hv⟩
  · exact right_none a c w
  · exact right_some b off c vs w hl hc hlt hv

/-- the closure of upTo -/
theorem upto_closure (b off c bc bs i : Nat) (vs : List Ver) (seq : Int) (w : World) (hi : i < vs.length) (hv : VersAt w b off vs)
    (h1 : w.cell? ⟨bc, 0, none⟩ = some (.slice (some ⟨b, off, none⟩) vs.length c)) (h2 : w.cell? ⟨bs, 0, none⟩ = some (.int .i64 seq)) :
    Calls Try.prog 63 #[.int .i64 i, .pointer (some ⟨bc, 0, none⟩), .pointer (some ⟨bs, 0, none⟩)] w fun e w' => e = .returned (.bool (decide (seq < (vs[i]).seq))) ∧ ∃ q, w' = w.drewN q := by
  obtain ⟨c0, _, _⟩ := hv i hi
  obtain ⟨s, hs⟩ : ∃ s, s = (vs[i]).seq := ⟨_, rfl⟩
  rw [← hs] at c0 ⊢
  clear hs hv
  have hi0 : (i : Int) < (vs.length : Int) := by omega
  go_enter Try.func63, Try.ntmps63
  go_wp2
  go_quiet (fail)
  go_wp2
  go_ret
  exact ⟨rfl, _, rfl⟩

/-- how many versions there are up to a commit, as the search finds it -/
def UpTo (vs : List Ver) (seq : Int) (r : Nat) : Prop :=
  r ≤ vs.length ∧ (∀ i (h : i < vs.length), i < r → (vs[i]).seq ≤ seq) ∧ ∀ i (h : i < vs.length), r ≤ i → seq < (vs[i]).seq

def Rise (vs : List Ver) : Prop := ∀ i j (_ : i ≤ j) (hj : j < vs.length), (vs[i]).seq ≤ (vs[j]).seq

set_option maxHeartbeats 1000000 in
theorem search_some (b off c bc bs : Nat) (vs : List Ver) (seq : Int) (w : World) (hb : b < w.heap.size) (hbc : bc < w.heap.size) (hbs : bs < w.heap.size) (hv : VersAt w b off vs) (hl : vs.length ≤ 4611686018427387900) (hr : Rise vs)
    (h1 : w.cell? ⟨bc, 0, none⟩ = some (.slice (some ⟨b, off, none⟩) vs.length c)) (h2 : w.cell? ⟨bs, 0, none⟩ = some (.int .i64 seq)) :
    Calls Try.prog 62 #[.int .i64 vs.length, .func (.func 63) #[] #[.pointer (some ⟨bc, 0, none⟩), .pointer (some ⟨bs, 0, none⟩)]] w fun e w' => (∃ r, UpTo vs seq r ∧ e = .returned (.int .i64 (r : Nat))) ∧ Below w.heap.size w w' := by
  have HC : Hid (∀ W i (hi : i < vs.length), Below w.heap.size w W → Calls Try.prog 63 #[.int .i64 i, .pointer (some ⟨bc, 0, none⟩), .pointer (some ⟨bs, 0, none⟩)] W fun e w' => e = .returned (.bool (decide (seq < (vs[i]).seq))) ∧ ∃ q, w' = W.drewN q) :=
    Lib.hid fun W i hi hB => upto_closure b off c bc bs i vs seq W hi (hv.below hB hb) ((hB.cell (p := ⟨bc, 0, none⟩) hbc).trans h1) ((hB.cell (p := ⟨bs, 0, none⟩) hbs).trans h2)
  have HR := Lib.hid hr
  clear h1 h2 hv hr hb hbc hbs
  go_enter Try.func62, Try.ntmps62
  go_wp2
  go_loopw [5, 6] (fun i j wr => ∃ lo hi : Nat, i = .int .i64 lo ∧ j = .int .i64 hi ∧ lo ≤ hi ∧ hi ≤ vs.length ∧ Below w.heap.size w wr ∧ Hid ((∀ t (h : t < vs.length), t < lo → (vs[t]).seq ≤ seq) ∧ ∀ t (h : t < vs.length), hi ≤ t → seq < (vs[t]).seq)) (fun i j _ => (intOf j).toNat - (intOf i).toNat)
  case atStart => exact ⟨0, vs.length, rfl, rfl, Nat.zero_le _, Nat.le_refl _, Below.refl _ _, Lib.hid ⟨fun t _ h => by omega, fun t h h2 => by omega⟩⟩
  case round =>
    obtain ⟨lo, hi, rfl, rfl, hlh, hin, hB, I⟩ := hrel
    by_cases hlt : lo < hi
    · have hm : (lo + hi) / 2 < vs.length := by omega
      have hc := HC.out wr ((lo + hi) / 2) hm hB
      rw [show (((lo + hi) / 2 : Nat) : Int) = ((lo : Int) + (hi : Int)) / 2 by omega] at hc
      by_cases hp : seq < (vs[(lo + hi) / 2]).seq
      · rw [decide_eq_true hp] at hc
        have I2 : Hid ((∀ t (h : t < vs.length), t < lo → (vs[t]).seq ≤ seq) ∧ ∀ t (h : t < vs.length), (lo + hi) / 2 ≤ t → seq < (vs[t]).seq) := Lib.hid ⟨I.out.1, fun t h ht => by have := HR.out ((lo + hi) / 2) t ht h; omega⟩
        have HCC := Lib.hid hc
        clear hp hc
        go_wp2_with (go_at_call 63; refine HCC.out.mono ?_; rintro e w' ⟨rfl, nq, rfl⟩)
        go_roundw
        case rel => exact ⟨lo, (lo + hi) / 2, rfl, by rw [show ((lo : Int) + (hi : Int)) / 2 = (((lo + hi) / 2 : Nat) : Int) by omega], by omega, by omega, below_drewN' hB _, I2⟩
        case measure => simp [intOf]; omega
      · rw [decide_eq_false hp] at hc
        have I2 : Hid ((∀ t (h : t < vs.length), t < (lo + hi) / 2 + 1 → (vs[t]).seq ≤ seq) ∧ ∀ t (h : t < vs.length), hi ≤ t → seq < (vs[t]).seq) := Lib.hid ⟨fun t h ht => by have := HR.out t ((lo + hi) / 2) (by omega) hm; omega, I.out.2⟩
        have HCC := Lib.hid hc
        clear hp hc
        go_wp2_with (go_at_call 63; refine HCC.out.mono ?_; rintro e w' ⟨rfl, nq, rfl⟩)
        go_roundw
        case rel => exact ⟨(lo + hi) / 2 + 1, hi, by rw [show ((lo : Int) + (hi : Int)) / 2 + 1 = (((lo + hi) / 2 + 1 : Nat) : Int) by omega], rfl, by omega, by omega, below_drewN' hB _, I2⟩
        case measure => simp [intOf]; omega
    · obtain rfl : hi = lo := by omega
      go_wp2
      go_ret
      exact ⟨⟨hi, ⟨hin, I.out⟩, rfl⟩, hB⟩

theorem search_none (cl : Value) (w : World) : 
    Calls Try.prog 62 #[.int .i64 0, cl] w fun e w' => e = .returned (.int .i64 0) ∧ w = w' := by
  go_enter Try.func62, Try.ntmps62
  go_wp2
  refine wp_loop_rounds 1 ?_
  rw [rounds_succ]
  go_wp2
  go_ret
  exact ⟨rfl, rfl⟩

def SomeUp (vs : List Ver) (seq : Int) (e : Ending) : Prop := ∃ r : Nat, UpTo vs seq r ∧ e = .returned (.int .i64 r)

theorem upto_any (a : Option Addr) (c : Nat) (vs : List Ver) (seq : Int) (w : World) (h : ChIs w a vs) (hl : vs.length ≤ 4611686018427387900) (hr : Rise vs) :
    Calls Try.prog 45 #[.slice a vs.length c, .int .i64 seq] w fun e w' => SomeUp vs seq e ∧ Below w.heap.size w w' := by
  have hb2 := ((Below.refl w.heap.size w).alloc (Nat.le_refl _) (.cells #[.slice a vs.length c] 62)).alloc (by simp) (.cells #[.int .i64 seq] 3)
  have HB := Lib.hid hb2
  rcases h.2 with rfl | ⟨b, off, rfl, hlt, hv⟩
  · go_enter Try.func45, Try.ntmps45
    go_wp2_with fail
    refine (search_none _ _).mono ?_
    rintro e w1 ⟨rfl, rfl⟩
    go_wp2
    go_ret
    exact ⟨⟨0, ⟨Nat.zero_le _, fun i h => absurd h (Nat.not_lt_zero _), fun i h => absurd h (Nat.not_lt_zero _)⟩, rfl⟩, HB.out⟩
  · have hs := search_some b off c w.heap.size (w.heap.size + 1) vs seq ((w.alloc (.cells #[.slice (some ⟨b, off, none⟩) vs.length c] 62)).alloc (.cells #[.int .i64 seq] 3)) (by simp; omega) (by simp; omega) (by simp) (hv.below hb2 hlt) hl hr (by simp) (by simp)
    have HS := Lib.hid hs
    clear hs hb2 hv hr
    go_enter Try.func45, Try.ntmps45
    go_wp2_with fail
    refine HS.out.mono ?_
    rintro e w1 ⟨⟨r, hr, rfl⟩, hb1⟩
    have HR := Lib.hid hr
    clear hr
    go_wp2
    go_ret
    exact ⟨⟨r, HR.out, rfl⟩, HB.out.trans (hb1.mono (by simp; omega))⟩

end Go.Proofs.Ytgjgiokdplglbaa
