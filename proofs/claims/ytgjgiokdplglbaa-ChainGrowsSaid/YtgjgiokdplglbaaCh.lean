/-
  chain: a version, a row of versions in memory, and the contracts of follows, Last.
-/
import Derived.WalkKit
import Derived.IntWalk
import Derived.Lib.Hide
import Derived.Deep.QuietTactic
import Derived.BigQuiet
import Derived.Test.YtgjgiokdplglbaaProg
namespace Go.Proofs.Ytgjgiokdplglbaa
open Go.RowKit

structure Ver where
  seq : Int
  val : ByteArray
  gone : Bool

instance : Inhabited Ver := ⟨⟨0, ⟨#[]⟩, false⟩⟩

/-- what follows 'last' -/
def Ver.folB (v : Ver) (last : Int) : Bool := decide (last < v.seq) && decide (0 ≤ v.seq) && decide (v.seq ≤ 1099511627776) && !(v.gone && !v.val.toList.isEmpty)

def Ver.agg (v : Ver) : Value := .agg #[.int .i64 v.seq, .string v.val, .bool v.gone]

theorem agg_eq (v : Ver) : v.agg = .agg #[.int .i64 v.seq, .string v.val, .bool v.gone] := rfl

set_option maxHeartbeats 1000000 in
theorem follows_any (s : Int) (t : ByteArray) (g : Bool) (last : Int) (w : World) :
    Calls Try.prog 44 #[.agg #[.int .i64 s, .string t, .bool g], .int .i64 last] w fun e w' => e = .returned (.bool (Ver.folB ⟨s, t, g⟩ last)) ∧ Below w.heap.size w w' := by
  have H : Hid (Ver.folB ⟨s, t, g⟩ last = (decide (last < s) && decide (0 ≤ s) && decide (s ≤ 1099511627776) && !(g && !t.toList.isEmpty))) := Lib.hid rfl
  by_cases h1 : last < s
  · by_cases h2 : 0 ≤ s
    · by_cases h3 : s ≤ 1099511627776
      · have d1 : decide (last < s) = true := decide_eq_true h1
        have d2 : decide (0 ≤ s) = true := decide_eq_true h2
        have d3 : decide (s ≤ 1099511627776) = true := decide_eq_true h3
        have HE : Hid (Ver.folB ⟨s, t, g⟩ last = !(g && !t.toList.isEmpty)) := Lib.hid (by rw [H.out, d1, d2, d3]; simp)
        cases g
        · go_enter Try.func44, Try.ntmps44
          go_wp2
          go_ret
          exact ⟨by rw [HE.out]; rfl, (Below.refl _ _).alloc (Nat.le_refl _) _⟩
        · by_cases h4 : t.toList = []
          · have e4 : t.toList.isEmpty = true := by rw [h4]; rfl
            have HF : Hid (Ver.folB ⟨s, t, true⟩ last = true) := Lib.hid (by rw [HE.out, e4]; rfl)
            go_enter Try.func44, Try.ntmps44
            go_wp2
            go_ret
            exact ⟨by rw [HF.out]; rfl, (Below.refl _ _).alloc (Nat.le_refl _) _⟩
          · have e4 : t.toList.isEmpty = false := by simpa using h4
            have HF : Hid (Ver.folB ⟨s, t, true⟩ last = false) := Lib.hid (by rw [HE.out, e4]; rfl)
            go_enter Try.func44, Try.ntmps44
            go_wp2
            go_ret
            exact ⟨by rw [HF.out]; rfl, (Below.refl _ _).alloc (Nat.le_refl _) _⟩
      · have d3 : decide (s ≤ 1099511627776) = false := decide_eq_false h3
        have HF : Hid (Ver.folB ⟨s, t, g⟩ last = false) := Lib.hid (by rw [H.out, d3]; simp)
        go_enter Try.func44, Try.ntmps44
        go_wp2
        go_ret
        exact ⟨by rw [HF.out]; rfl, (Below.refl _ _).alloc (Nat.le_refl _) _⟩
    · have HF : Hid (Ver.folB ⟨s, t, g⟩ last = false) := Lib.hid (by rw [H.out, decide_eq_false h2]; simp)
      go_enter Try.func44, Try.ntmps44
      go_wp2
      go_ret
      exact ⟨by rw [HF.out]; rfl, (Below.refl _ _).alloc (Nat.le_refl _) _⟩
  · have HF : Hid (Ver.folB ⟨s, t, g⟩ last = false) := Lib.hid (by rw [H.out, decide_eq_false h1]; simp)
    go_enter Try.func44, Try.ntmps44
    go_wp2
    go_ret
    exact ⟨by rw [HF.out]; rfl, (Below.refl _ _).alloc (Nat.le_refl _) _⟩

/-- a version in three cells -/
def VerIn (w : World) (b o : Nat) (v : Ver) : Prop :=
  w.cell? ⟨b, o, none⟩ = some (.int .i64 v.seq) ∧ w.cell? ⟨b, o + 1, none⟩ = some (.string v.val) ∧ w.cell? ⟨b, o + 2, none⟩ = some (.bool v.gone)

/-- a row of versions: none, or in block b from 'off' on -/
def VersAt (w : World) (b off : Nat) (vs : List Ver) : Prop := ∀ i (h : i < vs.length), VerIn w b (off + i * 3) (vs[i])

/-- What a walk is told of a chain. -/
def ChIs (w : World) (a : Option Addr) (vs : List Ver) : Prop :=
  vs.length ≤ 9223372036854775807 ∧ (vs = [] ∨ ∃ b off, a = some ⟨b, off, none⟩ ∧ b < w.heap.size ∧ VersAt w b off vs)

theorem VersAt.below {w w' : World} {b off : Nat} {vs : List Ver} {n : Nat} (h : VersAt w b off vs) (hb : Below n w w') (hlt : b < n) : VersAt w' b off vs :=
  fun i hi => ⟨(hb.cell (p := ⟨b, _, none⟩) hlt).trans (h i hi).1, (hb.cell (p := ⟨b, _, none⟩) hlt).trans (h i hi).2.1, (hb.cell (p := ⟨b, _, none⟩) hlt).trans (h i hi).2.2⟩

theorem ChIs.below {w w' : World} {a : Option Addr} {vs : List Ver} (h : ChIs w a vs) (hb : Below w.heap.size w w') : ChIs w' a vs := by
  obtain ⟨h1, h2⟩ := h
  refine ⟨h1, h2.imp id ?_⟩
  rintro ⟨b, off, e, hlt, hv⟩
  exact ⟨b, off, e, Nat.lt_of_lt_of_le hlt hb.size, hv.below hb hlt⟩

theorem ChIs.take {w : World} {a : Option Addr} {vs : List Ver} (h : ChIs w a vs) (n : Nat) : ChIs w a (vs.take n) := by
  obtain ⟨h1, h2⟩ := h
  refine ⟨by rw [List.length_take]; omega, ?_⟩
  rcases h2 with rfl | ⟨b, off, e, hlt, hv⟩
  · exact .inl (by simp)
  · refine .inr ⟨b, off, e, hlt, fun i hi => ?_⟩
    have hi' : i < vs.length := by rw [List.length_take] at hi; omega
    rw [List.getElem_take]
    exact hv i hi'

def lastI (vs : List Ver) : Int := match vs.getLast? with | none => -1 | some v => v.seq

theorem lastI_nil : lastI [] = -1 := rfl
theorem lastI_some (vs : List Ver) (h : 0 < vs.length) : lastI vs = (vs[vs.length - 1]).seq := by
  unfold lastI
  rw [List.getLast?_eq_getElem?, List.getElem?_eq_getElem (by omega)]

theorem last_any (a : Option Addr) (c : Nat) (vs : List Ver) (w : World) (h : ChIs w a vs) :
    Calls Try.prog 29 #[.slice a vs.length c] w fun e w' => e = .returned (.int .i64 (lastI vs)) ∧ w = w' := by
  obtain ⟨h1, h2⟩ := h
  rcases h2 with rfl | ⟨b, off, rfl, hlt, hv⟩
  · go_enter Try.func29, Try.ntmps29
    go_wp2
    go_ret
    exact ⟨rfl, rfl⟩
  · by_cases h0 : vs = []
    · subst h0
      go_enter Try.func29, Try.ntmps29
      go_wp2
      go_ret
      exact ⟨rfl, rfl⟩
    · have hl : 0 < vs.length := List.length_pos_iff.2 h0
      have HL := Lib.hid (lastI_some vs hl)
      obtain ⟨c0, _, _⟩ := hv (vs.length - 1) (by omega)
      obtain ⟨s, hs⟩ : ∃ s, s = (vs[vs.length - 1]).seq := ⟨_, rfl⟩
      rw [← hs] at c0 HL
      have HS := Lib.hid hs
      clear hs hv h0
      have hz : ((vs.length : Int) == 0) = false := by rw [beq_eq_false_iff_ne]; omega
      have hi : (0 : Int) < (vs.length : Int) := by omega
      have hi2 : ((vs.length : Int) - 1).toNat = vs.length - 1 := by omega
      go_enter Try.func29, Try.ntmps29
      go_wp2
      go_ret
      exact ⟨by rw [HL.out]; rfl, rfl⟩

end Go.Proofs.Ytgjgiokdplglbaa
