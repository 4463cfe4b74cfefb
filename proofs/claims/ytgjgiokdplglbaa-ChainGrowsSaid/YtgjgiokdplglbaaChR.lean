/-
  chain: Right, sort.Search at the chain's closure, upTo, At.
-/
import Derived.Test.YtgjgiokdplglbaaCh
import Derived.RegionTactic
import Derived.Deep.RegionHeld3
import Derived.Below
namespace Go.Proofs.Ytgjgiokdplglbaa
open Go.RowKit

/-- the commits rise -/
def RightP (vs : List Ver) : Prop := ∀ i (h : i < vs.length), (vs[i]).folB (lastI (vs.take i)) = true
instance (vs : List Ver) : Decidable (RightP vs) := by unfold RightP; infer_instance
def rightC (vs : List Ver) : Bool := decide (RightP vs)

theorem below_drewN' {B : Nat} {a w : World} (h : Below B a w) (q : Nat) : Below B a (w.drewN q) := ⟨h.os, h.tape, h.output, h.size, h.block⟩

/-- three cells of a new block are kept -/
theorem new3 {wr W : World} {c0 c1 c2 : Value} {t : TypeId} (h : Below (wr.alloc (.cells #[c0, c1, c2] t)).heap.size (wr.alloc (.cells #[c0, c1, c2] t)) W) :
    W.cell? ⟨wr.heap.size, 0, none⟩ = some c0 ∧ W.cell? ⟨wr.heap.size, 1, none⟩ = some c1 ∧ W.cell? ⟨wr.heap.size, 2, none⟩ = some c2 := by
  have h0 : ∀ i : Nat, W.cell? ⟨wr.heap.size, i, none⟩ = (wr.alloc (.cells #[c0, c1, c2] t)).cell? ⟨wr.heap.size, i, none⟩ := fun i => h.cell (by show wr.heap.size < _; simp)
  refine ⟨?_, ?_, ?_⟩ <;> (rw [h0]; simp)

/-- a draw ahead of it tells nothing -/
theorem undrew {a W : World} (h : Below a.drew.heap.size a.drew W) : Below a.heap.size a W := (Below.refl _ a).drew.trans h

set_option maxHeartbeats 2000000 in
theorem right_some (b off c : Nat) (vs : List Ver) (w : World) (hl : vs.length ≤ c) (hc : c ≤ 9223372036854775807) (hlt : b < w.heap.size) (hv : VersAt w b off vs) :
    Calls Try.prog 28 #[.slice (some ⟨b, off, none⟩) vs.length c] w fun e w' => e = .returned (.bool (rightC vs)) ∧ Below w.heap.size w w' := by
  go_enter Try.func28, Try.ntmps28
  go_wp2
  go_loopw [7] (fun i wr => ∃ k : Nat, k ≤ vs.length ∧ i = .int .i64 k ∧ Below w.heap.size w wr ∧ Hid (∀ i (h : i < vs.length), i < k → (vs[i]).folB (lastI (vs.take i)) = true)) (fun i _ => vs.length - (intOf i).toNat)
  case atStart => exact ⟨0, Nat.zero_le _, rfl, Below.refl _ _, Lib.hid fun i _ h => by omega⟩
  case round =>
    obtain ⟨k, hk, rfl, hb, HALL⟩ := hrel
    by_cases hlt2 : k < vs.length
    · obtain ⟨c0, c1, c2⟩ := (hv.below hb hlt) k hlt2
      have HT : Hid (ChIs wr (some ⟨b, off, none⟩) (vs.take k)) := Lib.hid ⟨by rw [List.length_take]; omega, .inr ⟨b, off, rfl, Nat.lt_of_lt_of_le hlt hb.size, fun i hi => by
        have hi' : i < vs.length := by rw [List.length_take] at hi; omega
        rw [List.getElem_take]
        exact (hv.below hb hlt) i hi'⟩⟩
      have HL : Hid ((vs.take k).length = k) := Lib.hid (by rw [List.length_take]; omega)
      have hlast := fun W h => last_any (some ⟨b, off, none⟩) c (vs.take k) W h
      rw [HL.out] at hlast
      obtain ⟨s, hs⟩ : ∃ s, s = vs[k] := ⟨_, rfl⟩
      rw [← hs] at c0 c1 c2
      obtain ⟨la, hla⟩ : ∃ la, la = lastI (vs.take k) := ⟨_, rfl⟩
      rw [← hla] at hlast
      have HR : Hid (∀ W, Below wr.heap.size wr W → Calls Try.prog 29 #[.slice (some ⟨b, off, none⟩) k c] W fun e w' => e = .returned (.int .i64 la) ∧ W = w') := Lib.hid fun W h => hlast W (HT.out.below h)
      have HS : Hid ((vs[k]).folB (lastI (vs.take k)) = s.folB la) := Lib.hid (by rw [hs, hla])
      clear hs hla hlast hv
      obtain ⟨sq, tx, gn⟩ := s
      simp only at c0 c1 c2
      have hkc : k ≤ c := by omega
      have hz := hb.size
      have hB2 : Hid (∀ W, Below (wr.alloc (.cells #[.int .i64 sq, .string tx, .bool gn] 64)).heap.size (wr.alloc (.cells #[.int .i64 sq, .string tx, .bool gn] 64)) W → Below w.heap.size w W) := Lib.hid fun W h => (hb.alloc hz _).trans (h.mono (by simp; omega))
      cases hf : (Ver.folB ⟨sq, tx, gn⟩ la)
      · have HF : Hid (rightC vs = false) := Lib.hid (decide_eq_false fun h => by have := h k hlt2; rw [HS.out, hf] at this; cases this)
        have HC := Lib.hid (fun W => hf ▸ follows_any sq tx gn la W)
        clear hf
        go_wp2_with fail
        go_region_held3 (fun w' => w'.cell? ⟨wr.heap.size, 0, none⟩ = some (.int .i64 sq) ∧ w'.cell? ⟨wr.heap.size, 1, none⟩ = some (.string tx) ∧ w'.cell? ⟨wr.heap.size, 2, none⟩ = some (.bool gn)) (first | go_keep | exact new3 (undrew hb5))
          (first
            | (go_at_call 29; refine (HR.out _ ?_).mono ?_; exact ((Below.refl _ _).alloc (Nat.le_refl _) _).drew; rintro e w4 ⟨rfl, rfl⟩)
            | (go_at_call 44; refine (HC.out _).mono ?_; rintro e w5 ⟨rfl, hb5⟩))
        go_wp2
        go_ret
        exact ⟨by rw [HF.out]; rfl, hB2.out _ (undrew hb5)⟩
      · have HC := Lib.hid (fun W => hf ▸ follows_any sq tx gn la W)
        have HN : Hid (∀ i (h : i < vs.length), i < k + 1 → (vs[i]).folB (lastI (vs.take i)) = true) := Lib.hid fun i hi hik => by
          by_cases e : i = k
          · subst e; rw [HS.out, hf]
          · exact HALL.out i hi (by omega)
        clear hf
        go_wp2_with fail
        go_region_held3 (fun w' => w'.cell? ⟨wr.heap.size, 0, none⟩ = some (.int .i64 sq) ∧ w'.cell? ⟨wr.heap.size, 1, none⟩ = some (.string tx) ∧ w'.cell? ⟨wr.heap.size, 2, none⟩ = some (.bool gn)) (first | go_keep | exact new3 (undrew hb5))
          (first
            | (go_at_call 29; refine (HR.out _ ?_).mono ?_; exact ((Below.refl _ _).alloc (Nat.le_refl _) _).drew; rintro e w4 ⟨rfl, rfl⟩)
            | (go_at_call 44; refine (HC.out _).mono ?_; rintro e w5 ⟨rfl, hb5⟩))
        go_wp2
        go_roundw
        case rel => exact ⟨k + 1, by omega, by go_num, hB2.out _ (undrew hb5), HN⟩
        case measure => simp [intOf]; omega
    · have HF : Hid (rightC vs = true) := Lib.hid (decide_eq_true fun i hi => HALL.out i hi (by omega))
      have hge : ¬ (k : Int) < (vs.length : Int) := by omega
      clear hlt2
      go_wp2
      go_ret
      exact ⟨by rw [HF.out]; rfl, hb⟩

end Go.Proofs.Ytgjgiokdplglbaa
