/-
  OctetGrows: for every two ints the law's function returns true, and writes nothing that was there.
-/
import Derived.Test.YtecejmefnbejhaaNum
import Derived.Test.YtecejmefnbejhaaOrder
import Derived.WalkLawsBesides
namespace Go.Proofs.Ytecejmefnbejhaa.octetGrows
open Go.RowKit

set_option maxHeartbeats 400000 in
theorem walk (a0 : Int) (_w0 : (Lit.int .i64 a0).wf = true) (a1 : Int) (_w1 : (Lit.int .i64 a1).wf = true) (w : World) :
    Calls Try.prog 7 #[.int .i64 a0, .int .i64 a1] w fun e w' => e = .returned (.bool true) ∧ Below w.heap.size w w' := by
  have e0 := and_mask62 a0
  have e1 := and_mask62 a1
  obtain ⟨p, hp⟩ : ∃ p : Nat, a0 % 4611686018427387904 = p := ⟨(a0 % 4611686018427387904).toNat, by omega⟩
  obtain ⟨q, hq⟩ : ∃ q : Nat, a1 % 4611686018427387904 = q := ⟨(a1 % 4611686018427387904).toNat, by omega⟩
  have hp' : p ≤ 4611686018427387903 := by omega
  have hq' : q ≤ 4611686018427387903 := by omega
  rw [hp] at e0
  rw [hq] at e1
  clear hp hq
  obtain ⟨lo, hlo⟩ : ∃ lo : Nat, min (p : Int) (q : Int) = lo := ⟨min p q, by omega⟩
  obtain ⟨hi, hhi⟩ : ∃ hi : Nat, max (p : Int) (q : Int) = hi := ⟨max p q, by omega⟩
  have hle : lo ≤ hi := by omega
  have hhm : hi ≤ 4611686018427387903 := by omega
  have hpq := Lib.hid (show p = q ↔ lo = hi by omega)
  have cv := fun (w' : World) (v : Value) (l : List UInt8) (h : Bs 5 w.heap.size w' v l) => conv_own (P := Try.prog) 5 w.heap.size w' 22 9 Try.underlying22 Try.underlying5 Try.underlying9 v l h
  have CV := Lib.hid cv
  clear cv
  go_enter Try.func7, Try.ntmps7
  go_wp2_with fail
  refine (head_any _).mono ?_
  rintro e w1 ⟨rfl, hb1⟩
  have hz1 := hb1.size
  go_wp2_with fail
  refine (num_nat w.heap.size (.slice none 0 0) [] lo (by omega) w1 (by simp) hz1 (Bs.nil _ _ _)).mono ?_
  rintro e w2 ⟨v2, rfl, hown2, hup2⟩
  have c2 := CV.out w2 v2 _ hown2
  have hb2 := hb1.trans (hup2.below (Bs.nil 5 w.heap.size w1) hz1)
  have hz2 := hb2.size
  clear hb1 hup2 hown2
  go_wp2_with fail
  refine (num_nat w.heap.size (.slice none 0 0) [] hi (by omega) w2 (by simp) hz2 (Bs.nil _ _ _)).mono ?_
  rintro e w3 ⟨v3, rfl, hown3, hup3⟩
  have c3 := CV.out w3 v3 _ hown3
  have hb3 := hb2.trans (hup3.below (Bs.nil 5 w.heap.size w2) hz2)
  clear hb2 hup3 hown3 c2
  have hl : (octN lo).length ≤ (octN hi).length := by
    have := osz_mono lo hi hle (by omega)
    rw [octN_length, octN_length]; omega
  have hor : Op.bytesLess (octN lo) (octN hi) = true ∨ octN lo = octN hi := by
    rcases Nat.lt_or_ge lo hi with h | h
    · exact .inl (octN_less lo hi h (by omega))
    · exact .inr (by rw [show lo = hi by omega])
  go_wp2
  go_ret
  refine ⟨ret_bool ?_, hb3⟩
  rw [Bool.and_eq_true, Bool.or_eq_true, beq_iff_eq, beq_iff_eq]
  refine ⟨hor, ?_⟩
  rw [Bool.eq_iff_iff, beq_iff_eq, beq_iff_eq, Int.natCast_inj, hpq.out]
  exact ⟨fun h => octN_inj lo hi (by omega) (by omega) h, fun h => by rw [h]⟩

end Go.Proofs.Ytecejmefnbejhaa.octetGrows
