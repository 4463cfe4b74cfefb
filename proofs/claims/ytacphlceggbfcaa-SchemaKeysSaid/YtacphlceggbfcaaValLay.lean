/-
  val's layInt: a number's bytes.
-/
import Derived.Test.YtacphlceggbfcaaValMem
import Derived.Test.YtacphlceggbfcaaLay
import Derived.Test.YtacphlceggbfcaaOPure
namespace Go.Proofs.Ytacphlceggbfcaa
open Go.RowKit

theorem xor_ones (x : Nat) (h : x < 18446744073709551616) : x ^^^ 18446744073709551615 = 18446744073709551615 - x := by
  have h1 : (BitVec.ofNat 64 x ^^^ BitVec.allOnes 64).toNat = 18446744073709551615 - x := by
    rw [BitVec.xor_allOnes, BitVec.toNat_not, BitVec.toNat_ofNat, Nat.mod_eq_of_lt h]
  rw [BitVec.toNat_xor, BitVec.toNat_ofNat, Nat.mod_eq_of_lt h, BitVec.toNat_allOnes] at h1
  exact h1

theorem fold_xor (n : Int) (hn : Is64 n) : bits .xor .u64 (IntKind.u64.wrap (IntKind.u64.wrap n * 2)) (IntKind.u64.wrap (n / 9223372036854775808)) = ((foldI n : Nat) : Int) := by
  unfold Is64 at hn
  by_cases h : 0 ≤ n
  · have e1 : IntKind.u64.wrap (IntKind.u64.wrap n * 2) = (((2 * n).toNat : Nat) : Int) := by rw [IntKind.wrap_u64, IntKind.wrap_u64]; omega
    have e2 : IntKind.u64.wrap (n / 9223372036854775808) = ((0 : Nat) : Int) := by rw [IntKind.wrap_u64]; omega
    rw [e1, e2, bits_xor_u64_nat _ _ (by omega) (by omega), Nat.xor_zero]
    unfold foldI
    rw [if_pos h]
  · have e1 : IntKind.u64.wrap (IntKind.u64.wrap n * 2) = (((2 * n + 18446744073709551616).toNat : Nat) : Int) := by rw [IntKind.wrap_u64, IntKind.wrap_u64]; omega
    have e2 : IntKind.u64.wrap (n / 9223372036854775808) = ((18446744073709551615 : Nat) : Int) := by rw [IntKind.wrap_u64]; omega
    rw [e1, e2, bits_xor_u64_nat _ _ (by omega) (by omega), xor_ones _ (by omega)]
    unfold foldI
    rw [if_neg h]
    omega

theorem and_low (m : Nat) (h : m < 18446744073709551616) : bits .and .u64 (m : Int) 4294967295 = ((m % 4294967296 : Nat) : Int) := by
  have := bits_and_u64_nat m 4294967295 h (by omega)
  rw [show ((4294967295 : Nat) : Int) = 4294967295 from rfl] at this
  rw [this, show 4294967295 = 2 ^ 32 - 1 by decide, Nat.and_two_pow_sub_one_eq_mod]

theorem layInt_any (B : Nat) (v : Value) (l : List UInt8) (n : Int) (hn : Is64 n) (w : World) (hl : l.length ≤ 30000) (hB : B ≤ w.heap.size) (hown : Bs 5 B w v l) :
    Calls Try.prog 79 #[v, .int .i64 n] w (LaidPost B v (l ++ layI n) w) := by
  have hx := fold_xor n hn
  have hf := fold_lt hn
  have hlay : Hid (layI n = octN (foldI n / 4294967296) ++ octN (foldI n % 4294967296)) := Lib.hid rfl
  unfold Is64 at hn
  generalize foldI n = m at hx hf hlay
  have h1 : wrap64 ((m : Int) / 4294967296) = ((m / 4294967296 : Nat) : Int) := by
    unfold wrap64
    omega
  have h2 : wrap64 (bits .and .u64 (m : Int) 4294967295) = ((m % 4294967296 : Nat) : Int) := by
    rw [and_low m hf]
    unfold wrap64
    omega
  obtain ⟨p, hp⟩ : ∃ p, p = m / 4294967296 := ⟨_, rfl⟩
  obtain ⟨q, hq⟩ : ∃ q, q = m % 4294967296 := ⟨_, rfl⟩
  rw [← hp, ← hq] at hlay
  rw [← hp] at h1
  rw [← hq] at h2
  have hpb : p < 4294967296 := by omega
  have hqb : q < 4294967296 := by omega
  have n9 := octN_lt p (by omega)
  clear hp hq hf hn
  go_enter Try.func79, Try.ntmps79
  go_wp2_with fail
  refine (num_nat B v l p (by omega) w (by omega) hB hown).mono ?_
  rintro e w1 ⟨v1, rfl, hown1, hup1⟩
  have hz := hup1.1.size
  have hlen : (l ++ octN p).length < 140737488355000 := by rw [List.length_append]; omega
  go_wp2_with fail
  refine (num_nat B v1 _ q (by omega) w1 hlen (by omega) hown1).mono ?_
  rintro e w2 ⟨v2, rfl, hown2, hup2⟩
  go_wp2
  go_ret
  refine ⟨v2, rfl, ?_, hup1.trans hup2⟩
  rw [hlay.out, ← List.append_assoc]
  exact hown2

end Go.Proofs.Ytacphlceggbfcaa
