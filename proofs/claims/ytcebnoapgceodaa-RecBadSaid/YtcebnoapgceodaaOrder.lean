/-
  The order of numbers' bytes; masks of ints. Plain facts.
-/
import Derived.WalkKit
import Derived.Test.YtcebnoapgceodaaBytes
namespace Go.Proofs.Ytcebnoapgceodaa

theorem and_mask62 (n : Int) : bits .and .i64 n 4611686018427387903 = n % 4611686018427387904 := by
  have hc : (BitVec.ofInt 64 4611686018427387903).toNat = 2 ^ 62 - 1 := by decide
  have key : (BitVec.ofInt 64 n &&& BitVec.ofInt 64 4611686018427387903).toNat = (n % ((2 ^ 64 : Nat) : Int)).toNat % 2 ^ 62 := by
    rw [BitVec.toNat_and, BitVec.toNat_ofInt, hc, Nat.and_two_pow_sub_one_eq_mod]
  show IntKind.i64.wrap ((BitVec.ofInt 64 n &&& BitVec.ofInt 64 4611686018427387903).toNat : Nat) = n % 4611686018427387904
  rw [key, IntKind.wrap_i64]
  omega

theorem and_mask24 (n : Int) : bits .and .i64 n 16777215 = n % 16777216 := by
  have hc : (BitVec.ofInt 64 16777215).toNat = 2 ^ 24 - 1 := by decide
  have key : (BitVec.ofInt 64 n &&& BitVec.ofInt 64 16777215).toNat = (n % ((2 ^ 64 : Nat) : Int)).toNat % 2 ^ 24 := by
    rw [BitVec.toNat_and, BitVec.toNat_ofInt, hc, Nat.and_two_pow_sub_one_eq_mod]
  show IntKind.i64.wrap ((BitVec.ofInt 64 n &&& BitVec.ofInt 64 16777215).toNat : Nat) = n % 16777216
  rw [key, IntKind.wrap_i64]
  omega

theorem and_mask16 (n : Int) : bits .and .i64 n 65535 = n % 65536 := by
  have hc : (BitVec.ofInt 64 65535).toNat = 2 ^ 16 - 1 := by decide
  have key : (BitVec.ofInt 64 n &&& BitVec.ofInt 64 65535).toNat = (n % ((2 ^ 64 : Nat) : Int)).toNat % 2 ^ 16 := by
    rw [BitVec.toNat_and, BitVec.toNat_ofInt, hc, Nat.and_two_pow_sub_one_eq_mod]
  show IntKind.i64.wrap ((BitVec.ofInt 64 n &&& BitVec.ofInt 64 65535).toNat : Nat) = n % 65536
  rw [key, IntKind.wrap_i64]
  omega

theorem and_mask2 (n : Int) : bits .and .i64 n 3 = n % 4 := by
  have hc : (BitVec.ofInt 64 3).toNat = 2 ^ 2 - 1 := by decide
  have key : (BitVec.ofInt 64 n &&& BitVec.ofInt 64 3).toNat = (n % ((2 ^ 64 : Nat) : Int)).toNat % 2 ^ 2 := by
    rw [BitVec.toNat_and, BitVec.toNat_ofInt, hc, Nat.and_two_pow_sub_one_eq_mod]
  show IntKind.i64.wrap ((BitVec.ofInt 64 n &&& BitVec.ofInt 64 3).toNat : Nat) = n % 4
  rw [key, IntKind.wrap_i64]
  omega

theorem osz_mono (p q : Nat) (h : p ≤ q) (hq : q < 2 ^ 64) : osz p ≤ osz q :=
  (osz_le p (osz q) (by omega) (osz_le8 q hq)).2 (by have := lt_osz q hq; omega)

theorem be_mod (j n : Nat) : be j (n % 256 ^ j) = be j n := by
  have h := be_val (be j n) 0
  rw [be_length, val_be] at h
  simpa using h

theorem be_less : ∀ (j p q : Nat), p < q → q < 256 ^ j → Op.bytesLess (be j p) (be j q) = true
  | 0, p, q, h, hq => by simp at hq; omega
  | j + 1, p, q, h, hq => by
    have hp : 0 < 256 ^ j := Nat.pow_pos (by omega)
    have hq1 : q / 256 ^ j < 256 := by rw [Nat.div_lt_iff_lt_mul hp, Nat.mul_comm, ← Nat.pow_succ]; exact hq
    have hpq : p / 256 ^ j ≤ q / 256 ^ j := Nat.div_le_div_right (by omega)
    simp only [be, Op.bytesLess, Bool.or_eq_true, Bool.and_eq_true, decide_eq_true_eq, beq_iff_eq]
    rcases Nat.lt_or_ge (p / 256 ^ j) (q / 256 ^ j) with hh | hh
    · left
      generalize p / 256 ^ j = x at *
      generalize q / 256 ^ j = y at *
      rw [UInt8.lt_iff_toNat_lt]
      simp
      omega
    · right
      have e : p / 256 ^ j = q / 256 ^ j := by omega
      refine ⟨by rw [e], ?_⟩
      rw [← be_mod j p, ← be_mod j q]
      have h1 := Nat.div_add_mod p (256 ^ j)
      have h2 := Nat.div_add_mod q (256 ^ j)
      rw [e] at h1
      exact be_less j _ _ (by omega) (Nat.mod_lt _ hp)

theorem octN_less (p q : Nat) (h : p < q) (hq : q < 2 ^ 64) : Op.bytesLess (octN p) (octN q) = true := by
  have hm := osz_mono p q (by omega) hq
  have h8 := osz_le8 q hq
  simp only [octN, Op.bytesLess, Bool.or_eq_true, Bool.and_eq_true, decide_eq_true_eq, beq_iff_eq]
  rcases Nat.lt_or_ge (osz p) (osz q) with hh | hh
  · left
    rw [UInt8.lt_iff_toNat_lt]
    simp
    omega
  · right
    have e : osz p = osz q := by omega
    rw [e]
    exact ⟨rfl, be_less _ _ _ h (lt_osz q hq)⟩

theorem octN_inj (p q : Nat) (hp : p < 2 ^ 64) (hq : q < 2 ^ 64) (h : octN p = octN q) : p = q := by
  simp only [octN, List.cons.injEq] at h
  have h1 := osz_le8 p hp
  have h2 := osz_le8 q hq
  have e : osz p = osz q := by
    have := congrArg UInt8.toNat h.1
    simp at this
    omega
  have h3 := congrArg val h.2
  rw [val_be_osz p hp, val_be_osz q hq] at h3
  exact h3

end Go.Proofs.Ytcebnoapgceodaa
