/-
  val's decoder: a number.
-/
import Derived.Test.YtacphlceggbfcaaValLay
import Derived.Test.YtacphlceggbfcaaRead3
namespace Go.Proofs.Ytacphlceggbfcaa
open Go.RowKit

theorem ofInt_nat (a : Nat) (ha : a < 18446744073709551616) : (BitVec.ofInt 64 (a : Int)).toNat = a := by
  rw [BitVec.ofInt_natCast, BitVec.toNat_ofNat]; exact Nat.mod_eq_of_lt ha

theorem xor_i64_zero (a : Nat) (ha : a < 9223372036854775808) : bits .xor .i64 (a : Int) 0 = a := by
  show IntKind.i64.wrap ((BitVec.ofInt 64 (a : Int) ^^^ BitVec.ofInt 64 0).toNat : Nat) = _
  rw [BitVec.toNat_xor, ofInt_nat a (by omega), show (BitVec.ofInt 64 0).toNat = 0 by decide, Nat.xor_zero, IntKind.wrap_i64]
  omega

theorem xor_i64_ones (a : Nat) (ha : a < 9223372036854775808) : bits .xor .i64 (a : Int) (-1) = -(a : Int) - 1 := by
  show IntKind.i64.wrap ((BitVec.ofInt 64 (a : Int) ^^^ BitVec.ofInt 64 (-1)).toNat : Nat) = _
  rw [BitVec.toNat_xor, ofInt_nat a (by omega), show (BitVec.ofInt 64 (-1)).toNat = 18446744073709551615 by decide, xor_ones a (by omega), IntKind.wrap_i64]
  omega

theorem and_one (m : Nat) (h : m < 18446744073709551616) : bits .and .u64 (m : Int) 1 = ((m % 2 : Nat) : Int) := by
  have := bits_and_u64_nat m 1 h (by omega)
  rw [show ((1 : Nat) : Int) = 1 from rfl] at this
  rw [this, Nat.and_one_is_mod]

theorem or_low (u o : Nat) (hu : u < 4294967296) (ho : o < 4294967296) : bits .or .u64 ((u : Int) * 4294967296) (o : Int) = ((u * 4294967296 + o : Nat) : Int) := by
  rw [show ((u : Int) * 4294967296) = ((u * 4294967296 : Nat) : Int) by omega, bits_or_u64_nat _ _ (by omega) (by omega)]
  congr 1
  have := Nat.two_pow_add_eq_or_of_lt (i := 32) (b := o) ho u
  rw [show u * 4294967296 = 2 ^ 32 * u by omega]
  exact this.symm

def NumIPost (o : Option (Int × L8)) (b : Nat) (w : World) (e : Ending) (w' : World) : Prop :=
  (o = none ∧ (∃ n, e = .returned (.int .i64 n)) ∧ Goes w b ⟨#[]⟩ true w') ∨ ∃ n r, o = some (n, r) ∧ e = .returned (.int .i64 n) ∧ Goes w b ⟨r.toArray⟩ false w'

theorem unfold_xor (m : Nat) (h : m < 18446744073709551616) : bits .xor .i64 ((m : Int) / 2) (-((m : Int) % 2)) = unfoldI m := by
  rw [show (m : Int) / 2 = ((m / 2 : Nat) : Int) by omega, show (m : Int) % 2 = ((m % 2 : Nat) : Int) by omega]
  unfold unfoldI
  rcases Nat.mod_two_eq_zero_or_one m with e | e
  · rw [e, if_pos rfl]
    exact xor_i64_zero _ (by omega)
  · rw [e, if_neg (by omega)]
    exact xor_i64_ones _ (by omega)

theorem num_read32 (b : Nat) (bad : Bool) (l : L8) (w : World) (h : Rd w b ⟨l.toArray⟩ bad) :
    Calls Try.prog 59 #[.pointer (some ⟨b, 0, none⟩), .int .i64 4294967295] w (ReadPost (.int .i64 0) (fun v : Nat => .int .i64 (v : Int)) (numRead l 4294967295) b bad w) :=
  num_read b bad l 4294967295 (by omega) w h

set_option maxHeartbeats 1000000 in
set_option maxRecDepth 100000 in
theorem number_dec (b : Nat) (l : L8) (w : World) (h : Rd w b ⟨l.toArray⟩ false) :
    Calls Try.prog 82 #[.agg #[.pointer (some ⟨b, 0, none⟩)]] w (NumIPost (numI l) b w) := by
  have hbl := h.lt
  have hbx : Goes w b ⟨l.toArray⟩ false (w.alloc (.cells #[.pointer (some ⟨b, 0, none⟩)] 85)) := (Goes.refl h).below ((Below.refl _ w).alloc (Nat.le_refl _) _)
  have hc : (w.alloc (.cells #[.pointer (some ⟨b, 0, none⟩)] 85)).cell? ⟨w.heap.size, 0, none⟩ = some (.pointer (some ⟨b, 0, none⟩)) := by simp
  have hne : some w.heap.size ≠ some b := by intro e; injection e with e; omega
  have hn1 := num_read32 b false l _ hbx.1
  have HC := Lib.hid hc
  have HNE := Lib.hid hne
  clear hc hne
  go_enter Try.func82, Try.ntmps82
  go_wp2_with fail
  refine hn1.mono ?_
  rintro e w1 (⟨ho, rfl, hg⟩ | ⟨u, r1, ho, rfl, hg⟩)
  · have HO : Hid (numI l = none) := Lib.hid (by unfold numI; rw [ho])
    have hk := hg.2.cell HC.out HNE.out
    have hn2 := num_empty b true 4294967295 w1 hg.1
    have z1 : bits .or .u64 0 0 = 0 := by decide
    have z2 : bits .and .u64 0 1 = 0 := by decide
    have z3 : bits .xor .i64 0 0 = 0 := by decide
    clear hn1 ho
    go_wp2_with fail
    refine hn2.mono ?_
    rintro e w2 ⟨rfl, hg2⟩
    clear hn2
    go_wp2
    go_ret
    exact .inl ⟨HO.out, ⟨_, rfl⟩, (hbx.trans hg).trans hg2⟩
  · have hub := (numRead_len ho).2
    have hk := hg.2.cell HC.out HNE.out
    have hn2 := num_read32 b false r1 w1 hg.1
    have hw1 : IntKind.u64.wrap (u : Int) = (u : Int) := by rw [IntKind.wrap_u64]; omega
    have hw2 : IntKind.u64.wrap ((u : Int) * 4294967296) = (u : Int) * 4294967296 := by rw [IntKind.wrap_u64]; omega
    have HW := Lib.hid (And.intro hw1 hw2)
    clear hn1 hw1 hw2
    go_wp2_with fail
    refine hn2.mono ?_
    rintro e w2 (⟨ho2, rfl, hg2⟩ | ⟨o, r2, ho2, rfl, hg2⟩)
    · have HO : Hid (numI l = none) := Lib.hid (by unfold numI; rw [ho]; simp only; rw [ho2])
      clear hn2 ho ho2
      go_wp2
      go_ret
      exact .inl ⟨HO.out, ⟨_, rfl⟩, (hbx.trans hg).trans hg2⟩
    · have hob := (numRead_len ho2).2
      have HO : Hid (numI l = some (unfoldI (u * 4294967296 + o), r2)) := Lib.hid (by unfold numI; rw [ho]; simp only; rw [ho2])
      have hor := or_low u o (by omega) (by omega)
      obtain ⟨m, hm⟩ : ∃ m, m = u * 4294967296 + o := ⟨_, rfl⟩
      rw [← hm] at hor HO
      have hmb : m < 18446744073709551616 := by omega
      have hand := and_one m hmb
      have hux := unfold_xor m hmb
      generalize unfoldI m = n at HO hux
      clear hn2 ho ho2 hm
      go_wp2
      go_ret
      exact .inr ⟨n, r2, HO.out, rfl, (hbx.trans hg).trans hg2⟩

end Go.Proofs.Ytacphlceggbfcaa
