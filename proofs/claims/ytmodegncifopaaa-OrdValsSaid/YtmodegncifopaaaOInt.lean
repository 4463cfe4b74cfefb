/-
  ord.Int: what it lays.
-/
import Derived.Test.YtmodegncifopaaaOText
namespace Go.Proofs.Ytmodegncifopaaa
open Go.RowKit

theorem xor_top (x : Nat) (h : x < 2 ^ 64) : x ^^^ 2 ^ 63 = (2 ^ 63 + x) % 2 ^ 64 := by
  apply Nat.eq_of_testBit_eq
  intro i
  rw [Nat.testBit_xor, Nat.testBit_mod_two_pow, Nat.testBit_two_pow]
  by_cases h1 : i < 64
  · by_cases h2 : i = 63
    · subst h2
      rw [Nat.testBit_two_pow_add_eq]
      simp
    · rw [Nat.testBit_two_pow_add_gt (by omega)]
      have h3 : ¬ 63 = i := by omega
      simp [h1, h3]
  · have h3 : x.testBit i = false := Nat.testBit_lt_two_pow (Nat.lt_of_lt_of_le h (Nat.pow_le_pow_right (by omega) (by omega)))
    have h4 : ¬ 63 = i := by omega
    simp [h1, h3, h4]

theorem xor_u64 (x : Nat) (h : x < 18446744073709551616) : bits .xor .u64 (x : Int) 9223372036854775808 = (((9223372036854775808 + x) % 18446744073709551616 : Nat) : Int) := by
  have hc : (BitVec.ofInt 64 9223372036854775808).toNat = 2 ^ 63 := by decide
  have hx : (BitVec.ofInt 64 (x : Int)).toNat = x := by
    rw [BitVec.ofInt_natCast, BitVec.toNat_ofNat]; exact Nat.mod_eq_of_lt h
  show IntKind.u64.wrap ((BitVec.ofInt 64 (x : Int) ^^^ BitVec.ofInt 64 9223372036854775808).toNat : Nat) = _
  rw [BitVec.toNat_xor, hc, hx, xor_top x h, IntKind.wrap_u64]
  omega

theorem xor_high (n : Int) (h : Is64 n) : bits .xor .u64 (IntKind.u64.wrap n) 9223372036854775808 = (((n + 9223372036854775808).toNat : Nat) : Int) := by
  unfold Is64 at h
  have e : IntKind.u64.wrap n = (((n % 18446744073709551616).toNat : Nat) : Int) := by rw [IntKind.wrap_u64]; omega
  rw [e, xor_u64 _ (by omega)]
  omega

theorem byte_shr8 (m e : Nat) : UInt8.ofNat (((m : Int) / 2 ^ (8 * e) % 256).toNat) = UInt8.ofNat (m / 256 ^ e) := by
  have h : ((m : Int) / 2 ^ (8 * e) % 256) = ((m / 256 ^ e % 256 : Nat) : Int) := by
    rw [pow256]; simp
  rw [h, Int.toNat_natCast]
  apply UInt8.toNat_inj.1
  simp

set_option maxHeartbeats 1000000 in
theorem oint_any (B : Nat) (v : Value) (l : List UInt8) (n : Int) (hn : Is64 n) (w : World) (hl : l.length < 140737488355000) (hB : B ≤ w.heap.size) (hown : Bs 5 B w v l) :
    Calls Try.prog 63 #[v, .int .i64 n] w (LaidPost B v (l ++ oI n) w) := by
  have hx := xor_high n hn
  have hm : Hid (oI n = be 8 (n + 9223372036854775808).toNat) := Lib.hid rfl
  unfold Is64 at hn
  obtain ⟨h1, h2⟩ := hn
  have h3 : (n + 9223372036854775808).toNat < 18446744073709551616 := by omega
  generalize (n + 9223372036854775808).toNat = m at hx hm h3
  go_enter Try.func63, Try.ntmps63
  go_wp2
  go_loopw [0, 10] (fun x c wr => ∃ k : Nat, k ≤ 8 ∧ c = .int .i64 k ∧ Bs 5 B wr x (l ++ (be 8 m).take k) ∧ Up w v wr x) (fun _ c _ => 8 - (intOf c).toNat)
  case atStart => exact ⟨0, Nat.zero_le _, rfl, by simpa using hown, Up.refl w v⟩
  case round =>
    obtain ⟨k, hk, rfl, hownk, hupk⟩ := hrel
    have hBk := hupk.1.size
    have hlk : (l ++ (be 8 m).take k).length < 140737488355328 := by
      simp [be_length]; omega
    clear hx
    by_cases hlt : k < 8
    · have hsn := byte_shr8 m (7 - k)
      have htk := be_take 8 m k hlt
      have HT := Lib.hid htk
      have HS := Lib.hid hsn
      clear htk hsn
      go_wp2_with (at_builtin; refine wpList_app1 _ rfl (.tmp 13) (.tmp 20) 58 rfl 5 B Try.underlying58 infoB _ _ rfl hownk _ _ rfl (by omega) (by omega) hlk (by omega) ?_; intro v2 w2 hown2 hup2)
      go_roundw
      case rel =>
        refine ⟨k + 1, by omega, by go_num, ?_, hupk.trans hup2⟩
        rw [HT.out, ← List.append_assoc]
        rw [HS.out] at hown2
        exact hown2
      case measure => simp [intOf]; omega
    · go_wp2
      go_ret
      refine ⟨u0, rfl, ?_, hupk⟩
      have e : (be 8 m).take k = be 8 m := List.take_of_length_le (by rw [be_length]; omega)
      rw [hm.out, ← e]
      exact hownk

end Go.Proofs.Ytmodegncifopaaa
