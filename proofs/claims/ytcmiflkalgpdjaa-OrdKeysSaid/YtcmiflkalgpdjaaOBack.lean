/-
  ord.Number: the number of eight bytes; the law's functions by, begins, sign; ord.After.
-/
import Derived.Test.YtcmiflkalgpdjaaOInt
namespace Go.Proofs.Ytcmiflkalgpdjaa
open Go.RowKit

theorem or_byte8 (x b : Nat) (hx : x < 72057594037927936) (hb : b < 256) : bits .or .u64 ((x : Int) * 256) (b : Int) = ((x * 256 + b : Nat) : Int) := by
  rw [show ((x : Int) * 256) = ((x * 256 : Nat) : Int) by omega]
  rw [bits_or_u64_nat (x * 256) b (by omega) (by omega)]
  congr 1
  have := Nat.two_pow_add_eq_or_of_lt (i := 8) (b := b) hb x
  rw [Nat.mul_comm x 256]
  exact this.symm

theorem take_snoc8 (s : ByteArray) (k : Nat) (h : k < s.size) : s.data.toList.take (k + 1) = s.data.toList.take k ++ [s[k]] := by
  rw [List.take_succ_eq_append_getElem (by simpa using h)]; rfl

theorem val_take_lt8 (s : ByteArray) (k : Nat) (hk : k ≤ 7) : val (s.data.toList.take k) < 72057594037927936 := by
  have h1 := val_lt (s.data.toList.take k)
  have h2 : (s.data.toList.take k).length ≤ 7 := by simp; omega
  have h3 : 256 ^ (s.data.toList.take k).length ≤ 256 ^ 7 := Nat.pow_le_pow_right (by omega) h2
  omega

theorem xor_back (m : Nat) (h : m < 18446744073709551616) : IntKind.i64.wrap (bits .xor .u64 (m : Int) 9223372036854775808) = (m : Int) - 9223372036854775808 := by
  rw [xor_u64 m h, IntKind.wrap_i64]
  omega

set_option maxHeartbeats 1000000 in
theorem number_any (s : ByteArray) (h8 : s.size = 8) (w : World) :
    Calls Try.prog 18 #[.string s] w fun e w' => e = .returned (.tuple #[.int .i64 (unI s.data.toList), .bool true]) ∧ w = w' := by
  have hu : Hid (unI s.data.toList = (val s.data.toList : Int) - 9223372036854775808) := Lib.hid rfl
  go_enter Try.func18, Try.ntmps18
  go_wp2
  go_loop [4, 9] (fun x c => ∃ k : Nat, k ≤ 8 ∧ c = .int .i64 k ∧ x = .int .u64 (val (s.data.toList.take k))) (fun _ c => 8 - (intOf c).toNat)
  case atStart => exact ⟨0, Nat.zero_le _, rfl, rfl⟩
  case round =>
    obtain ⟨k, hk, rfl, rfl⟩ := hrel
    by_cases hlt : k < 8
    · have hx := val_take_lt8 s k (by omega)
      have hsn := val_snoc (s.data.toList.take k) (s[k]'(by omega))
      rw [← take_snoc8 s k (by omega)] at hsn
      have hb := (s[k]'(by omega)).toNat_lt
      obtain ⟨x, ex⟩ : ∃ x, x = val (s.data.toList.take k) := ⟨_, rfl⟩
      rw [← ex] at hx hsn ⊢
      have HS := Lib.hid hsn
      clear hsn ex
      have hor := or_byte8 x (s[k]'(by omega)).toNat hx (by omega)
      go_wp2
      go_round
      case rel => exact ⟨k + 1, by omega, by go_num, by rw [HS.out]; go_num⟩
      case measure => simp [intOf]; omega
    · have e : s.data.toList.take k = s.data.toList := List.take_of_length_le (by simp; omega)
      rw [e]
      have hv := val_lt s.data.toList
      have hl : s.data.toList.length = 8 := by rw [Array.length_toList]; exact h8
      rw [hl] at hv
      have hxb := xor_back (val s.data.toList) (by omega)
      have e2 : Ending.returned (.tuple #[.int .i64 (unI s.data.toList), .bool true]) = .returned (.tuple #[.int .i64 ((val s.data.toList : Int) - 9223372036854775808), .bool true]) := by rw [hu.out]
      have E2 := Lib.hid e2
      clear e hl e2
      go_wp2
      go_ret2
      exact ⟨E2.out.symm, rfl⟩

theorem number_none (s : ByteArray) (h8 : s.size ≠ 8) (w : World) :
    Calls Try.prog 18 #[.string s] w fun e w' => e = .returned (.tuple #[.int .i64 0, .bool false]) ∧ w = w' := by
  have h8' : ((s.size : Int) == 8) = false := by rw [beq_eq_false_iff_ne]; omega
  have h8'' : ((s.size : Int) != 8) = true := by rw [bne, h8']; rfl
  go_enter Try.func18, Try.ntmps18
  go_wp2
  go_ret2
  exact ⟨rfl, rfl⟩

/-- the law's order of texts -/
theorem by_any (s t : ByteArray) (w : World) :
    Calls Try.prog 12 #[.string s, .string t] w fun e w' => e = .returned (.int .i64 (cmpL s.data.toList t.data.toList)) ∧ w = w' := by
  rcases lt_tri s.data.toList t.data.toList with h | h | h
  · have e1 : Op.bytesLess s.toList t.toList = true := by rw [Proofs.bytesLess_eq, Lib.toList_data, Lib.toList_data]; exact decide_eq_true h
    have hc := cmpL_lt h
    clear h
    go_enter Try.func12, Try.ntmps12
    go_wp2
    go_ret
    exact ⟨by rw [hc]; rfl, rfl⟩
  · have e1 : Op.bytesLess s.toList t.toList = false := by rw [Proofs.bytesLess_eq, Lib.toList_data, Lib.toList_data, h]; exact decide_eq_false (lt_irr _)
    have e2 : (s.toList == t.toList) = true := by rw [Lib.toList_data, Lib.toList_data, h]; simp
    have hc : cmpL s.data.toList t.data.toList = 0 := cmpL_zero.2 h
    clear h
    go_enter Try.func12, Try.ntmps12
    go_wp2
    go_ret
    exact ⟨by rw [hc]; rfl, rfl⟩
  · have e1 : Op.bytesLess s.toList t.toList = false := by rw [Proofs.bytesLess_eq, Lib.toList_data, Lib.toList_data]; exact decide_eq_false (lt_asym h)
    have e2 : (s.toList == t.toList) = false := by
      rw [Lib.toList_data, Lib.toList_data, beq_eq_false_iff_ne]; intro e; rw [e] at h; exact lt_irr _ h
    have hc := cmpL_gt h
    clear h
    go_enter Try.func12, Try.ntmps12
    go_wp2
    go_ret
    exact ⟨by rw [hc]; rfl, rfl⟩

end Go.Proofs.Ytcmiflkalgpdjaa
