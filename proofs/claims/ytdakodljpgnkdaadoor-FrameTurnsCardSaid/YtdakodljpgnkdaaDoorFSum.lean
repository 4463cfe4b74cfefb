/-
  frame.Sum: the sum of a text; it reads its table, and writes nothing.
-/
import Derived.Test.YtdakodljpgnkdaaDoorProg
import Derived.WalkKit
import Derived.Lib.Hide
import Derived.Test.YtdakodljpgnkdaaDoorOwn
import Derived.Test.YtdakodljpgnkdaaDoorFCrc
namespace Go.Proofs.YtdakodljpgnkdaaDoor
open Go.RowKit

/-- the table lies where the program has it -/
def Tab (w : World) : Prop := ∀ k : Nat, k < 16 → w.cell? ⟨0, k, none⟩ = some (.int .u32 (tabN k : Nat))

theorem Tab.lt {w : World} (h : Tab w) : 0 < w.heap.size := World.block_lt_of_cell? w _ (h 0 (by omega))
theorem Tab.below {w w' : World} {B : Nat} (h : Tab w) (hb : Below B w w') (hB : 0 < B) : Tab w' := fun k hk => (hb.cell (p := ⟨_, k, none⟩) hB).trans (h k hk)

theorem and15 (s : Nat) (h : s < 4294967296) : bits .and .u32 (s : Int) 15 = ((s % 16 : Nat) : Int) := by
  have := u32_and_nat s 15 h (by omega)
  rw [show ((15 : Nat) : Int) = 15 from rfl] at this
  rw [this, nat_mask4]

theorem nib_int (s : Nat) (h : s < 4294967296) : bits .xor .u32 ((s : Int) / 16) ((tabN (s % 16) : Nat) : Int) = ((nib s : Nat) : Int) := by
  rw [show (s : Int) / 16 = ((s / 16 : Nat) : Int) by omega]
  exact u32_xor_nat _ _ (by omega) (tabN_lt _ (by omega))

theorem take_snoc (s : ByteArray) (k : Nat) (h : k < s.size) : s.data.toList.take (k + 1) = s.data.toList.take k ++ [s[k]] := by
  rw [List.take_succ_eq_append_getElem (by simpa using h)]; rfl

set_option maxHeartbeats 1000000 in
theorem sum_any (s : ByteArray) (hs : s.size ≤ maxLen) (w : World) (hT : Tab w) :
    Calls Tryd.prog 14 #[.string s] w fun e w' => e = .returned (.int .u32 (crc s.data.toList : Nat)) ∧ w = w' := by
  have hmx : s.size ≤ 9223372036854775807 := hs
  go_enter Tryd.func14, Tryd.ntmps14
  go_wp2
  go_loop [3, 7] (fun x c => ∃ k : Nat, k ≤ s.size ∧ c = .int .i64 k ∧ x = .int .u32 (run 4294967295 (s.data.toList.take k) : Nat)) (fun _ c => s.size - (intOf c).toNat)
  case atStart => exact ⟨0, Nat.zero_le _, rfl, rfl⟩
  case round =>
    obtain ⟨k, hk, rfl, rfl⟩ := hrel
    have hlt32 := run_lt (s.data.toList.take k) 4294967295 (by omega)
    by_cases hlt : k < s.size
    · have hsn := run_snoc (s.data.toList.take k) (s[k]'hlt) 4294967295
      rw [← take_snoc s k hlt] at hsn
      generalize run 4294967295 (s.data.toList.take k) = x at hsn hlt32
      have hb := (s[k]'hlt).toNat_lt
      have hx := u32_xor_nat x (s[k]'hlt).toNat hlt32 (by omega)
      have hy32 : x ^^^ (s[k]'hlt).toNat < 4294967296 := Nat.xor_lt_two_pow (n := 32) (by omega) (by omega)
      have hn1 := nib_lt _ hy32
      have a1 := and15 _ hy32
      have b1 := nib_int _ hy32
      have c1 := hT ((x ^^^ (s[k]'hlt).toNat) % 16) (by omega)
      have a2 := and15 _ hn1
      have b2 := nib_int _ hn1
      have c2 := hT (nib (x ^^^ (s[k]'hlt).toNat) % 16) (by omega)
      have HS := Lib.hid hsn
      clear hsn
      go_wp2
      go_round
      case rel => exact ⟨k + 1, by omega, by go_num, by rw [HS.out]; rfl⟩
      case measure => simp [intOf]; omega
    · have e : s.data.toList.take k = s.data.toList := List.take_of_length_le (by simp; omega)
      rw [e] at hlt32 ⊢
      have hc : ((crc s.data.toList : Nat) : Int) = ((run 4294967295 s.data.toList ^^^ 4294967295 : Nat) : Int) := rfl
      obtain ⟨y, hy⟩ : ∃ y, y = crc s.data.toList := ⟨_, rfl⟩
      rw [← hy] at hc
      generalize run 4294967295 s.data.toList = x at hc hlt32 ⊢
      have HY := Lib.hid hy
      clear e
      have hx : bits .xor .u32 IntKind.u32.max (x : Int) = ((y : Nat) : Int) := by
        have h := u32_xor_nat 4294967295 x (by omega) hlt32
        rw [Nat.xor_comm] at h
        rw [hc]
        exact h
      have HC := Lib.hid hc
      clear hc hy
      go_wp2
      go_ret
      exact ⟨by rw [← HY.out]; rfl, rfl⟩

end Go.Proofs.YtdakodljpgnkdaaDoor
