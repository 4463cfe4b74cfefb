/-
  FrameNests: for every text and every int the law's function returns true, and writes nothing that was there.
-/
import Derived.Test.YtdakodljpgnkdaaDoorFHd
namespace Go.Proofs.YtdakodljpgnkdaaDoor
open Go.RowKit
theorem and_mask4 (n : Int) : bits .and .i64 n 15 = n % 16 := by
  have hc : (BitVec.ofInt 64 15).toNat = 2 ^ 4 - 1 := by decide
  have key : (BitVec.ofInt 64 n &&& BitVec.ofInt 64 15).toNat = (n % ((2 ^ 64 : Nat) : Int)).toNat % 2 ^ 4 := by
    rw [BitVec.toNat_and, BitVec.toNat_ofInt, hc, Nat.and_two_pow_sub_one_eq_mod]
  show IntKind.i64.wrap ((BitVec.ofInt 64 n &&& BitVec.ofInt 64 15).toNat : Nat) = n % 16
  rw [key, IntKind.wrap_i64]
  omega
end Go.Proofs.YtdakodljpgnkdaaDoor
namespace Go.Proofs.YtdakodljpgnkdaaDoor.frameNests
open Go.RowKit

def nest (s : List UInt8) : Nat → List UInt8
  | 0 => s
  | k + 1 => frm (nest s k)

theorem nest_length (s : List UInt8) : ∀ k, (nest s k).length = s.length + 12 * k
  | 0 => rfl
  | k + 1 => by rw [nest, frm_length, nest_length s k]; omega

theorem walk_long (s : ByteArray) (n : Int) (w : World) (hT : Tab w) (hs : 200 < s.size) :
    Calls Tryd.prog 7 #[.string s, .int .i64 n] w fun e w' => e = .returned (.bool true) ∧ Below w.heap.size w w' := by
  have hs' : (200 : Int) < (s.size : Int) := by omega
  go_enter Tryd.func7, Tryd.ntmps7
  go_wp2_with fail
  refine (head_any _ hT).mono ?_
  rintro e w1 ⟨rfl, hb1⟩
  go_wp2
  go_ret
  exact ⟨rfl, hb1⟩

set_option maxHeartbeats 1000000 in
theorem walk_few (l : List UInt8) (n : Int) (m : Nat) (hm : n % 16 = (m : Int)) (w : World) (hT : Tab w) (hs : l.length ≤ 200) :
    Calls Tryd.prog 7 #[.string ⟨l.toArray⟩, .int .i64 n] w fun e w' => e = .returned (.bool true) ∧ Below w.heap.size w w' := by
  have hsz : (⟨l.toArray⟩ : ByteArray).size = l.length := size_arr l
  have hs' : ¬ (200 : Int) < (((⟨l.toArray⟩ : ByteArray).size : Nat) : Int) := by omega
  have hmask := and_mask4 n
  rw [hm] at hmask
  have hm16 : m < 16 := by omega
  have h0 := hT.lt
  have HSZ := Lib.hid hsz
  clear hsz hm
  go_enter Tryd.func7, Tryd.ntmps7
  go_wp2_with fail
  refine (head_any _ hT).mono ?_
  rintro e w1 ⟨rfl, hb1⟩
  have hT1 := hT.below hb1 h0
  go_wp2
  go_loopw [5, 6] (fun t c wr => ∃ k : Nat, k ≤ m ∧ c = .int .i64 k ∧ t = .string ⟨(nest l k).toArray⟩ ∧ Below w.heap.size w wr) (fun _ c _ => m - (intOf c).toNat)
  case atStart => exact ⟨0, Nat.zero_le _, rfl, rfl, hb1⟩
  case round =>
    obtain ⟨k, hk, rfl, rfl, hb⟩ := hrel
    have hTr := hT.below hb h0
    have hl := nest_length l k
    have hl1 := nest_length l (k + 1)
    by_cases hlt : k < m
    · have hp := put_ok ⟨(nest l k).toArray⟩ (by rw [size_arr]; omega) wr hTr
      have e1 : frm (⟨(nest l k).toArray⟩ : ByteArray).data.toList = nest l (k + 1) := rfl
      rw [e1] at hp
      have z1 : (⟨(nest l k).toArray⟩ : ByteArray).size = l.length + 12 * k := by rw [size_arr, hl]
      have z2 : (⟨(nest l (k + 1)).toArray⟩ : ByteArray).size = l.length + 12 * (k + 1) := by rw [size_arr, hl1]
      generalize (⟨(nest l k).toArray⟩ : ByteArray) = X at hp z1
      generalize hY : (⟨(nest l (k + 1)).toArray⟩ : ByteArray) = Y at hp z2
      have HY := Lib.hid hY
      have ez : (Y.size : Int) = (X.size : Int) + 12 := by omega
      have eb : (X.size : Int) ≤ 1000 := by omega
      have eX : (0 : Int) ≤ (X.size : Int) := by omega
      have hn : ((Y.size : Int) != (X.size : Int) + 12) = false := by rw [ez]; simp
      clear hY z1 z2 hl hl1 ez e1
      go_wp2_with fail
      refine hp.mono ?_
      rintro e w2 ⟨rfl, hb2⟩
      go_wp2
      go_roundw
      case rel => exact ⟨k + 1, by omega, by go_num, by rw [HY.out], hb.trans (hb2.mono hb.size)⟩
      case measure => simp [intOf]; omega
    · have ek : k = m := by omega
      subst ek
      clear hk hlt hl hl1 hb1 hT1
      go_wp2
      go_loopw [5, 9] (fun t c wr => ∃ j : Nat, j ≤ k ∧ c = .int .i64 j ∧ t = .string ⟨(nest l (k - j)).toArray⟩ ∧ Below w.heap.size w wr) (fun _ c _ => k - (intOf c).toNat)
      case atStart => exact ⟨0, Nat.zero_le _, rfl, rfl, hb⟩
      case round =>
        obtain ⟨j, hj, rfl, rfl, hbj⟩ := hrel
        have hTj := hT.below hbj h0
        by_cases hlj : j < k
        · have hn : nest l (k - j) = frm (nest l (k - (j + 1))) := by
            rw [show k - j = (k - (j + 1)) + 1 by omega]; rfl
          have hl := nest_length l (k - (j + 1))
          have hg := get_of ⟨(nest l (k - j)).toArray⟩ (nest l (k - (j + 1))) (by rw [hn]; exact opens_whole _ (by omega)) wr hTj
          have z1 : (⟨(nest l (k - j)).toArray⟩ : ByteArray).size = 12 + (nest l (k - (j + 1))).length := by rw [size_arr, hn, frm_length]; omega
          generalize (⟨(nest l (k - j)).toArray⟩ : ByteArray) = X at hg z1
          generalize hY : (⟨(nest l (k - (j + 1))).toArray⟩ : ByteArray) = Y at hg
          have HY := Lib.hid hY
          rw [← z1] at hg
          have hne : ((X.size : Int) != (X.size : Int)) = false := by simp
          clear hY hn hl z1
          go_wp2_with fail
          refine hg.mono ?_
          rintro e w2 ⟨hb2, rfl⟩
          go_wp2
          go_roundw
          case rel => exact ⟨j + 1, by omega, by go_num, by rw [HY.out], hbj.trans (hb2.mono hbj.size)⟩
          case measure => simp [intOf]; omega
        · have ej : j = k := by omega
          subst ej
          rw [Nat.sub_self]
          have e : nest l 0 = l := rfl
          rw [e]
          clear e hj hlj hb
          go_wp2
          go_ret
          exact ⟨rfl, hbj⟩

theorem walk (s : ByteArray) (_w0 : s.size ≤ maxLen) (n : Int) (_w1 : (Lit.int .i64 n).wf = true) (w : World) (hT : Tab w) :
    Calls Tryd.prog 7 #[.string s, .int .i64 n] w fun e w' => e = .returned (.bool true) ∧ Below w.heap.size w w' := by
  by_cases h : 200 < s.size
  · exact walk_long s n w hT h
  · obtain ⟨⟨l⟩⟩ := s
    have hl : (⟨⟨l⟩⟩ : ByteArray).size = l.length := rfl
    exact walk_few l n (n % 16).toNat (by omega) w hT (by omega)

end Go.Proofs.YtdakodljpgnkdaaDoor.frameNests
