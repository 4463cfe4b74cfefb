/-
  The law's own way of laying a number (num): the same bytes, as a text.
-/
import Derived.Test.YtecejmefnbejhaaOrder
import Derived.Test.YtecejmefnbejhaaNum
namespace Go.Proofs.Ytecejmefnbejhaa
open Go.RowKit

/-- 'string([]byte{x})' -/
theorem conv_one {P : Program} (w : World) (src dst e : TypeId) (hs : P.underlying src = some (.slice e)) (he : P.underlying e = some (.int .u8)) (hd : P.underlying dst = some .string) (x : Int) (h0 : 0 ≤ x) (h1 : x < 256) (c : Nat) :
    (convert src dst (.slice (some ⟨w.heap.size, 0, none⟩) 1 c)).run P (w.alloc (.cells #[.int .u8 x] e)) = .ok (.string ⟨#[UInt8.ofNat x.toNat]⟩) (w.alloc (.cells #[.int .u8 x] e)) := by
  have h := run_convert_bytes_back (P := P) (w.alloc (.cells #[.int .u8 x] e)) src dst e ⟨w.heap.size, 0, none⟩ c [UInt8.ofNat x.toNat] hs he hd (fun j hj => by
    obtain rfl : j = 0 := by simp at hj; omega
    have : x.toNat % 256 = x.toNat := by omega
    simp [Addr.add, this]; omega)
  exact h

theorem cat_list (a b : List UInt8) : (⟨a.toArray⟩ : ByteArray) ++ (⟨b.toArray⟩ : ByteArray) = ⟨(a ++ b).toArray⟩ := ByteArray.mk_append_mk a b

theorem ofNat_mod (x : Nat) : UInt8.ofNat (x % 256) = UInt8.ofNat x := by
  apply UInt8.toNat_inj.1
  simp

set_option maxHeartbeats 400000 in
theorem ref_nat (m : Nat) (hm : m ≤ 9223372036854775807) (w : World) :
    Calls Try.prog 25 #[.int .i64 m] w fun e w' => e = .returned (.string ⟨(octN m).toArray⟩) ∧ Below w.heap.size w w' := by
  have h8 := osz_le8 m (by omega)
  go_enter Try.func25, Try.ntmps25
  go_wp2
  go_loopw [0, 3, 4] (fun x out c wr => ∃ j : Nat, j ≤ osz m ∧ c = .int .i64 j ∧ x = .int .i64 ((m / 256 ^ j : Nat) : Int) ∧ out = .string ⟨(be j m).toArray⟩ ∧ Below w.heap.size w wr) (fun _ _ c _ => osz m - (intOf c).toNat)
  case atStart => exact ⟨0, Nat.zero_le _, rfl, by simp, rfl, Below.refl _ _⟩
  case round =>
    obtain ⟨j, hj, rfl, rfl, rfl, hb⟩ := hrel
    have hx : m / 256 ^ j ≤ 9223372036854775807 := Nat.le_trans (Nat.div_le_self _ _) hm
    have hp : 0 < 256 ^ j := Nat.pow_pos (by omega)
    have hlen : (be j m).length = j := be_length j m
    have hdiv : m / 256 ^ (j + 1) = m / 256 ^ j / 256 := by rw [Nat.pow_succ, Nat.div_div_eq_div_mul]
    have hbe : be (j + 1) m = UInt8.ofNat (m / 256 ^ j) :: be j m := rfl
    have hpos : j < osz m ↔ 0 < m / 256 ^ j := by
      have := osz_le m j (by omega) (by omega)
      rw [Nat.div_pos_iff]
      omega
    obtain ⟨x, ex⟩ : ∃ x, x = m / 256 ^ j := ⟨_, rfl⟩
    obtain ⟨bs, ebs⟩ : ∃ bs, bs = be j m := ⟨_, rfl⟩
    rw [← ex] at hx hdiv hbe hpos ⊢
    rw [← ebs] at hlen hbe ⊢
    have HD := Lib.hid hdiv
    have HB := Lib.hid hbe
    have HL := Lib.hid hlen
    have hl8 : bs.length ≤ 8 := by omega
    have hz := hb.size
    have EX := Lib.hid ex
    have EB := Lib.hid ebs
    clear hdiv hbe hlen ex ebs hp
    by_cases hlt : j < osz m
    · have hx0 : (0 : Int) < (x : Int) := by have := hpos.1 hlt; omega
      have hcv := fun (W : World) => conv_one (P := Try.prog) W 22 9 5 Try.underlying22 Try.underlying5 Try.underlying9 ((x : Int) % 256) (by omega) (by omega) 1
      clear hpos
      go_wp2
      go_roundw
      case rel =>
        refine ⟨j + 1, by omega, by go_num, by rw [HD.out]; go_num, ?_, hb.alloc hz _⟩
        rw [HB.out, ofNat_mod]
        exact congrArg Value.string (cat_list [UInt8.ofNat x] bs)
      case measure => simp [intOf]; omega
    · have hx0 : ¬ (0 : Int) < (x : Int) := by have := mt hpos.2 hlt; omega
      have hj9 : (j : Int) ≤ 8 := by omega
      have hcv := fun (W : World) => conv_one (P := Try.prog) W 22 9 5 Try.underlying22 Try.underlying5 Try.underlying9 (j : Int) (by omega) (by omega) 1
      clear hpos
      go_wp2
      go_ret
      have ej : j = osz m := by omega
      refine ⟨?_, hb.alloc hz _⟩
      have e : octN m = UInt8.ofNat j :: bs := by rw [EB.out, ej]; rfl
      rw [e]
      exact congrArg (fun t => Ending.returned (Value.string t)) (cat_list [UInt8.ofNat j] bs)

set_option maxHeartbeats 400000 in
theorem ref_neg (n : Int) (hn : n < 0) (w : World) :
    Calls Try.prog 25 #[.int .i64 n] w fun e w' => e = .returned (.string ⟨(octN 0).toArray⟩) ∧ Below w.heap.size w w' := by
  have hn' : ¬ (0 : Int) < n := by omega
  have hcv := fun (W : World) => conv_one (P := Try.prog) W 22 9 5 Try.underlying22 Try.underlying5 Try.underlying9 (0 : Int) (by omega) (by omega) 1
  go_enter Try.func25, Try.ntmps25
  go_wp2
  refine wp_loop_rounds 1 ?_
  rw [rounds_succ]
  go_wp2
  go_ret
  refine ⟨?_, (Below.refl _ _).alloc (Nat.le_refl _) _⟩
  exact congrArg (fun t => Ending.returned (Value.string t)) (cat_list [0] [])

theorem ref_any (n : Int) (hm : n ≤ 9223372036854775807) (w : World) :
    Calls Try.prog 25 #[.int .i64 n] w fun e w' => e = .returned (.string ⟨(octN n.toNat).toArray⟩) ∧ Below w.heap.size w w' := by
  by_cases h : n < 0
  · have e : n.toNat = 0 := by omega
    rw [e]
    exact ref_neg n h w
  · obtain ⟨m, rfl⟩ : ∃ m : Nat, n = m := ⟨n.toNat, by omega⟩
    rw [Int.toNat_natCast]
    exact ref_nat m (by omega) w

end Go.Proofs.Ytecejmefnbejhaa
