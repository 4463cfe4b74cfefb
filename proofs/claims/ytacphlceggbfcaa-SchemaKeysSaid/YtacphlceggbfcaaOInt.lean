/-
  ord.Int: what it lays.
-/
import Derived.Test.YtacphlceggbfcaaOText
namespace Go.Proofs.Ytacphlceggbfcaa
open Go.RowKit

set_option maxHeartbeats 1000000 in
theorem oint_any (B : Nat) (v : Value) (l : List UInt8) (n : Int) (hn : Is64 n) (w : World) (hl : l.length < 140737488355000) (hB : B ≤ w.heap.size) (hown : Bs 5 B w v l) :
    Calls Try.prog 58 #[v, .int .i64 n] w (LaidPost B v (l ++ oI n) w) := by
  have hx := xor_high n hn
  have hm : Hid (oI n = be 8 (n + 9223372036854775808).toNat) := Lib.hid rfl
  unfold Is64 at hn
  obtain ⟨h1, h2⟩ := hn
  have h3 : (n + 9223372036854775808).toNat < 18446744073709551616 := by omega
  generalize (n + 9223372036854775808).toNat = m at hx hm h3
  go_enter Try.func58, Try.ntmps58
  go_wp2
  go_loopw [0, 10] (fun x c wr => ∃ k : Nat, k ≤ 8 ∧ c = .int .i64 k ∧ Bs 5 B wr x (l ++ (be 8 m).take k) ∧ Up w v wr x) (fun _ c _ => 8 - (intOf c).toNat)
  case atStart => exact ⟨0, Nat.zero_le _, rfl, by simpa using hown, Up.refl w v⟩
  case round =>
    obtain ⟨k, hk, rfl, hownk, hupk⟩ := hrel
    have hBk := hupk.1.size
    have hlk : (l ++ (be 8 m).take k).length < 140737488355328 := by
      simp [be_length]; omega
    clear hx
    by_cases hlt : k < 8
    · have hsn := byte_shr8 m (7 - k)
      have htk := be_take 8 m k hlt
      have HT := Lib.hid htk
      have HS := Lib.hid hsn
      clear htk hsn
      go_wp2_with (at_builtin; refine wpList_app1 _ rfl (.tmp 13) (.tmp 20) 44 rfl 5 B Try.underlying44 infoB _ _ rfl hownk _ _ rfl (by omega) (by omega) hlk (by omega) ?_; intro v2 w2 hown2 hup2)
      go_roundw
      case rel =>
        refine ⟨k + 1, by omega, by go_num, ?_, hupk.trans hup2⟩
        rw [HT.out, ← List.append_assoc]
        rw [HS.out] at hown2
        exact hown2
      case measure => simp [intOf]; omega
    · go_wp2
      go_ret
      refine ⟨u0, rfl, ?_, hupk⟩
      have e : (be 8 m).take k = be 8 m := List.take_of_length_le (by rw [be_length]; omega)
      rw [hm.out, ← e]
      exact hownk

end Go.Proofs.Ytacphlceggbfcaa
