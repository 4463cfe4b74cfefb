/-
  frame.Put, the law's one: a text as a frame.
-/
import Derived.Test.YtdakodljpgnkdaaDoorFWord
namespace Go.Proofs.YtdakodljpgnkdaaDoor
open Go.RowKit

theorem frm_bytes (s x y z : ByteArray) (hx : x = ⟨(le4 s.size).toArray⟩) (hy : y = ⟨(le4 (crc (le4 s.size))).toArray⟩) (hz : z = ⟨(le4 (crc s.data.toList)).toArray⟩) :
    x ++ y ++ z ++ s = ⟨(frm s.data.toList).toArray⟩ := by
  subst hx hy hz
  obtain ⟨⟨l⟩⟩ := s
  apply ByteArray.ext
  simp [frm, ByteArray.data_append, ByteArray.size]

theorem size_arr (l : List UInt8) : (⟨l.toArray⟩ : ByteArray).size = l.length := by simp [ByteArray.size]

set_option maxHeartbeats 1000000 in
theorem put_ok (s : ByteArray) (hs : s.size ≤ 262144) (w : World) (hT : Tab w) :
    Calls Tryd.prog 10 #[.string s] w fun e w' => e = .returned (.tuple #[.string ⟨(frm s.data.toList).toArray⟩, .int .i64 0]) ∧ Below w.heap.size w w' := by
  have hs' : ¬ (262144 : Int) < (s.size : Int) := by omega
  have h0 := hT.lt
  go_enter Tryd.func10, Tryd.ntmps10
  go_wp2_with fail
  refine (word_any s.size (by omega) w).mono ?_
  rintro e w1 ⟨rfl, hb1⟩
  have hT1 := hT.below hb1 h0
  go_wp2_with fail
  refine (sum_any _ (by rw [size_arr, le4_length]; unfold maxLen; omega) w1 hT1).mono ?_
  rintro e w2 ⟨rfl, rfl⟩
  have hc := crc_lt (le4 s.size)
  go_wp2_with fail
  refine (word_any (crc (le4 s.size)) hc w1).mono ?_
  rintro e w2 ⟨rfl, hb2⟩
  have hz := hb1.size
  have hb12 := hb1.trans (hb2.mono hz)
  have hT2 := hT.below hb12 h0
  have hz2 := hb12.size
  clear hb1 hb2 hT1
  go_wp2_with fail
  refine (sum_any s (by unfold maxLen; omega) w2 hT2).mono ?_
  rintro e w3 ⟨rfl, rfl⟩
  have hc2 := crc_lt s.data.toList
  go_wp2_with fail
  refine (word_any (crc s.data.toList) hc2 w2).mono ?_
  rintro e w3 ⟨rfl, hb3⟩
  have hb := hb12.trans (hb3.mono hz2)
  have hL : (((⟨(le4 s.size).toArray⟩ : ByteArray) ++ ⟨(le4 (crc (le4 s.size))).toArray⟩ : ByteArray) ++ (⟨(le4 (crc s.data.toList)).toArray⟩ : ByteArray)).size = 12 := by simp [size_arr, le4_length]
  have hF := Lib.hid (frm_bytes s _ _ _ rfl rfl rfl)
  clear hb12 hb3 hT2 hT hz hz2
  go_wp2
  go_ret2
  exact ⟨by rw [← hF.out]; rfl, hb⟩

set_option maxHeartbeats 1000000 in
theorem one_any (s : ByteArray) (hs : s.size ≤ 262144) (w : World) (hT : Tab w) :
    Calls Tryd.prog 11 #[.string s] w fun e w' => e = .returned (.string ⟨(frm s.data.toList).toArray⟩) ∧ Below w.heap.size w w' := by
  have h0 := hT.lt
  go_enter Tryd.func11, Tryd.ntmps11
  go_wp2_with fail
  refine (four_any s.size (by omega) w).mono ?_
  rintro e w1 ⟨rfl, hb1⟩
  have hT1 := hT.below hb1 h0
  go_wp2_with fail
  refine (sum_any _ (by rw [size_arr, le4_length]; unfold maxLen; omega) w1 hT1).mono ?_
  rintro e w2 ⟨rfl, rfl⟩
  have hc := crc_lt (le4 s.size)
  go_wp2_with fail
  refine (four_any (crc (le4 s.size)) hc w1).mono ?_
  rintro e w2 ⟨rfl, hb2⟩
  have hz := hb1.size
  have hb12 := hb1.trans (hb2.mono hz)
  have hT2 := hT.below hb12 h0
  have hz2 := hb12.size
  clear hb1 hb2 hT1
  go_wp2_with fail
  refine (sum_any s (by unfold maxLen; omega) w2 hT2).mono ?_
  rintro e w3 ⟨rfl, rfl⟩
  have hc2 := crc_lt s.data.toList
  go_wp2_with fail
  refine (four_any (crc s.data.toList) hc2 w2).mono ?_
  rintro e w3 ⟨rfl, hb3⟩
  have hb := hb12.trans (hb3.mono hz2)
  have hL : (((⟨(le4 s.size).toArray⟩ : ByteArray) ++ ⟨(le4 (crc (le4 s.size))).toArray⟩ : ByteArray) ++ (⟨(le4 (crc s.data.toList)).toArray⟩ : ByteArray)).size = 12 := by simp [size_arr, le4_length]
  have hF := Lib.hid (frm_bytes s _ _ _ rfl rfl rfl)
  clear hb12 hb3 hT2 hT hz hz2
  go_wp2
  go_ret
  exact ⟨by rw [← hF.out]; rfl, hb⟩

theorem put_long (s : ByteArray) (hs : 262144 < s.size) (w : World) :
    Calls Tryd.prog 10 #[.string s] w fun e w' => e = .returned (.tuple #[.string ⟨#[]⟩, .int .i64 4]) ∧ w = w' := by
  have hs' : (262144 : Int) < (s.size : Int) := by omega
  go_enter Tryd.func10, Tryd.ntmps10
  go_wp2
  go_ret2
  exact ⟨rfl, rfl⟩

end Go.Proofs.YtdakodljpgnkdaaDoor
