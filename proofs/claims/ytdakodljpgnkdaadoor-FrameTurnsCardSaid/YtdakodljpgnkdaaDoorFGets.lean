/-
  FrameGets: for whatever bytes the law's function returns true, and writes nothing that was there.
-/
import Derived.Test.YtdakodljpgnkdaaDoorFHd
import Derived.Deep.RegionHeld3
namespace Go.Proofs.YtdakodljpgnkdaaDoor.frameGets
open Go.RowKit

theorem tl_ne {a b : ByteArray} (h : a ≠ b) : (a.toList == b.toList) = false := by
  rw [Lib.toList_data, Lib.toList_data, beq_eq_false_iff_ne]
  intro e
  exact h (by apply ByteArray.ext; exact Array.toList_inj.1 e)

theorem walk_long (b : ByteArray) (hs : 400 < b.size) (w : World) (hT : Tab w) :
    Calls Tryd.prog 4 #[.string b] w fun e w' => e = .returned (.bool true) ∧ Below w.heap.size w w' := by
  have hs' : (400 : Int) < (b.size : Int) := by omega
  go_enter Tryd.func4, Tryd.ntmps4
  go_wp2_with fail
  refine (head_any _ hT).mono ?_
  rintro e w1 ⟨rfl, hb1⟩
  go_wp2
  go_ret
  exact ⟨rfl, hb1⟩

set_option maxHeartbeats 2000000 in
theorem walk_few (b : ByteArray) (hs : b.size ≤ 400) (w : World) (hT : Tab w) :
    Calls Tryd.prog 4 #[.string b] w fun e w' => e = .returned (.bool true) ∧ Below w.heap.size w w' := by
  have hs' : ¬ (400 : Int) < (b.size : Int) := by omega
  have hlen : b.data.toList.length = b.size := by rw [Array.length_toList]; rfl
  have HL := Lib.hid hlen
  have h0 := hT.lt
  clear hlen
  go_enter Tryd.func4, Tryd.ntmps4
  go_wp2_with fail
  refine (head_any _ hT).mono ?_
  rintro e w1 ⟨rfl, hb1⟩
  have hT1 := hT.below hb1 h0
  go_wp2_with fail
  refine (get_any b _ hT1).mono ?_
  rintro e w2 ⟨hb2, ⟨hno, rfl⟩ | ⟨t, ht, rfl⟩⟩
  · replace hb2 := hb1.trans (hb2.mono hb1.size)
    have HN := Lib.hid hno
    clear hno hT1 hb1
    go_wp2
    go_loopw [5] (fun c wr => ∃ k : Nat, c = .int .i64 k ∧ k ≤ 500 ∧ Below w.heap.size w wr) (fun c _ => 501 - (intOf c).toNat)
    case atStart => exact ⟨0, rfl, by omega, hb2⟩
    case round =>
      obtain ⟨k, rfl, hk, hb⟩ := hrel
      have hTr := hT.below hb h0
      have hw1 : IntKind.i64.wrap ((k : Int) + 12) = ((k + 12 : Nat) : Int) := by rw [IntKind.wrap_i64]; omega
      by_cases hlt : k + 12 ≤ b.size
      · obtain ⟨m, hm⟩ : ∃ m, m = 12 + k := ⟨_, rfl⟩
        have hw : IntKind.i64.wrap (12 + (k : Int)) = (m : Int) := by rw [IntKind.wrap_i64]; omega
        have hlt' : (k : Int) + 12 ≤ (b.size : Int) := by omega
        have hm1 : (m : Int) ≤ (b.size : Int) := by omega
        have hm2 : (12 : Int) ≤ (m : Int) := by omega
        have hX : (b.extract 12 m).size ≤ 262144 := by simp [ByteArray.size_extract]; omega
        have ho := one_any (b.extract 12 m) hX
        have hne : (⟨(frm (b.extract 12 m).data.toList).toArray⟩ : ByteArray) ≠ b.extract 0 m := by
          intro e
          have e2 := congrArg (fun x : ByteArray => x.data.toList) e
          simp only [Lib.extract_data, List.drop_zero, Nat.sub_zero] at e2
          refine HN.out ((b.data.toList.drop 12).take (m - 12)) ⟨?_, b.data.toList.drop m, ?_⟩
          · rw [List.length_take]; omega
          · rw [e2, List.take_append_drop]
        clear hm
        generalize (⟨(frm (b.extract 12 m).data.toList).toArray⟩ : ByteArray) = F at ho hne
        have hq := tl_ne hne
        have HO := Lib.hid ho
        clear ho hX hne
        have hTd : Hid (Tab wr.drew) := Lib.hid hTr
        clear hTr
        go_wp2_with fail
        go_region_held3 (fun _ => True) (exact trivial) ((go_at_call 11; (with_reducible refine (HO.out _ ?_).mono ?_); exact hTd.out; rintro e w4 ⟨rfl, hb4⟩))
        go_wp2
        go_roundw
        case rel => exact ⟨k + 1, by go_num, by omega, hb.drew.trans (hb4.mono hb.size)⟩
        case measure => simp [intOf]; omega
      · have hlt' : ¬ (k : Int) + 12 ≤ (b.size : Int) := by omega
        go_wp2
        go_ret
        exact ⟨rfl, hb⟩
  · replace hb2 := hb1.trans (hb2.mono hb1.size)
    have hf := ht.few
    rw [HL.out] at hf
    obtain ⟨m, hm⟩ : ∃ m, m = 12 + t.length := ⟨_, rfl⟩
    obtain ⟨htl, r, hr⟩ := ht
    have hF : (⟨(frm t).toArray⟩ : ByteArray) = b.extract 0 m := by
      apply ByteArray.ext; apply Array.toList_inj.1
      rw [Lib.extract_data, hr, List.drop_zero, Nat.sub_zero, hm]
      show frm t = _
      rw [List.take_left' (by rw [frm_length]; omega)]
    have ho := one_any ⟨t.toArray⟩ (by rw [size_arr]; exact htl)
    have e1 : (⟨(frm (⟨t.toArray⟩ : ByteArray).data.toList).toArray⟩ : ByteArray) = b.extract 0 m := hF
    rw [e1] at ho
    rw [← hm]
    have hm0 : ((m : Int) == 0) = false := by rw [beq_eq_false_iff_ne]; omega
    have hm1 : (m : Int) ≤ (b.size : Int) := by omega
    have hm2 : (m : Int) ≠ 0 := by omega
    have HO := Lib.hid ho
    have hTd : Hid (∀ w', Below w.heap.size w w' → Tab w') := Lib.hid (fun w' h => hT.below h h0)
    have hb2d := hb2.drew
    clear hr hF e1 ho hf hm htl hT1 hb1
    generalize (⟨t.toArray⟩ : ByteArray) = T at HO
    go_wp2_with fail
    go_region_held3 (fun _ => True) (exact trivial) ((go_at_call 11; (with_reducible refine (HO.out _ ?_).mono ?_); exact hTd.out _ hb2d; rintro e w4 ⟨rfl, hb4⟩))
    go_wp2
    go_ret
    exact ⟨rfl, hb2.drew.trans (hb4.mono hb2.size)⟩

theorem walk (b : ByteArray) (_w0 : b.size ≤ maxLen) (w : World) (hT : Tab w) :
    Calls Tryd.prog 4 #[.string b] w fun e w' => e = .returned (.bool true) ∧ Below w.heap.size w w' := by
  by_cases h : b.size ≤ 400
  · exact walk_few b h w hT
  · exact walk_long b (by omega) w hT

end Go.Proofs.YtdakodljpgnkdaaDoor.frameGets
