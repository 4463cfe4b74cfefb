/-
  OrdAfters: for every two texts the law's function returns true, and writes nothing that was there.
-/
import Derived.Test.YtcmiflkalgpdjaaOAfter
import Derived.Test.YtcmiflkalgpdjaaOKey
namespace Go.Proofs.Ytcmiflkalgpdjaa.ordAfters
open Go.RowKit

theorem walk_long (p s : ByteArray) (w : World) (h : 40 < p.size ∨ 40 < s.size) :
    Calls Try.prog 6 #[.string p, .string s] w fun e w' => e = .returned (.bool true) ∧ Below w.heap.size w w' := by
  by_cases h1 : 40 < p.size
  · have h1' : (40 : Int) < (p.size : Int) := by omega
    clear h
    go_enter Try.func6, Try.ntmps6
    go_wp2_with (go_at_call 10; refine (ohead_any _).mono ?_; rintro e w1 ⟨rfl, hb1⟩)
    go_ret
    exact ⟨rfl, hb1⟩
  · have h1' : ¬ (40 : Int) < (p.size : Int) := by omega
    have h2' : (40 : Int) < (s.size : Int) := by omega
    clear h
    go_enter Try.func6, Try.ntmps6
    go_wp2_with (go_at_call 10; refine (ohead_any _).mono ?_; rintro e w1 ⟨rfl, hb1⟩)
    go_ret
    exact ⟨rfl, hb1⟩

/-- are the first k bytes all 255? -/
def allB (p : L8) (k : Nat) : Bool := (p.take k).all (· == 255)

theorem allB_succ (p : L8) (k : Nat) (h : k < p.length) : allB p (k + 1) = (allB p k && (p[k] == 255)) := by
  unfold allB
  rw [List.take_succ_eq_append_getElem h, List.all_append]
  simp

theorem allB_iff (p : L8) : allB p p.length = true ↔ ∀ c ∈ p, c = 255 := by
  unfold allB
  rw [List.take_length, List.all_eq_true]
  simp

theorem aft_of_not : ∀ (p : L8), ¬ (∀ c ∈ p, c = 255) → ∃ a, aft p = some a
  | [], h => by simp at h
  | c :: l, h => by
    rw [aft]
    cases hl : aft l with
    | some x => exact ⟨_, rfl⟩
    | none =>
      by_cases hc : c = 255
      · exfalso
        refine h fun d hd => ?_
        simp at hd
        rcases hd with rfl | hd
        · exact hc
        · by_cases h2 : ∀ c ∈ l, c = 255
          · exact h2 d hd
          · obtain ⟨a, ha⟩ := aft_of_not l h2
            rw [hl] at ha; cases ha
      · exact ⟨[c + 1], by simp [hc]⟩

set_option maxHeartbeats 2000000 in
theorem walk_main (p s : ByteArray) (w : World) (h1 : p.size ≤ 40) (h2 : s.size ≤ 40) :
    Calls Try.prog 6 #[.string p, .string s] w fun e w' => e = .returned (.bool true) ∧ Below w.heap.size w w' := by
  have h1' : ¬ (40 : Int) < (p.size : Int) := by omega
  have h2' : ¬ (40 : Int) < (s.size : Int) := by omega
  go_enter Try.func6, Try.ntmps6
  go_wp2_with fail
  refine (ohead_any _).mono ?_
  rintro e w1 ⟨rfl, hb1⟩
  have hz1 := hb1.size
  go_wp2_with fail
  refine (after_any p (by omega) w1).mono ?_
  rintro e w2 (⟨ha, h255, rfl, rfl⟩ | ⟨a, ha, rfl, hb2⟩)
  · have HA := Lib.hid ha
    have H255 := Lib.hid h255
    clear ha h255
    go_wp2
    go_loop [7, 8] (fun l i => ∃ k : Nat, k ≤ p.size ∧ i = .int .i64 k ∧ l = .bool true) (fun _ i => p.size - (intOf i).toNat)
    case atStart => exact ⟨0, Nat.zero_le _, rfl, rfl⟩
    case round =>
      obtain ⟨k, hk, rfl, rfl⟩ := hrel
      by_cases hlt : k < p.size
      · have hc : (((p[k]'hlt).toNat : Int) == 255) = true := by
          rw [H255.out (p[k]'hlt) (List.getElem_mem (l := p.data.toList) (by rw [Array.length_toList]; exact hlt))]; rfl
        go_wp2
        go_round
        case rel => exact ⟨k + 1, by omega, by go_num, rfl⟩
        case measure => simp [intOf]; omega
      · have hge : ¬ (k : Int) < (p.size : Int) := by omega
        clear hlt
        have hor := aft_all p.data.toList s.data.toList H255.out
        by_cases hsl : s.data.toList < p.data.toList
        · have e1 : Op.bytesLess s.toList p.toList = true := by rw [Proofs.bytesLess_eq, Lib.toList_data, Lib.toList_data]; exact decide_eq_true hsl
          clear hor hsl
          go_wp2
          go_ret
          exact ⟨rfl, hb1⟩
        · have e1 : Op.bytesLess s.toList p.toList = false := by rw [Proofs.bytesLess_eq, Lib.toList_data, Lib.toList_data]; exact decide_eq_false hsl
          have hpre : begB s.data.toList p.data.toList = true := by
            unfold begB; refine decide_eq_true ?_
            rcases hor with h | h
            · exact absurd h hsl
            · exact h
          have hbg := begins_any s p w1
          rw [hpre] at hbg
          clear hor hsl hpre
          go_wp2_with (go_at_call 20; refine hbg.mono ?_; rintro e w3 ⟨rfl, rfl⟩)
          go_ret
          exact ⟨rfl, hb1⟩
  · have hb := hb1.trans (hb2.mono hz1)
    have HA := Lib.hid ha
    clear ha hb1 hb2 hz1
    go_wp2
    go_loop [7, 8] (fun l i => ∃ k : Nat, k ≤ p.size ∧ i = .int .i64 k ∧ l = .bool (allB p.data.toList k)) (fun _ i => p.size - (intOf i).toNat)
    case atStart => exact ⟨0, Nat.zero_le _, rfl, rfl⟩
    case round =>
      obtain ⟨k, hk, rfl, rfl⟩ := hrel
      by_cases hlt : k < p.size
      · have hs := allB_succ p.data.toList k (by rw [Array.length_toList]; exact hlt)
        have hc : ((((p[k]'hlt).toNat : Int) == 255)) = ((p.data.toList[k]'(by rw [Array.length_toList]; exact hlt)) == 255) := by
          rw [Bool.eq_iff_iff, beq_iff_eq, beq_iff_eq, u8_toNat_eq]
          show ((p[k]'hlt).toNat : Int) = 255 ↔ (p[k]'hlt).toNat = (255 : UInt8).toNat
          have : (255 : UInt8).toNat = 255 := rfl
          omega
        have HS := Lib.hid hs
        have HCC := Lib.hid hc
        clear hs hc
        cases hal : allB p.data.toList k
        · rw [hal] at HS
          clear hal
          go_wp2
          go_round
          case rel => exact ⟨k + 1, by omega, by go_num, by rw [HS.out]; rfl⟩
          case measure => simp [intOf]; omega
        · rw [hal] at HS
          clear hal
          go_wp2
          go_round
          case rel => exact ⟨k + 1, by omega, by go_num, by rw [HS.out, ← HCC.out]; rfl⟩
          case measure => simp [intOf]; omega
      · have hge : ¬ (k : Int) < (p.size : Int) := by omega
        obtain rfl : k = p.size := by omega
        have hall : allB p.data.toList p.size = false := by
          rw [Bool.eq_false_iff]
          intro h
          have hl : p.data.toList.length = p.size := by rw [Array.length_toList]; rfl
          rw [← hl] at h
          have := aft_none _ ((allB_iff _).1 h)
          rw [HA.out] at this
          cases this
        rw [hall]
        obtain ⟨f1, f2, f3⟩ := aft_some _ _ HA.out
        clear hlt hall
        by_cases hpre : p.data.toList <+: s.data.toList
        · have hlt := f1 _ hpre
          have e1 : Op.bytesLess s.toList a = true := by rw [Proofs.bytesLess_eq, Lib.toList_data]; exact decide_eq_true hlt
          have hbg := begins_any s p w2
          rw [show begB s.data.toList p.data.toList = true from decide_eq_true hpre] at hbg
          clear f1 f2 f3 hpre hlt
          go_wp2_with (go_at_call 20; refine hbg.mono ?_; rintro e w3 ⟨rfl, rfl⟩)
          go_ret
          exact ⟨rfl, hb⟩
        · have hor := f2 _ hpre
          have hbg := begins_any s p w2
          rw [show begB s.data.toList p.data.toList = false from decide_eq_false hpre] at hbg
          have hbg2 := begins_any ⟨a.toArray⟩ p w2
          rw [show begB (⟨a.toArray⟩ : ByteArray).data.toList p.data.toList = false from decide_eq_false f3] at hbg2
          by_cases hsp : s.data.toList < p.data.toList
          · have e1 : Op.bytesLess s.toList p.toList = true := by rw [Proofs.bytesLess_eq, Lib.toList_data, Lib.toList_data]; exact decide_eq_true hsp
            clear f1 f2 f3 hpre hor hsp
            go_wp2_with fail
            refine hbg.mono ?_
            rintro e w3 ⟨rfl, rfl⟩
            go_wp2_with fail
            refine hbg2.mono ?_
            rintro e w3 ⟨rfl, rfl⟩
            go_wp2
            go_ret
            exact ⟨rfl, hb⟩
          · have e1 : Op.bytesLess s.toList p.toList = false := by rw [Proofs.bytesLess_eq, Lib.toList_data, Lib.toList_data]; exact decide_eq_false hsp
            have e2 : Op.bytesLess s.toList a = false := by
              rw [Proofs.bytesLess_eq, Lib.toList_data]
              rcases hor with h | h
              · exact absurd h hsp
              · exact decide_eq_false h
            clear f1 f2 f3 hpre hor hsp
            go_wp2_with fail
            refine hbg.mono ?_
            rintro e w3 ⟨rfl, rfl⟩
            go_wp2_with fail
            refine hbg2.mono ?_
            rintro e w3 ⟨rfl, rfl⟩
            go_wp2
            go_ret
            exact ⟨rfl, hb⟩

theorem walk (p : ByteArray) (_wp : p.size ≤ maxLen) (s : ByteArray) (_ws : s.size ≤ maxLen) (w : World) :
    Calls Try.prog 6 #[.string p, .string s] w fun e w' => e = .returned (.bool true) ∧ Below w.heap.size w w' := by
  by_cases h : 40 < p.size ∨ 40 < s.size
  · exact walk_long p s w h
  · exact walk_main p s w (by omega) (by omega)

end Go.Proofs.Ytcmiflkalgpdjaa.ordAfters
