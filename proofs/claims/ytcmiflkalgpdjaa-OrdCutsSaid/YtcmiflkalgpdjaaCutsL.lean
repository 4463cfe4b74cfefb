/-
  OrdCuts: for every text the law's function returns true, and writes nothing that was there.
-/
import Derived.Test.YtcmiflkalgpdjaaOParts
namespace Go.Proofs.Ytcmiflkalgpdjaa.ordCuts
open Go.RowKit Go.Proofs.Ytcmiflkalgpdjaa.rowB Go.Proofs.Ytcmiflkalgpdjaa.sRow

theorem walk_long (key : ByteArray) (w : World) (h : 100 < key.size) :
    Calls Try.prog 4 #[.string key] w fun e w' => e = .returned (.bool true) ∧ Below w.heap.size w w' := by
  have h1' : (100 : Int) < (key.size : Int) := by omega
  clear h
  go_enter Try.func4, Try.ntmps4
  go_wp2_with (go_at_call 10; refine (ohead_any _).mono ?_; rintro e w1 ⟨rfl, hb1⟩)
  go_ret
  exact ⟨rfl, hb1⟩

theorem esc_next {l : L8} {i : Nat} {t : L8} (h : l.take i = esc t) (hi : i < l.length) (h0 : l[i] ≠ 0) : ∃ t', l.take (i + 1) = esc t' := by
  refine ⟨t ++ [l[i]], ?_⟩
  rw [List.take_succ_eq_append_getElem hi, h, esc_append]
  simp [esc, h0]

theorem esc_next2 {l : L8} {i : Nat} {t : L8} (h : l.take i = esc t) (hi : i + 1 < l.length) (h0 : l[i] = 0) (h1 : l[i + 1] = 255) : ∃ t', l.take (i + 2) = esc t' := by
  refine ⟨t ++ [0], ?_⟩
  rw [List.take_succ_eq_append_getElem hi, List.take_succ_eq_append_getElem (by omega), h, esc_append, h0, h1]
  simp [esc]

theorem esc_cut {l : L8} {m : Nat} {t : L8} (h : l.take m = esc t) (hi : m + 1 < l.length) (h0 : l[m] = 0) (h1 : l[m + 1] = 1) : cutO l ≠ none := by
  have e : l = oT t ++ l.drop (m + 2) := by
    have := (List.take_append_drop (m + 2) l).symm
    rw [List.take_succ_eq_append_getElem hi, List.take_succ_eq_append_getElem (by omega), h, h0, h1] at this
    unfold oT
    simpa using this
  rw [e, cutO_oT]
  simp

set_option maxHeartbeats 4000000 in
set_option maxRecDepth 100000 in
theorem walk_main (key : ByteArray) (w : World) (h : key.size ≤ 100) :
    Calls Try.prog 4 #[.string key] w fun e w' => e = .returned (.bool true) ∧ Below w.heap.size w w' := by
  have h1' : ¬ (100 : Int) < (key.size : Int) := by omega
  have hkl : key.data.toList.length = key.size := by rw [Array.length_toList]; rfl
  have HKL := Lib.hid hkl
  have CV := Lib.hid (fun (w' : World) (v : Value) (l : List UInt8) (h : Bs 5 w.heap.size w' v l) => conv_bs (P := Try.prog) 5 w.heap.size w' 32 9 Try.underlying32 Try.underlying5 Try.underlying9 v l h)
  clear hkl
  go_enter Try.func4, Try.ntmps4
  go_wp2_with fail
  refine (ohead_any _).mono ?_
  rintro e w1 ⟨rfl, hb1⟩
  have hz1 := hb1.size
  have hcut := cut_any key (by omega) w1
  go_wp2_with fail
  refine hcut.mono ?_
  rintro e w2 ⟨hb2', hp⟩
  have hb2 := hb1.trans (hb2'.mono hz1)
  have hz2 := hb2.size
  clear hcut hb2' hb1 hz1
  rcases hp with ⟨hn, rfl⟩ | ⟨s, r, hs, rfl⟩
  · have HN := Lib.hid hn
    clear hn
    go_wp2_with fail
    go_loop [6] (fun n => ∃ m : Nat, m ≤ 100 ∧ n = .int .i64 ((m : Int) + 2)) (fun n => 103 - (intOf n).toNat)
    case atStart => exact ⟨0, Nat.zero_le _, rfl⟩
    case round =>
      obtain ⟨m, hm, rfl⟩ := hrel
      by_cases hlt : m + 2 ≤ key.size
      · have hle : (m : Int) + 2 ≤ (key.size : Int) := by omega
        by_cases hend : key[m + 1]'(by omega) = 1 ∧ key[m]'(by omega) = 0
        · have hk1 : (((key[m + 1]'(by omega)).toNat : Int) == 1) = true := by rw [hend.1]; rfl
          have hk0 : (((key[m]'(by omega)).toNat : Int) == 0) = true := by rw [hend.2]; rfl
          have HE := Lib.hid hend
          clear hend
          go_wp2_with fail
          go_loop [7, 8] (fun pl i => ∃ (b : Bool) (j : Nat), j ≤ m + 1 ∧ pl = .bool b ∧ i = .int .i64 j ∧ (b = true → j ≤ m ∧ ∃ t, key.data.toList.take j = esc t)) (fun _ i => m + 2 - (intOf i).toNat)
          case atStart => exact ⟨true, 0, by omega, rfl, rfl, fun _ => ⟨by omega, [], rfl⟩⟩
          case round =>
            clear hk1 hk0
            obtain ⟨b, j, hj, rfl, rfl, hbt⟩ := hrel
            have HBT := Lib.hid hbt
            clear hbt
            by_cases hjm : j < m
            · have hjk : j < key.size := by omega
              have hjk1 : j + 1 < key.size := by omega
              have hjm' : (j : Int) < (m : Int) := by omega
              by_cases hz : key[j]'hjk = 0
              · have hz0 : (((key[j]'hjk).toNat : Int) == 0) = true := by rw [hz]; rfl
                have HZ := Lib.hid hz
                clear hz
                by_cases hjm1 : j + 1 < m
                · have hge : ¬ (m : Int) ≤ (j : Int) + 1 := by omega
                  cases b
                  · go_wp2_with fail
                    go_round
                    case rel => exact ⟨false, j + 2, by omega, rfl, by go_num, fun h => by cases h⟩
                    case measure => simp [intOf]; omega
                  · by_cases h255 : key[j + 1]'hjk1 = 255
                    · have hm : ∀ h, ((key[j + 1]'h).toNat : Int) = 255 := fun _ => by rw [h255]; rfl
                      have H255 := Lib.hid h255
                      clear h255
                      go_wp2_with fail
                      go_round
                      case rel =>
                        refine ⟨true, j + 2, by omega, rfl, by go_num, fun _ => ⟨by omega, ?_⟩⟩
                        obtain ⟨_, t, ht⟩ := HBT.out rfl
                        exact esc_next2 ht (by rw [HKL.out]; exact hjk1) HZ.out H255.out
                      case measure => simp [intOf]; omega
                    · obtain ⟨d, hd⟩ : ∃ d : Int, ((key[j + 1]'hjk1).toNat : Int) = d := ⟨_, rfl⟩
                      have hd5 : (d == 255) = false := by
                        rw [beq_eq_false_iff_ne]; intro e; exact h255 (u8_toNat_eq.2 (by have : (255 : UInt8).toNat = 255 := rfl; omega))
                      have hm : ∀ h, ((key[j + 1]'h).toNat : Int) = d := fun _ => hd
                      clear h255 hd
                      go_wp2_with fail
                      go_round
                      case rel => exact ⟨false, j + 2, by omega, rfl, by go_num, fun h => by cases h⟩
                      case measure => simp [intOf]; omega
                · have hge : (m : Int) ≤ (j : Int) + 1 := by omega
                  have hjks : (j : Int) + 1 < (key.size : Int) := by omega
                  cases b
                  · go_wp2_with fail
                    go_round
                    case rel => exact ⟨false, j + 2, by omega, rfl, by go_num, fun h => by cases h⟩
                    case measure => simp [intOf]; omega
                  · go_wp2_with fail
                    go_round
                    case rel => exact ⟨false, j + 2, by omega, rfl, by go_num, fun h => by cases h⟩
                    case measure => simp [intOf]; omega
              · have hz0 : (((key[j]'hjk).toNat : Int) == 0) = false := by
                  rw [beq_eq_false_iff_ne]; intro e; exact hz (u8_toNat_eq.2 (by have : (0 : UInt8).toNat = 0 := rfl; omega))
                have hge : ¬ (m : Int) ≤ (j : Int) := by omega
                have HZ := Lib.hid hz
                clear hz
                go_wp2_with fail
                go_round
                case rel =>
                  refine ⟨b, j + 1, by omega, rfl, by go_num, fun h => ⟨by omega, ?_⟩⟩
                  obtain ⟨_, t, ht⟩ := HBT.out h
                  exact esc_next ht (by rw [HKL.out]; exact hjk) HZ.out
                case measure => simp [intOf]; omega
            · have hbf : b = false := by
                cases b with
                | false => rfl
                | true =>
                  obtain ⟨h1, t, ht⟩ := HBT.out rfl
                  obtain rfl : j = m := by omega
                  exact absurd HN.out (esc_cut ht (by rw [HKL.out]; omega) HE.out.2 HE.out.1)
              subst hbf
              have hge : ¬ (j : Int) < (m : Int) := by omega
              clear hjm
              go_wp2_with fail
              go_round
              case rel => exact ⟨m + 1, by omega, by go_num⟩
              case measure => simp [intOf]; omega
        · by_cases h1 : key[m + 1]'(by omega) = 1
          · have hk1 : (((key[m + 1]'(by omega)).toNat : Int) == 1) = true := by rw [h1]; rfl
            have hk0 : (((key[m]'(by omega)).toNat : Int) == 0) = false := by
              rw [beq_eq_false_iff_ne]; intro e; exact hend ⟨h1, u8_toNat_eq.2 (by have : (0 : UInt8).toNat = 0 := rfl; omega)⟩
            clear hend h1
            go_wp2_with fail
            go_round
            case rel => exact ⟨m + 1, by omega, by go_num⟩
            case measure => simp [intOf]; omega
          · have hk1 : (((key[m + 1]'(by omega)).toNat : Int) == 1) = false := by
              rw [beq_eq_false_iff_ne]; intro e; exact h1 (u8_toNat_eq.2 (by have : (1 : UInt8).toNat = 1 := rfl; omega))
            clear hend h1
            go_wp2_with fail
            go_round
            case rel => exact ⟨m + 1, by omega, by go_num⟩
            case measure => simp [intOf]; omega
      · have hgt : ¬ (m : Int) + 2 ≤ (key.size : Int) := by omega
        clear hlt
        have hpt := parts_any key (by omega) w2
        go_wp2_with fail
        refine hpt.mono ?_
        rintro e w4 ⟨hb4', hp⟩
        have hb4 := hb2.trans (hb4'.mono hb2.size)
        have hz4 := hb4.size
        rcases hp with ⟨hno, rfl⟩ | ⟨ps, a, c, hk, rfl, hown⟩
        · clear hno hpt
          go_wp2
          go_ret
          exact ⟨rfl, hb4⟩
        · have hl := oK_count (txts ps)
          have hl2 := congrArg List.length hk
          rw [HKL.out] at hl2
          rw [txts_length] at hl
          have hkk := key_any a c ps w4 hown.srow.2 (by omega) (by omega)
          have hks : (⟨(oK (txts ps)).toArray⟩ : ByteArray) = key := txt_inj (by rw [show txt key = key.data.toList from rfl, hk]; rfl)
          rw [hks] at hkk
          clear hk hks hpt hown hl hl2
          go_wp2_with fail
          refine hkk.mono ?_
          rintro e w5 ⟨rfl, hb5'⟩
          have hb5 := hb4.trans (hb5'.mono hz4)
          clear hkk hb5' hb4
          go_wp2
          go_ret
          exact ⟨ret_bool (by simp), hb5⟩
  · have hback := cutO_back _ _ _ _ (Nat.le_refl _) hs
    have hlen : s.length + r.length ≤ 100 := by
      have h1 := congrArg List.length hback
      have h2 := oT_ge s
      rw [HKL.out, List.length_append] at h1
      omega
    have HB := Lib.hid hback
    clear hs hback
    go_wp2_with fail
    refine (otext_any w.heap.size (.slice none 0 0) [] ⟨s.toArray⟩ w2 (by have : (⟨s.toArray⟩ : ByteArray).size = s.length := rfl; simp only [List.length_nil]; omega) hz2 (Bs.nil _ _ _)).mono ?_
    rintro e w3 ⟨v3, rfl, hown3, hup3⟩
    have hown3 : Bs 5 w.heap.size w3 v3 (oT s) := hown3
    have cv3 := CV.out w3 v3 _ hown3
    have hb3 := hb2.trans (hup3.below (Bs.nil 5 w.heap.size w2) hz2)
    have hz3 := hb3.size
    have hot := oT_length s
    clear hb2 hup3 hown3 hz2
    have hke : (⟨(oT s).toArray⟩ ++ ⟨r.toArray⟩ : ByteArray) = key := txt_inj (by rw [show txt key = key.data.toList from rfl, HB.out]; simp [txt])
    have hkt : (⟨(oT s).toArray⟩ ++ ⟨r.toArray⟩ : ByteArray).toList = key.toList := by rw [hke]
    clear hke
    have hpt := parts_any key (by omega) w3
    go_wp2_with fail
    refine hpt.mono ?_
    rintro e w4 ⟨hb4', hp⟩
    have hb4 := hb3.trans (hb4'.mono hb3.size)
    have hz4 := hb4.size
    rcases hp with ⟨hno, rfl⟩ | ⟨ps, a, c, hk, rfl, hown⟩
    · clear hno hpt
      go_wp2
      go_ret
      exact ⟨rfl, hb4⟩
    · have hl := oK_count (txts ps)
      have hl2 := congrArg List.length hk
      rw [HKL.out] at hl2
      rw [txts_length] at hl
      have hkk := key_any a c ps w4 hown.srow.2 (by omega) (by omega)
      have hks : (⟨(oK (txts ps)).toArray⟩ : ByteArray) = key := txt_inj (by rw [show txt key = key.data.toList from rfl, hk]; rfl)
      rw [hks] at hkk
      clear hk hks hpt hown hl hl2
      go_wp2_with fail
      refine hkk.mono ?_
      rintro e w5 ⟨rfl, hb5'⟩
      have hb5 := hb4.trans (hb5'.mono hz4)
      clear hkk hb5' hb4
      go_wp2
      go_ret
      exact ⟨ret_bool (by simp), hb5⟩

theorem walk (key : ByteArray) (_wk : key.size ≤ maxLen) (w : World) :
    Calls Try.prog 4 #[.string key] w fun e w' => e = .returned (.bool true) ∧ Below w.heap.size w w' := by
  by_cases h : 100 < key.size
  · exact walk_long key w h
  · exact walk_main key w (by omega)

end Go.Proofs.Ytcmiflkalgpdjaa.ordCuts
