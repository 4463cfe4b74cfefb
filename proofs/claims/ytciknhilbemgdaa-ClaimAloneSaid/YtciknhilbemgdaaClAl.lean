/-
  ClaimAlone: a key has one at a time: of any two who want it the first one; behind its going the other.
-/
import Derived.Test.YtciknhilbemgdaaClAlM
namespace Go.Proofs.Ytciknhilbemgdaa.claimAlone
open Go.Proofs.Ytciknhilbemgdaa.tRow Go.RowKit Go.Proofs.Ytciknhilbemgdaa.cl

set_option linter.unusedVariables false

theorem row_at {w W : World} {a : Option Addr} {len cap : Nat} {ps : List ByteArray} (h : Came w a len cap ps) (hb : Below w.heap.size w W) {j : Nat} (hj : j < ps.length) : ∃ g o, a = some ⟨g, o, none⟩ ∧ W.cell? ⟨g, o + j, none⟩ = some (.string ps[j]) := by
  rcases (h.below hb).1 with h1 | ⟨g, o, rfl, _, h3⟩
  · rw [h1] at hj; simp at hj
  · exact ⟨g, o, rfl, h3 j hj⟩

set_option maxHeartbeats 4000000 in
set_option maxRecDepth 100000 in
theorem walk_main {w : World} (a0 : Int) (w0 : (Lit.int .i64 a0).wf = true) (a1 : Int) (w1 : (Lit.int .i64 a1).wf = true) (a : Option Addr) (la ca : Nat) (ps : List ByteArray) (wa : Came w a la ca ps) :
    Calls Try.prog 4 #[.int .i64 a0, .int .i64 a1, .slice a la ca] w fun e W' => e = .returned (.bool true) ∧ Below w.heap.size w W' := by
  obtain rfl : la = ps.length := wa.2.1.symm
  have WA := Lib.hid wa
  clear wa w0 w1
  by_cases hbig : 40 < ps.length
  · have hbI : (40 : Int) < (ps.length : Int) := by omega
    go_enter Try.func4, Try.ntmps4
    go_wp2_with fail
    refine (head_any _).mono ?_
    rintro e w1 ⟨rfl, hb1⟩
    have HB := Lib.hid hb1
    clear hb1
    go_wp2
    go_ret
    exact ⟨rfl, HB.out⟩
  have hbI : ¬ (40 : Int) < (ps.length : Int) := by omega
  have hbN : ps.length ≤ 40 := by omega
  go_enter Try.func4, Try.ntmps4
  go_wp2_with fail
  refine (head_any _).mono ?_
  rintro e w1 ⟨rfl, hb1⟩
  go_wp2_with fail
  refine (new_any _).mono ?_
  rintro e w2 ⟨rfl, rfl⟩
  have h1 : St w (w1.alloc (.cells #[.map none] 42)) w1.heap.size 0 [] := ⟨CAt.new w1 (fun q => w.heap.size ≤ q) hb1.size, hb1.alloc hb1.size _⟩
  obtain ⟨c, hc⟩ : ∃ c, c = w1.heap.size := ⟨_, rfl⟩
  rw [← hc] at h1 ⊢
  obtain ⟨w2, hw2⟩ : ∃ w2, w2 = w1.alloc (.cells #[.map none] 42) := ⟨_, rfl⟩
  rw [← hw2] at h1 ⊢
  have H1 : Hid (∃ gs, St w w2 c 0 gs ∧ Al a0 a1 ps 0 gs ∧ ∀ j (h : j < ps.length), j < 0 → ps[j].size ≤ 100) := Lib.hid ⟨[], h1, ⟨(fun k z hk => by cases hk), (fun j _ hj => by omega), (fun p hp => by cases hp), Nat.le_refl _⟩, (fun j _ hj => by omega)⟩
  clear hc hw2 hb1 h1
  go_wp2_with fail
  go_loopw [25] (fun i wr => ∃ j : Nat, j ≤ ps.length ∧ i = .int .i64 (j : Int) ∧ Hid (∃ gs, St w wr c j gs ∧ Al a0 a1 ps j gs ∧ ∀ i (h : i < ps.length), i < j → ps[i].size ≤ 100)) (fun i _ => ps.length - (intOf i).toNat)
  case atStart => exact ⟨0, by omega, rfl, H1⟩
  case round =>
    obtain ⟨j, hj, rfl, hst⟩ := hrel
    clear H1
    by_cases hlt : j < ps.length
    · have hltI : (j : Int) < (ps.length : Int) := by omega
      obtain ⟨gs, q1, q2, q3⟩ := hst.out
      obtain ⟨g, o, rfl, hcell⟩ := row_at WA.out q1.2 hlt
      by_cases h100 : 100 < ps[j].size
      · have h100I : (100 : Int) < (ps[j].size : Int) := by omega
        have HB := Lib.hid q1.2
        generalize ps[j] = s at hcell h100I
        clear q1 q2 q3 hst h100
        go_wp2
        go_ret
        exact ⟨rfl, HB.out⟩
      · have h100I : ¬ (100 : Int) < (ps[j].size : Int) := by omega
        have HT : ∀ who, (who = a0 ∨ who = a1) → Hid (Calls Try.prog 10 #[.pointer (some ⟨c, 0, none⟩), .int .i64 who, .string ps[j]] wr fun e w' => (∃ b, e = .returned (.bool b)) ∧ Hid (∃ gs, St w w' c (j + 1) gs ∧ Al a0 a1 ps (j + 1) gs ∧ ∀ i (h : i < ps.length), i < j + 1 → ps[i].size ≤ 100)) := fun who hw => Lib.hid (by
          refine (take_st who q1 (by omega) ps[j] (by unfold maxLen; omega)).mono ?_
          rintro e w' ⟨rfl, h5⟩
          refine ⟨⟨_, rfl⟩, Lib.hid ⟨_, h5, al_take q2 hlt (by omega) hw, fun i hi hij => ?_⟩⟩
          by_cases e : i = j
          · subst e; omega
          · exact q3 i hi (by omega))
        have HT0 := HT a0 (.inl rfl)
        have HT1 := HT a1 (.inr rfl)
        generalize ps[j] = s at hcell h100I HT0 HT1
        have hand := and_1 (j : Int)
        by_cases hodd : j % 2 = 1
        · rw [show (j : Int) % 2 = 1 by omega] at hand
          clear q1 q2 q3 hst h100 HT hodd HT0
          go_wp2_with fail
          refine HT1.out.mono ?_
          rintro e w3 ⟨⟨b, rfl⟩, hs3⟩
          go_wp2
          go_roundw
          case rel => exact ⟨j + 1, by omega, by go_num, hs3⟩
          case measure => simp [intOf]; omega
        · rw [show (j : Int) % 2 = 0 by omega] at hand
          clear q1 q2 q3 hst h100 HT hodd HT1
          go_wp2_with fail
          refine HT0.out.mono ?_
          rintro e w3 ⟨⟨b, rfl⟩, hs3⟩
          go_wp2
          go_roundw
          case rel => exact ⟨j + 1, by omega, by go_num, hs3⟩
          case measure => simp [intOf]; omega
    · obtain rfl : j = ps.length := by omega
      obtain ⟨gs, q1, q2, q3⟩ := hst.out
      have Q2 := Lib.hid (And.intro q2 q3)
      have H2 := Lib.hid q1
      clear hst q1 q2 q3
      go_wp2_with fail
      go_loopw [45] (fun i wr => ∃ j : Nat, j ≤ ps.length ∧ i = .int .i64 (j : Int) ∧ Hid (St w wr c ps.length gs)) (fun i _ => ps.length - (intOf i).toNat)
      case atStart => exact ⟨0, by omega, rfl, H2⟩
      case round =>
        obtain ⟨j, hj2, rfl, hst⟩ := hrel
        clear H2
        by_cases hlt2 : j < ps.length
        · have hltI : (j : Int) < (ps.length : Int) := by omega
          obtain ⟨g, o, rfl, hcell⟩ := row_at WA.out hst.out.2 hlt2
          obtain ⟨z, hz⟩ := Q2.out.1.2.1 j hlt2 hlt2
          have hz2 := Q2.out.1.1 _ _ hz
          have hks : ps[j].size ≤ maxLen := by have := Q2.out.2 j hlt2 hlt2; unfold maxLen; omega
          have HB : ∀ n W, Below wr.heap.size wr W → Hid (Calls Try.prog 8 #[.pointer (some ⟨c, 0, none⟩), .int .i64 n] W fun e w' => ∃ p q, e = .returned (.func (.func 13) #[] #[.pointer (some ⟨p, 0, none⟩), .pointer (some ⟨q, 0, none⟩)]) ∧ Hid (Below wr.heap.size wr w') ∧
              Hid (Calls Try.prog 13 #[.string ps[j], .pointer (some ⟨p, 0, none⟩), .pointer (some ⟨q, 0, none⟩)] w' fun e w3 => e = .returned (.bool (z != n)) ∧ w3 = w' ∧ Hid (St w w' c ps.length gs))) := fun n W hb => Lib.hid (by
            refine (busy_st n (hst.out.below hb)).mono ?_
            rintro e w' ⟨p, q, rfl, h1, h2⟩
            refine ⟨p, q, rfl, Lib.hid (hb.trans (h1.mono hb.size)), Lib.hid ?_⟩
            refine (h2 w' (Below.refl _ _) ps[j] hks).mono ?_
            rintro e w3 ⟨rfl, rfl, h3⟩
            exact ⟨by rw [other_of hz], rfl, Lib.hid h3⟩)
          have HX := HB a1 wr (Below.refl _ _)
          have HBX := Lib.hid (HB a0)
          generalize ps[j] = s at hcell HX HBX hz hks HB
          clear HB hz hks hst
          have hcase : (a0 = a1 ∧ (z != a1) = false ∧ (z != a0) = false) ∨ (a0 ≠ a1 ∧ ((z != a1) = true ∧ (z != a0) = false ∨ (z != a1) = false ∧ (z != a0) = true)) := by
            by_cases e : a0 = a1
            · refine .inl ⟨e, ?_, ?_⟩ <;> rcases hz2 with h | h <;> simp [h, e]
            · refine .inr ⟨e, ?_⟩
              rcases hz2 with h | h
              · exact .inl ⟨by simp [h, e], by simp [h]⟩
              · exact .inr ⟨by simp [h], by simp [h]; exact fun e2 => e e2.symm⟩
          clear hz2
          rcases hcase with ⟨e1, e2, e3⟩ | ⟨e1, ⟨e2, e3⟩ | ⟨e2, e3⟩⟩
          · rw [e2] at HX
            rw [e3] at HBX
            have f1 : (a0 != a1) = false := by simp [e1]
            have f2 : (a0 == a1) = true := by simp [e1]
            clear e1 e2 e3
            go_wp2_with fail
            refine HX.out.mono ?_
            rintro e w3 ⟨p, q, rfl, hw3, HX1⟩
            go_wp2_with fail
            refine HX1.out.mono ?_
            rintro e w4 ⟨rfl, rfl, _⟩
            have HBX1 := HBX.out _ hw3.out
            clear HX HBX hw3 HX1
            go_wp2_with fail
            refine HBX1.out.mono ?_
            rintro e w5 ⟨p2, q2, rfl, hw5, HX2⟩
            go_wp2_with fail
            refine HX2.out.mono ?_
            rintro e w6 ⟨rfl, rfl, hs6⟩
            clear HBX1 hw5 HX2
            go_wp2
            go_roundw
            case rel => exact ⟨j + 1, by omega, by go_num, hs6⟩
            case measure => simp [intOf]; omega
          · rw [e2] at HX
            rw [e3] at HBX
            have f1 : (a0 != a1) = true := by simp [e1]
            have f2 : (a0 == a1) = false := by simp [e1]
            clear e1 e2 e3
            go_wp2_with fail
            refine HX.out.mono ?_
            rintro e w3 ⟨p, q, rfl, hw3, HX1⟩
            go_wp2_with fail
            refine HX1.out.mono ?_
            rintro e w4 ⟨rfl, rfl, _⟩
            have HBX1 := HBX.out _ hw3.out
            clear HX HBX hw3 HX1
            go_wp2_with fail
            refine HBX1.out.mono ?_
            rintro e w5 ⟨p2, q2, rfl, hw5, HX2⟩
            go_wp2_with fail
            refine HX2.out.mono ?_
            rintro e w6 ⟨rfl, rfl, hs6⟩
            clear HBX1 hw5 HX2
            go_wp2
            go_roundw
            case rel => exact ⟨j + 1, by omega, by go_num, hs6⟩
            case measure => simp [intOf]; omega
          · rw [e2] at HX
            rw [e3] at HBX
            have f1 : (a0 != a1) = true := by simp [e1]
            have f2 : (a0 == a1) = false := by simp [e1]
            clear e1 e2 e3
            go_wp2_with fail
            refine HX.out.mono ?_
            rintro e w3 ⟨p, q, rfl, hw3, HX1⟩
            go_wp2_with fail
            refine HX1.out.mono ?_
            rintro e w4 ⟨rfl, rfl, _⟩
            have HBX1 := HBX.out _ hw3.out
            clear HX HBX hw3 HX1
            go_wp2_with fail
            refine HBX1.out.mono ?_
            rintro e w5 ⟨p2, q2, rfl, hw5, HX2⟩
            go_wp2_with fail
            refine HX2.out.mono ?_
            rintro e w6 ⟨rfl, rfl, hs6⟩
            clear HBX1 hw5 HX2
            go_wp2
            go_roundw
            case rel => exact ⟨j + 1, by omega, by go_num, hs6⟩
            case measure => simp [intOf]; omega
        · obtain rfl : j = ps.length := by omega
          have HF : Hid (Calls Try.prog 9 #[.pointer (some ⟨c, 0, none⟩), .int .i64 a0] wr fun e w' => (∃ v, e = .returned v) ∧ Hid (∃ gs, St w w' c (ps.length + 0) gs ∧ Bl a1 (ps.length + 0) gs)) := Lib.hid (by
            obtain ⟨h1, h2, h3, h4⟩ := Q2.out.1
            refine (free_st a0 hst.out (by omega) (fun p hp => by have := h3 p hp; omega)).mono ?_
            rintro e w' ⟨v, rfl, _, _, h5⟩
            exact ⟨⟨v, rfl⟩, Lib.hid ⟨_, h5, al_free hst.out.1.1 Q2.out.1, by have := free_le gs a0; omega⟩⟩)
          have HS : Hid (∀ j (h : j < ps.length), ps[j].size ≤ maxLen) := Lib.hid fun j h => by have := Q2.out.2 j h h; unfold maxLen; omega
          clear hst Q2
          go_wp2_with fail
          refine HF.out.mono ?_
          rintro e w5 ⟨⟨v, rfl⟩, hs5⟩
          clear HF
          go_wp2_with fail
          go_loopw [84] (fun i wr => ∃ j : Nat, j ≤ ps.length ∧ i = .int .i64 (j : Int) ∧ Hid (∃ gs, St w wr c (ps.length + j) gs ∧ Bl a1 (ps.length + j) gs)) (fun i _ => ps.length - (intOf i).toNat)
          case atStart => exact ⟨0, by omega, rfl, hs5⟩
          case round =>
            obtain ⟨j, hj3, rfl, hst⟩ := hrel
            clear hs5
            by_cases hlt3 : j < ps.length
            · have hltI : (j : Int) < (ps.length : Int) := by omega
              obtain ⟨gs, q1, q2⟩ := hst.out
              obtain ⟨g, o, rfl, hcell⟩ := row_at WA.out q1.2 hlt3
              have hks := HS.out j hlt3
              generalize ps[j] = s at hcell hks
              have HB : Hid (Calls Try.prog 8 #[.pointer (some ⟨c, 0, none⟩), .int .i64 a1] wr fun e w' => ∃ p q, e = .returned (.func (.func 13) #[] #[.pointer (some ⟨p, 0, none⟩), .pointer (some ⟨q, 0, none⟩)]) ∧
                  Hid (Calls Try.prog 13 #[.string s, .pointer (some ⟨p, 0, none⟩), .pointer (some ⟨q, 0, none⟩)] w' fun e w3 => e = .returned (.bool false) ∧ w3 = w' ∧
                    Hid (Calls Try.prog 10 #[.pointer (some ⟨c, 0, none⟩), .int .i64 a1, .string s] w' fun e w' => e = .returned (.bool true) ∧ Hid (∃ gs, St w w' c (ps.length + (j + 1)) gs ∧ Bl a1 (ps.length + (j + 1)) gs)))) := Lib.hid (by
                refine (busy_st a1 q1).mono ?_
                rintro e w' ⟨p, q, rfl, h1, h2⟩
                refine ⟨p, q, rfl, Lib.hid ?_⟩
                refine (h2 w' (Below.refl _ _) s hks).mono ?_
                rintro e w3 ⟨rfl, rfl, h3⟩
                refine ⟨by rw [bl_other q2], rfl, Lib.hid ?_⟩
                refine (take_st a1 h3 (by omega) s hks).mono ?_
                rintro e w4 ⟨rfl, h4⟩
                exact ⟨by rw [bl_other q2]; rfl, Lib.hid ⟨_, h4, bl_take q2 _⟩⟩)
              clear q1 q2 hst hks
              go_wp2_with fail
              refine HB.out.mono ?_
              rintro e w6 ⟨p, q, rfl, HB2⟩
              clear HB
              go_wp2_with fail
              refine HB2.out.mono ?_
              rintro e w7 ⟨rfl, rfl, HB3⟩
              clear HB2
              go_wp2_with fail
              refine HB3.out.mono ?_
              rintro e w8 ⟨rfl, hs8⟩
              clear HB3
              go_wp2
              go_roundw
              case rel => exact ⟨j + 1, by omega, by go_num, hs8⟩
              case measure => simp [intOf]; omega
            · obtain rfl : j = ps.length := by omega
              obtain ⟨gs, q1, q2⟩ := hst.out
              by_cases hab : a0 = a1
              · have f1 : (a0 == a1) = true := by simp [hab]
                have HBW := Lib.hid q1.2
                clear q1 q2 hst hab HS
                go_wp2
                go_ret
                exact ⟨rfl, HBW.out⟩
              · have f1 : (a0 == a1) = false := by simp [hab]
                have HO : Hid (Calls Try.prog 12 #[.pointer (some ⟨c, 0, none⟩), .int .i64 a0] wr fun e w' => ∃ a k, e = .returned (.slice a 0 k) ∧ Hid (Below w.heap.size w w')) := Lib.hid (by
                  refine (of_any q1.1 (by have := q2.2; omega) a0).mono ?_
                  rintro e w' ⟨v, rfl, h1, h2⟩
                  rw [bl_of q1.1.1 q2 hab] at h1
                  obtain ⟨a, k, rfl⟩ := h1.form
                  exact ⟨a, k, rfl, Lib.hid (q1.2.trans (h2.mono q1.2.size))⟩)
                clear q1 q2 hst hab HS
                go_wp2_with fail
                refine HO.out.mono ?_
                rintro e w9 ⟨a9, k9, rfl, hb9⟩
                clear HO
                go_wp2
                go_ret
                exact ⟨rfl, hb9.out⟩

theorem walk {w : World} (a0 : Int) (w0 : (Lit.int .i64 a0).wf = true) (a1 : Int) (w1 : (Lit.int .i64 a1).wf = true) (a : Option Addr) (la ca : Nat) (wa : ∃ ps, Came w a la ca ps) :
    Calls Try.prog 4 #[.int .i64 a0, .int .i64 a1, .slice a la ca] w fun e W' => e = .returned (.bool true) ∧ Below w.heap.size w W' := by
  obtain ⟨ps, wa⟩ := wa
  exact walk_main a0 w0 a1 w1 a la ca ps wa

end Go.Proofs.Ytciknhilbemgdaa.claimAlone
