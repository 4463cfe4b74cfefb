/-
  OrdKeys: the walk.
-/
import Derived.Test.YtcmiflkalgpdjaaKeysL
import Derived.Test.YtcmiflkalgpdjaaTexts
namespace Go.Proofs.Ytcmiflkalgpdjaa.ordKeys
open Go.RowKit Go.Proofs.Ytcmiflkalgpdjaa.rowB Go.Proofs.Ytcmiflkalgpdjaa.sRow
open Go.Proofs.Ytcmiflkalgpdjaa.ordBelow (oK_length_le txts_inj)

set_option maxHeartbeats 8000000 in
set_option maxRecDepth 100000 in
theorem walk_main (a : Option Addr) (la ca : Nat) (ps : List ByteArray) (b : Option Addr) (lb cb : Nat) (qs : List ByteArray) (w : World) (wa : Came w a la ca ps) (wb : Came w b lb cb qs) (h1 : la ≤ 10) (h2 : lb ≤ 10) :
    Calls Try.prog 3 #[.slice a la ca, .slice b lb cb] w fun e w' => e = .returned (.bool true) ∧ Below w.heap.size w w' := by
  have h1' : ¬ (10 : Int) < (la : Int) := by omega
  have h2' : ¬ (10 : Int) < (lb : Int) := by omega
  obtain rfl : la = ps.length := wa.2.1.symm
  obtain rfl : lb = qs.length := wb.2.1.symm
  have HCA := Lib.hid wa.2.2.2.2.1
  have HCB := Lib.hid wb.2.2.2.2.1
  go_enter Try.func3, Try.ntmps3
  go_wp2_with fail
  refine (ohead_any _).mono ?_
  rintro e w1 ⟨rfl, hb1⟩
  have hz1 := hb1.size
  have hbe := hb1.alloc hz1 (.cells #[] 9)
  have hze := hbe.size
  have hrowa := (wa.below hbe).1
  have howne := ss_empty w1 w.heap.size hz1
  go_wp2_with (first
    | (at_builtin
       refine wpList_app_s _ rfl (.tmp 27) (.tmp 28) rfl w.heap.size _ [] rfl howne a ps.length ca ps hrowa rfl HCA.out rfl (by simp; omega) hze ?_
       intro v2 w2 hown2 hup2
       rw [List.nil_append] at hown2
       have hb2 := hbe.trans (Ss.upBelow hup2 howne hze)
       have hz2 := hb2.size
       have hrowb := (wb.below hb2).1
       clear hup2)
    | (at_builtin
       refine wpList_app_s _ rfl (.tmp 29) (.tmp 30) rfl w.heap.size _ ps rfl hown2 b qs.length cb qs hrowb rfl HCB.out rfl (by omega) hz2 ?_
       intro v3 w3 hown3 hup3
       have hb3 := hb2.trans (Ss.upBelow hup3 hown2 hz2)
       have hz3 := hb3.size
       obtain ⟨a3, c3, rfl⟩ := hown3.form
       have hrow3 := hown3.srow.2
       clear hup3 hown3 hrowb))
  have hlen3 : (ps ++ qs).length = ps.length + qs.length := List.length_append
  have HL := Lib.hid hlen3
  clear hlen3 hown2 howne
  go_loop [33] (fun c => ∃ k : Nat, k ≤ ps.length + qs.length ∧ c = .int .i64 k ∧ ∀ i (h : i < (ps ++ qs).length), i < k → (ps ++ qs)[i].size ≤ 40) (fun c => ps.length + qs.length - (intOf c).toNat)
  case atStart => exact ⟨0, Nat.zero_le _, rfl, fun i h hi => by omega⟩
  case round =>
    obtain ⟨k, hk, rfl, hall⟩ := hrel
    have HALL := Lib.hid hall
    clear hall
    by_cases hlt : k < ps.length + qs.length
    · have hlt' : (k : Int) < (ps.length : Int) + (qs.length : Int) := by omega
      have hkl : k < (ps ++ qs).length := by rw [HL.out]; exact hlt
      obtain ⟨g3, o3, rfl, hg3, hc3⟩ : ∃ g o, a3 = some ⟨g, o, none⟩ ∧ g < w3.heap.size ∧ ∀ i (h : i < (ps ++ qs).length), w3.cell? ⟨g, o + i, none⟩ = some (.string (ps ++ qs)[i]) := by
        rcases hrow3 with h | h
        · rw [h] at hkl; simp at hkl
        · exact h
      have hck := hc3 k hkl
      have hcomb : Hid ((ps ++ qs)[k]'hkl = (ps ++ qs)[k]'hkl) := Lib.hid rfl
      generalize hs : (ps ++ qs)[k]'hkl = s at hck
      have HS := Lib.hid hs
      clear hc3 hs hcomb hrow3
      by_cases h40 : 40 < s.size
      · have h40' : (40 : Int) < (s.size : Int) := by omega
        go_wp2
        go_ret
        exact ⟨rfl, hb3⟩
      · have h40' : ¬ (40 : Int) < (s.size : Int) := by omega
        have H40 := Lib.hid h40
        clear h40
        go_wp2
        go_round
        case rel =>
          refine ⟨k + 1, by omega, by go_num, fun i hi hik => ?_⟩
          by_cases e : i = k
          · subst e; rw [HS.out]; have := H40.out; omega
          · exact HALL.out i hi (by omega)
        case measure => simp [intOf]; omega
    · have hge : ¬ (k : Int) < (ps.length : Int) + (qs.length : Int) := by omega
      have hsp : ∀ p ∈ ps, p.size ≤ 40 := fun p hp => by
        obtain ⟨i, hi, rfl⟩ := List.getElem_of_mem hp
        have := HALL.out i (by rw [HL.out]; omega) (by omega)
        rwa [List.getElem_append_left hi] at this
      have hsq : ∀ p ∈ qs, p.size ≤ 40 := fun p hp => by
        obtain ⟨i, hi, rfl⟩ := List.getElem_of_mem hp
        have := HALL.out (ps.length + i) (by rw [HL.out]; omega) (by omega)
        rw [List.getElem_append_right (by omega)] at this
        simpa using this
      have hKP := oK_length_le 40 ps hsp
      have hKQ := oK_length_le 40 qs hsq
      clear hlt hsp hsq HALL hrow3
      have hka := key_any a ca ps w3 ((wa.below hb3).1) (by omega) (by omega)
      go_wp2_with fail
      refine hka.mono ?_
      rintro e w4 ⟨rfl, hb4'⟩
      have hb4 := hb3.trans (hb4'.mono hz3)
      have hz4 := hb4.size
      have hkb := key_any b cb qs w4 ((wb.below hb4).1) (by omega) (by omega)
      clear hka hb4' hb3 hz3
      go_wp2_with fail
      refine hkb.mono ?_
      rintro e w5 ⟨rfl, hb5'⟩
      have hb5 := hb4.trans (hb5'.mono hz4)
      clear hkb hb5' hb4 hz4
      obtain ⟨C, hC⟩ : ∃ C, cmpK (txts ps) (txts qs) = C := ⟨_, rfl⟩
      have hcmp := cmpL_oK (txts ps) (txts qs)
      rw [hC] at hcmp
      have HCMP := Lib.hid hcmp
      have HCC := Lib.hid hC
      have htl : ∀ l : List ByteArray, (txts l).length = l.length := txts_length
      have HTL := Lib.hid htl
      have hpsz : (⟨(oK (txts ps)).toArray⟩ : ByteArray).size ≤ 1000000 := by
        have : (⟨(oK (txts ps)).toArray⟩ : ByteArray).size = (oK (txts ps)).length := rfl
        omega
      have HPSZ := Lib.hid hpsz
      clear hcmp hC htl hpsz
      go_wp2
      go_loopw [9, 10] (fun c i wr => ∃ (j : Nat) (z : Int), j ≤ ps.length ∧ j ≤ qs.length ∧ i = .int .i64 j ∧ c = .int .i64 z ∧ ((z = 0 ∧ (txts ps).take j = (txts qs).take j) ∨ (z ≠ 0 ∧ cmpK (txts ps) (txts qs) = z)) ∧ Below w.heap.size w wr) (fun _ i _ => ps.length - (intOf i).toNat)
      case atStart => exact ⟨0, 0, Nat.zero_le _, Nat.zero_le _, rfl, rfl, .inl ⟨rfl, by simp⟩, hb5⟩
      case round =>
        clear hge hk hb5
        obtain ⟨j, z, hj1, hj2, rfl, rfl, hz0, hb⟩ := hrel
        have hz := hb.size
        by_cases hgo : j < ps.length ∧ j < qs.length ∧ z = 0
        · obtain ⟨g1, g2, rfl⟩ := hgo
          have htk : (txts ps).take j = (txts qs).take j := by
            rcases hz0 with ⟨_, h⟩ | ⟨h, _⟩
            · exact h
            · exact absurd rfl h
          have hstep : (cmpL (txt ps[j]) (txt qs[j]) = 0 ∧ (txts ps).take (j + 1) = (txts qs).take (j + 1)) ∨ (cmpL (txt ps[j]) (txt qs[j]) ≠ 0 ∧ cmpK (txts ps) (txts qs) = cmpL (txt ps[j]) (txt qs[j])) := by
            have e1 : (txts ps)[j]'(by rw [HTL.out]; exact g1) = txt ps[j] := by simp [txts]
            have e2 : (txts qs)[j]'(by rw [HTL.out]; exact g2) = txt qs[j] := by simp [txts]
            by_cases he : txt ps[j] = txt qs[j]
            · refine .inl ⟨cmpL_zero.2 he, ?_⟩
              rw [List.take_succ_eq_append_getElem (by rw [HTL.out]; exact g1), List.take_succ_eq_append_getElem (by rw [HTL.out]; exact g2), htk, e1, e2, he]
            · refine .inr ⟨fun h => he (cmpL_zero.1 h), ?_⟩
              rw [cmpK_at htk (by rw [HTL.out]; exact g1) (by rw [HTL.out]; exact g2) (by rw [e1, e2]; exact he), e1, e2]
          obtain ⟨gp, op, hap, hgp, hcp⟩ : ∃ g o, a = some ⟨g, o, none⟩ ∧ g < wr.heap.size ∧ ∀ i (h : i < ps.length), wr.cell? ⟨g, o + i, none⟩ = some (.string ps[i]) := by
            rcases (wa.below hb).1 with h | h
            · rw [h] at g1; simp at g1
            · exact h
          obtain ⟨gq, oq, hbq, hgq, hcq⟩ : ∃ g o, b = some ⟨g, o, none⟩ ∧ g < wr.heap.size ∧ ∀ i (h : i < qs.length), wr.cell? ⟨g, o + i, none⟩ = some (.string qs[i]) := by
            rcases (wb.below hb).1 with h | h
            · rw [h] at g2; simp at g2
            · exact h
          subst hap hbq
          have hcpj := hcp j g1
          have hcqj := hcq j g2
          generalize ps[j] = sp at hstep hcpj
          generalize qs[j] = sq at hstep hcqj
          have HS := Lib.hid hstep
          have hjl' : (j : Int) < (ps.length : Int) := by omega
          have hjq' : (j : Int) < (qs.length : Int) := by omega
          clear hstep hcp hcq htk hz0
          go_wp2_with fail
          go_quiet ((go_at_call 12; exact quiet_l (by_any _ _ _)))
          go_wp2
          go_roundw
          case rel => exact ⟨j + 1, _, by omega, by omega, by go_num, rfl, HS.out, below_drewN hb _⟩
          case measure => simp [intOf]; omega
        · have hex : (z ≠ 0 ∧ z = C) ∨ (z = 0 ∧ ¬ (j < ps.length ∧ j < qs.length) ∧ min 1 (max (-1) ((ps.length : Int) - (qs.length : Int))) = C) := by
            rcases hz0 with ⟨h0, ht⟩ | ⟨h0, hc⟩
            · have hno : ¬ (j < ps.length ∧ j < qs.length) := fun h => hgo ⟨h.1, h.2, h0⟩
              refine .inr ⟨h0, hno, ?_⟩
              have := cmpK_len ht (by rw [HTL.out, HTL.out]; omega)
              rw [HTL.out, HTL.out, HCC.out] at this
              exact this.symm
            · exact .inl ⟨h0, by rw [← HCC.out, hc]⟩
          have hparts := parts_any ⟨(oK (txts ps)).toArray⟩ HPSZ.out wr
          clear hgo hz0
          rcases hex with ⟨hne, rfl⟩ | ⟨rfl, hno, hsg⟩
          · have hzf : (z == 0) = false := by rw [beq_eq_false_iff_ne]; exact hne
            clear hne
            by_cases q1 : (j : Int) < (ps.length : Int) <;> by_cases q2 : (j : Int) < (qs.length : Int)
            all_goals
              go_wp2_with (go_at_call 13; refine (hsgn _).mono ?_; rintro e w7 ⟨rfl, rfl⟩)
              refine hparts.mono ?_
              rintro e w6 ⟨hb6', hp⟩
              obtain ⟨a6, c6, hown6, rfl⟩ : ∃ a6 c6, Ss wr.heap.size w6 (.slice a6 ps.length c6) ps ∧ e = .returned (.tuple #[.slice a6 ps.length c6, .int .i64 0]) := by
                rcases hp with ⟨hno, _⟩ | ⟨ps', a', c', hk', he', ho'⟩
                · exact absurd rfl (hno (txts ps))
                · obtain rfl := txts_inj (oK_inj _ _ hk')
                  exact ⟨a', c', ho', he'⟩
              have hb6 := hb.trans (hb6'.mono hz)
              have hz6 := hb6.size
              have hrow6 := hown6.srow.2
              have hby6 := ordTexts.by_lists (oK (txts ps)) (oK (txts qs)) w6
              rw [HCMP.out] at hby6
              clear hb6' hparts hp hown6 hb
              go_wp2_with fail
              refine hby6.mono ?_
              rintro e w7 ⟨rfl, rfl⟩
              clear hby6
              go_wp2
              go_loopw [101] (fun i wr => ∃ m : Nat, m ≤ ps.length ∧ i = .int .i64 m ∧ Below w6.heap.size w6 wr) (fun i _ => ps.length - (intOf i).toNat)
              case atStart => exact ⟨0, Nat.zero_le _, rfl, Below.refl _ _⟩
              case round =>
                obtain ⟨m, hm, rfl, hbx⟩ := hrel
                have hbw := hb6.trans (hbx.mono hz6)
                have hzw := hbw.size
                by_cases g1 : m < ps.length
                · obtain ⟨gp, op, hap, hgp, hcp⟩ : ∃ g o, a = some ⟨g, o, none⟩ ∧ g < wr.heap.size ∧ ∀ i (h : i < ps.length), wr.cell? ⟨g, o + i, none⟩ = some (.string ps[i]) := by
                    rcases (wa.below hbw).1 with h | h
                    · rw [h] at g1; simp at g1
                    · exact h
                  obtain ⟨gq, oq, hbq, hgq, hcq⟩ : ∃ g o, a6 = some ⟨g, o, none⟩ ∧ g < wr.heap.size ∧ ∀ i (h : i < ps.length), wr.cell? ⟨g, o + i, none⟩ = some (.string ps[i]) := by
                    rcases hrow6.below hbx with h | h
                    · rw [h] at g1; simp at g1
                    · exact h
                  subst hap hbq
                  have hcpm := hcp m g1
                  have hcqm := hcq m g1
                  generalize ps[m] = sp at hcpm hcqm
                  have hml : (m : Int) < (ps.length : Int) := by omega
                  clear hcp hcq
                  go_wp2_with fail
                  go_quiet (fail)
                  go_wp2
                  go_roundw
                  case rel => exact ⟨m + 1, by omega, by go_num, below_drewN hbx _⟩
                  case measure => simp [intOf]; omega
                · have hge : ¬ (m : Int) < (ps.length : Int) := by omega
                  clear g1 hb6 hrow6 hbx hz6
                  by_cases hp0 : ps = []
                  · have hX : oK (txts ps) = [] := by rw [hp0]; rfl
                    have hn0 : (ps.length : Int) = 0 := by rw [hp0]; rfl
                    clear hp0
                    go_wp2
                    all_goals (go_ret; exact ⟨rfl, hbw⟩)
                  · have hpos : 0 < ps.length := List.length_pos_iff.2 hp0
                    have hn0 : ((ps.length : Int) == 0) = false := by rw [beq_eq_false_iff_ne]; omega
                    have hcv7 := run_convert_bytes_back (P := Try.prog) (wr.alloc (.cells #[.int .u8 7] 5)) 32 9 5 ⟨wr.heap.size, 0, none⟩ 1 [7] Try.underlying32 Try.underlying5 Try.underlying9 (fun j hj => by
                      obtain rfl : j = 0 := by simpa using hj
                      simp [Addr.add])
                    have hcv7' : (convert 32 9 (.slice (some ⟨wr.heap.size, 0, none⟩) 1 1)).run Try.prog (wr.alloc (.cells #[.int .u8 7] 5)) = .ok (.string ⟨#[7]⟩) (wr.alloc (.cells #[.int .u8 7] 5)) := hcv7
                    have hbx2 := hbw.alloc hzw (.cells #[.int .u8 7] 5)
                    have hzx2 := hbx2.size
                    clear hcv7 hp0
                    go_wp2_with fail
                    refine (cut_any _ ?_ _).mono ?_
                    · show ((⟨(oK (txts ps)).toArray⟩ : ByteArray) ++ ⟨#[7]⟩).size ≤ 1000000
                      have h1 := congrArg List.length (app7 (oK (txts ps)))
                      rw [Array.length_toList, List.length_append] at h1
                      have h2 : ((⟨(oK (txts ps)).toArray⟩ : ByteArray) ++ ⟨#[7]⟩).data.size = ((⟨(oK (txts ps)).toArray⟩ : ByteArray) ++ ⟨#[7]⟩).size := rfl
                      simp only [List.length_cons, List.length_nil] at h1
                      omega
                    · rintro e w8 ⟨hb8', hp8⟩
                      have hp8 : (cutO ((⟨(oK (txts ps)).toArray⟩ : ByteArray) ++ ⟨#[7]⟩).data.toList = none ∧ _) ∨ ∃ s r, cutO ((⟨(oK (txts ps)).toArray⟩ : ByteArray) ++ ⟨#[7]⟩).data.toList = some (s, r) ∧ e = .returned (.tuple #[.string ⟨s.toArray⟩, .string ⟨r.toArray⟩, .bool true]) := hp8
                      rw [app7, cut_first ps hpos] at hp8
                      obtain rfl : e = .returned (.tuple #[.string ps[0], .string (⟨(oK (txts ps.tail)).toArray⟩ ++ ⟨#[7]⟩), .bool true]) := by
                        rcases hp8 with ⟨h, _⟩ | ⟨s, r, h, he⟩
                        · cases h
                        · injection h with h
                          injection h with h1 h2
                          subst h1 h2
                          rw [he, app7']
                          rfl
                      have hb8 := hbx2.trans (hb8'.mono hzx2)
                      obtain ⟨gp, op, hap, hgp, hcp⟩ : ∃ g o, a = some ⟨g, o, none⟩ ∧ g < w8.heap.size ∧ ∀ i (h : i < ps.length), w8.cell? ⟨g, o + i, none⟩ = some (.string ps[i]) := by
                        rcases (wa.below hb8).1 with h | h
                        · rw [h] at hpos; simp at hpos
                        · exact h
                      subst hap
                      have hc0 := hcp 0 hpos
                      rw [Nat.add_zero] at hc0
                      obtain ⟨at', ct', hsl, hrowt⟩ := tail_row' (wa.below hb8) hpos
                      have hkl := oK_tail_le ps
                      have hkl2 : (oK (txts ps.tail)).length ≤ 1000000 := by omega
                      have hkt := key_any at' ct' ps.tail w8 hrowt (by omega) (by rw [List.length_tail]; omega)
                      rw [List.length_tail] at hkt
                      generalize ps[0] = p0 at hc0 ⊢
                      have hl0 : (0 : Int) < (ps.length : Int) := by omega
                      have hl1 : (1 : Int) ≤ (ps.length : Int) := by omega
                      clear hcp hp8 hb8' hbx2 hzx2 hcv7' hkl hrowt
                      go_wp2_with fail
                      refine hkt.mono ?_
                      rintro e w9 ⟨rfl, hb9'⟩
                      have hb9 := hb8.trans (hb9'.mono hb8.size)
                      clear hkt hb9' hb8
                      go_wp2
                      go_ret
                      exact ⟨ret_bool (by simp), hb9⟩
          · have hsgn := sign_any ((ps.length : Int) - (qs.length : Int))
            rw [hsg] at hsgn
            have q1 : ¬ (j : Int) < (ps.length : Int) ∨ ((j : Int) < (ps.length : Int) ∧ ¬ (j : Int) < (qs.length : Int)) := by omega
            clear hno hsg
            rcases q1 with q1 | ⟨q1, q2⟩
            all_goals
              go_wp2_with (go_at_call 13; refine (hsgn _).mono ?_; rintro e w7 ⟨rfl, rfl⟩)
              refine hparts.mono ?_
              rintro e w6 ⟨hb6', hp⟩
              obtain ⟨a6, c6, hown6, rfl⟩ : ∃ a6 c6, Ss wr.heap.size w6 (.slice a6 ps.length c6) ps ∧ e = .returned (.tuple #[.slice a6 ps.length c6, .int .i64 0]) := by
                rcases hp with ⟨hno, _⟩ | ⟨ps', a', c', hk', he', ho'⟩
                · exact absurd rfl (hno (txts ps))
                · obtain rfl := txts_inj (oK_inj _ _ hk')
                  exact ⟨a', c', ho', he'⟩
              have hb6 := hb.trans (hb6'.mono hz)
              have hz6 := hb6.size
              have hrow6 := hown6.srow.2
              have hby6 := ordTexts.by_lists (oK (txts ps)) (oK (txts qs)) w6
              rw [HCMP.out] at hby6
              clear hb6' hparts hp hown6 hb
              go_wp2_with fail
              refine hby6.mono ?_
              rintro e w7 ⟨rfl, rfl⟩
              clear hby6
              go_wp2
              go_loopw [101] (fun i wr => ∃ m : Nat, m ≤ ps.length ∧ i = .int .i64 m ∧ Below w6.heap.size w6 wr) (fun i _ => ps.length - (intOf i).toNat)
              case atStart => exact ⟨0, Nat.zero_le _, rfl, Below.refl _ _⟩
              case round =>
                obtain ⟨m, hm, rfl, hbx⟩ := hrel
                have hbw := hb6.trans (hbx.mono hz6)
                have hzw := hbw.size
                by_cases g1 : m < ps.length
                · obtain ⟨gp, op, hap, hgp, hcp⟩ : ∃ g o, a = some ⟨g, o, none⟩ ∧ g < wr.heap.size ∧ ∀ i (h : i < ps.length), wr.cell? ⟨g, o + i, none⟩ = some (.string ps[i]) := by
                    rcases (wa.below hbw).1 with h | h
                    · rw [h] at g1; simp at g1
                    · exact h
                  obtain ⟨gq, oq, hbq, hgq, hcq⟩ : ∃ g o, a6 = some ⟨g, o, none⟩ ∧ g < wr.heap.size ∧ ∀ i (h : i < ps.length), wr.cell? ⟨g, o + i, none⟩ = some (.string ps[i]) := by
                    rcases hrow6.below hbx with h | h
                    · rw [h] at g1; simp at g1
                    · exact h
                  subst hap hbq
                  have hcpm := hcp m g1
                  have hcqm := hcq m g1
                  generalize ps[m] = sp at hcpm hcqm
                  have hml : (m : Int) < (ps.length : Int) := by omega
                  clear hcp hcq
                  go_wp2_with fail
                  go_quiet (fail)
                  go_wp2
                  go_roundw
                  case rel => exact ⟨m + 1, by omega, by go_num, below_drewN hbx _⟩
                  case measure => simp [intOf]; omega
                · have hge : ¬ (m : Int) < (ps.length : Int) := by omega
                  clear g1 hb6 hrow6 hbx hz6
                  by_cases hp0 : ps = []
                  · have hX : oK (txts ps) = [] := by rw [hp0]; rfl
                    have hn0 : (ps.length : Int) = 0 := by rw [hp0]; rfl
                    clear hp0
                    go_wp2
                    all_goals (go_ret; exact ⟨rfl, hbw⟩)
                  · have hpos : 0 < ps.length := List.length_pos_iff.2 hp0
                    have hn0 : ((ps.length : Int) == 0) = false := by rw [beq_eq_false_iff_ne]; omega
                    have hcv7 := run_convert_bytes_back (P := Try.prog) (wr.alloc (.cells #[.int .u8 7] 5)) 32 9 5 ⟨wr.heap.size, 0, none⟩ 1 [7] Try.underlying32 Try.underlying5 Try.underlying9 (fun j hj => by
                      obtain rfl : j = 0 := by simpa using hj
                      simp [Addr.add])
                    have hcv7' : (convert 32 9 (.slice (some ⟨wr.heap.size, 0, none⟩) 1 1)).run Try.prog (wr.alloc (.cells #[.int .u8 7] 5)) = .ok (.string ⟨#[7]⟩) (wr.alloc (.cells #[.int .u8 7] 5)) := hcv7
                    have hbx2 := hbw.alloc hzw (.cells #[.int .u8 7] 5)
                    have hzx2 := hbx2.size
                    clear hcv7 hp0
                    go_wp2_with fail
                    refine (cut_any _ ?_ _).mono ?_
                    · show ((⟨(oK (txts ps)).toArray⟩ : ByteArray) ++ ⟨#[7]⟩).size ≤ 1000000
                      have h1 := congrArg List.length (app7 (oK (txts ps)))
                      rw [Array.length_toList, List.length_append] at h1
                      have h2 : ((⟨(oK (txts ps)).toArray⟩ : ByteArray) ++ ⟨#[7]⟩).data.size = ((⟨(oK (txts ps)).toArray⟩ : ByteArray) ++ ⟨#[7]⟩).size := rfl
                      simp only [List.length_cons, List.length_nil] at h1
                      omega
                    · rintro e w8 ⟨hb8', hp8⟩
                      have hp8 : (cutO ((⟨(oK (txts ps)).toArray⟩ : ByteArray) ++ ⟨#[7]⟩).data.toList = none ∧ _) ∨ ∃ s r, cutO ((⟨(oK (txts ps)).toArray⟩ : ByteArray) ++ ⟨#[7]⟩).data.toList = some (s, r) ∧ e = .returned (.tuple #[.string ⟨s.toArray⟩, .string ⟨r.toArray⟩, .bool true]) := hp8
                      rw [app7, cut_first ps hpos] at hp8
                      obtain rfl : e = .returned (.tuple #[.string ps[0], .string (⟨(oK (txts ps.tail)).toArray⟩ ++ ⟨#[7]⟩), .bool true]) := by
                        rcases hp8 with ⟨h, _⟩ | ⟨s, r, h, he⟩
                        · cases h
                        · injection h with h
                          injection h with h1 h2
                          subst h1 h2
                          rw [he, app7']
                          rfl
                      have hb8 := hbx2.trans (hb8'.mono hzx2)
                      obtain ⟨gp, op, hap, hgp, hcp⟩ : ∃ g o, a = some ⟨g, o, none⟩ ∧ g < w8.heap.size ∧ ∀ i (h : i < ps.length), w8.cell? ⟨g, o + i, none⟩ = some (.string ps[i]) := by
                        rcases (wa.below hb8).1 with h | h
                        · rw [h] at hpos; simp at hpos
                        · exact h
                      subst hap
                      have hc0 := hcp 0 hpos
                      rw [Nat.add_zero] at hc0
                      obtain ⟨at', ct', hsl, hrowt⟩ := tail_row' (wa.below hb8) hpos
                      have hkl := oK_tail_le ps
                      have hkl2 : (oK (txts ps.tail)).length ≤ 1000000 := by omega
                      have hkt := key_any at' ct' ps.tail w8 hrowt (by omega) (by rw [List.length_tail]; omega)
                      rw [List.length_tail] at hkt
                      generalize ps[0] = p0 at hc0 ⊢
                      have hl0 : (0 : Int) < (ps.length : Int) := by omega
                      have hl1 : (1 : Int) ≤ (ps.length : Int) := by omega
                      clear hcp hp8 hb8' hbx2 hzx2 hcv7' hkl hrowt
                      go_wp2_with fail
                      refine hkt.mono ?_
                      rintro e w9 ⟨rfl, hb9'⟩
                      have hb9 := hb8.trans (hb9'.mono hb8.size)
                      clear hkt hb9' hb8
                      go_wp2
                      go_ret
                      exact ⟨ret_bool (by simp), hb9⟩

theorem walk {w : World} (a : Option Addr) (la ca : Nat) (hwa : ∃ ps, Came w a la ca ps) (b : Option Addr) (lb cb : Nat) (hwb : ∃ qs, Came w b lb cb qs) :
    Calls Try.prog 3 #[.slice a la ca, .slice b lb cb] w fun e w' => e = .returned (.bool true) ∧ Below w.heap.size w w' := by
  obtain ⟨ps, wa⟩ := hwa
  obtain ⟨qs, wb⟩ := hwb
  by_cases h : 10 < la ∨ 10 < lb
  · exact walk_long a la ca b lb cb w h
  · exact walk_main a la ca ps b lb cb qs w wa wb (by omega) (by omega)

end Go.Proofs.Ytcmiflkalgpdjaa.ordKeys
