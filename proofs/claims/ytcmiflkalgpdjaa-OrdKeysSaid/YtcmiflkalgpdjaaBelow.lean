/-
  OrdBelow: for every two lists of texts the law's function returns true, and writes nothing that was there.
-/
import Derived.Test.YtcmiflkalgpdjaaSRow
import Derived.Test.YtcmiflkalgpdjaaAfters
import Derived.Deep.QuietTactic
import Derived.BigQuiet
namespace Go.Proofs.Ytcmiflkalgpdjaa.ordBelow
open Go.RowKit Go.Proofs.Ytcmiflkalgpdjaa.rowB Go.Proofs.Ytcmiflkalgpdjaa.sRow

theorem oK_length_le (m : Nat) (ps : List ByteArray) (h : ∀ p ∈ ps, p.size ≤ m) : (oK (txts ps)).length ≤ (2 * m + 2) * ps.length := by
  induction ps with
  | nil => simp [txts, oK]
  | cons p ps ih =>
    have h1 := oT_length (txt p)
    rw [txt_length] at h1
    have h2 := h p (by simp)
    have h3 := ih fun q hq => h q (by simp [hq])
    have e : oK (txts (p :: ps)) = oT (txt p) ++ oK (txts ps) := rfl
    rw [e, List.length_append, List.length_cons, Nat.mul_add]
    omega

def preB (a b : List ByteArray) (k : Nat) : Bool := decide (a.length ≤ b.length ∧ a.take k = b.take k)

theorem preB_succ (a b : List ByteArray) (k : Nat) (ha : k < a.length) (hb : k < b.length) : preB a b (k + 1) = (preB a b k && (a[k].toList == b[k].toList)) := by
  unfold preB
  rw [List.take_succ_eq_append_getElem ha, List.take_succ_eq_append_getElem hb]
  rw [Bool.eq_iff_iff, Bool.and_eq_true, decide_eq_true_eq, decide_eq_true_eq, beq_iff_eq]
  constructor
  · rintro ⟨h0, h⟩
    have h1 := List.append_inj h (by simp; omega)
    exact ⟨⟨h0, h1.1⟩, by simpa using congrArg ByteArray.toList (by simpa using h1.2)⟩
  · rintro ⟨⟨h0, h1⟩, h2⟩
    rw [h1]
    rw [Lib.toList_data, Lib.toList_data] at h2
    have : a[k] = b[k] := by apply ByteArray.ext; exact Array.toList_inj.1 h2
    exact ⟨h0, by rw [this]⟩

theorem txts_inj : ∀ {a b : List ByteArray}, txts a = txts b → a = b
  | [], [], _ => rfl
  | [], _ :: _, h => by simp [txts] at h
  | _ :: _, [], h => by simp [txts] at h
  | x :: a, y :: b, h => by
    simp only [txts, List.map_cons, List.cons.injEq] at h
    rw [txt_inj h.1, txts_inj (a := a) (b := b) h.2]

theorem txts_prefix {a b : List ByteArray} : txts a <+: txts b ↔ a <+: b := by
  constructor
  · intro h
    have e := List.prefix_iff_eq_take.1 h
    rw [txts_length] at e
    have e2 : txts a = txts (b.take a.length) := by rw [e]; simp [txts]
    rw [txts_inj e2]
    exact List.take_prefix _ _
  · rintro ⟨t, rfl⟩
    exact ⟨txts t, by simp [txts]⟩

theorem preB_false {a b : List ByteArray} {k : Nat} (hk : k ≤ a.length) (h : preB a b k = false) : decide (txts a <+: txts b) = false := by
  rw [decide_eq_false_iff_not, txts_prefix]
  rintro ⟨t, e⟩
  unfold preB at h
  rw [decide_eq_false_iff_not] at h
  refine h ⟨?_, ?_⟩
  · rw [← e, List.length_append]; omega
  · rw [← e, List.take_append_of_le_length hk]

theorem preB_all (a b : List ByteArray) : preB a b a.length = decide (txts a <+: txts b) := by
  unfold preB
  rw [Bool.eq_iff_iff, decide_eq_true_eq, decide_eq_true_eq, txts_prefix, List.take_length]
  constructor
  · rintro ⟨_, h⟩; rw [h]; exact List.take_prefix _ _
  · intro h; exact ⟨h.length_le, List.prefix_iff_eq_take.1 h⟩

theorem pre_not_lt {x y : L8} (h : x <+: y) : ¬ y < x := by
  obtain ⟨t, rfl⟩ := h
  intro k
  have : x ++ t < x ++ [] := by rw [List.append_nil]; exact k
  rw [lt_append_left] at this
  exact absurd this (List.not_lt_nil _)

theorem oK_some {ps : List L8} (h : ps ≠ []) : ∃ e, aft (oK ps) = some e := by
  refine ordAfters.aft_of_not _ fun k => ?_
  obtain ⟨qs, q, rfl⟩ : ∃ qs q, ps = qs ++ [q] := ⟨ps.dropLast, ps.getLast h, (List.dropLast_concat_getLast h).symm⟩
  rw [oK_append] at k
  have := k 1 (by simp [oK, oT])
  exact absurd this (by decide)

/-- what the law asks of the keys -/
theorem below_law (a b : List L8) (e : L8) (he : aft (oK a) = some e) : (decide (a <+: b) == (!Op.bytesLess (oK b) (oK a) && Op.bytesLess (oK b) e)) = true := by
  obtain ⟨f1, f2, _⟩ := aft_some _ _ he
  rw [beq_iff_eq, Proofs.bytesLess_eq, Proofs.bytesLess_eq]
  by_cases hp : a <+: b
  · have hk := (oK_prefix a b).2 hp
    simp [hp, pre_not_lt hk, f1 _ hk]
  · have hk : ¬ oK a <+: oK b := fun k => hp ((oK_prefix a b).1 k)
    rcases f2 _ hk with g | g
    · simp [hp, g]
    · simp [hp, g]

theorem walk_long (a : Option Addr) (la ca : Nat) (b : Option Addr) (lb cb : Nat) (w : World) (h : 6 < la ∨ 6 < lb) :
    Calls Try.prog 7 #[.slice a la ca, .slice b lb cb] w fun e w' => e = .returned (.bool true) ∧ Below w.heap.size w w' := by
  by_cases h1 : 6 < la
  · have h1' : (6 : Int) < (la : Int) := by omega
    clear h
    go_enter Try.func7, Try.ntmps7
    go_wp2_with (go_at_call 10; refine (ohead_any _).mono ?_; rintro e w1 ⟨rfl, hb1⟩)
    go_ret
    exact ⟨rfl, hb1⟩
  · have h1' : ¬ (6 : Int) < (la : Int) := by omega
    have h2' : (6 : Int) < (lb : Int) := by omega
    clear h
    go_enter Try.func7, Try.ntmps7
    go_wp2_with (go_at_call 10; refine (ohead_any _).mono ?_; rintro e w1 ⟨rfl, hb1⟩)
    go_ret
    exact ⟨rfl, hb1⟩

set_option maxHeartbeats 4000000 in
theorem walk_main (a : Option Addr) (la ca : Nat) (ps : List ByteArray) (b : Option Addr) (lb cb : Nat) (qs : List ByteArray) (w : World) (wa : Came w a la ca ps) (wb : Came w b lb cb qs) (h1 : la ≤ 6) (h2 : lb ≤ 6) :
    Calls Try.prog 7 #[.slice a la ca, .slice b lb cb] w fun e w' => e = .returned (.bool true) ∧ Below w.heap.size w w' := by
  have h1' : ¬ (6 : Int) < (la : Int) := by omega
  have h2' : ¬ (6 : Int) < (lb : Int) := by omega
  obtain rfl : la = ps.length := wa.2.1.symm
  obtain rfl : lb = qs.length := wb.2.1.symm
  have HCA := Lib.hid wa.2.2.2.2.1
  have HCB := Lib.hid wb.2.2.2.2.1
  go_enter Try.func7, Try.ntmps7
  go_wp2_with fail
  refine (ohead_any _).mono ?_
  rintro e w1 ⟨rfl, hb1⟩
  have hz1 := hb1.size
  have hbe := hb1.alloc hz1 (.cells #[] 9)
  have hze := hbe.size
  have hrowa := (wa.below hbe).1
  have howne := ss_empty w1 w.heap.size hz1
  go_wp2_with (first
    | (at_builtin
       refine wpList_app_s _ rfl (.tmp 23) (.tmp 24) rfl w.heap.size _ [] rfl howne a ps.length ca ps hrowa rfl HCA.out rfl (by simp; omega) hze ?_
       intro v2 w2 hown2 hup2
       rw [List.nil_append] at hown2
       have hb2 := hbe.trans (Ss.upBelow hup2 howne hze)
       have hz2 := hb2.size
       have hrowb := (wb.below hb2).1
       clear hup2)
    | (at_builtin
       refine wpList_app_s _ rfl (.tmp 25) (.tmp 26) rfl w.heap.size _ ps rfl hown2 b qs.length cb qs hrowb rfl HCB.out rfl (by omega) hz2 ?_
       intro v3 w3 hown3 hup3
       have hb3 := hb2.trans (Ss.upBelow hup3 hown2 hz2)
       have hz3 := hb3.size
       obtain ⟨a3, c3, rfl⟩ := hown3.form
       have hrow3 := hown3.srow.2
       clear hup3 hown3 hrowb))
  have hlen3 : (ps ++ qs).length = ps.length + qs.length := List.length_append
  have HL := Lib.hid hlen3
  clear hlen3 hown2 howne
  go_loop [29] (fun c => ∃ k : Nat, k ≤ ps.length + qs.length ∧ c = .int .i64 k ∧ ∀ i (h : i < (ps ++ qs).length), i < k → (ps ++ qs)[i].size ≤ 40) (fun c => ps.length + qs.length - (intOf c).toNat)
  case atStart => exact ⟨0, Nat.zero_le _, rfl, fun i h hi => by omega⟩
  case round =>
    obtain ⟨k, hk, rfl, hall⟩ := hrel
    have HALL := Lib.hid hall
    clear hall
    by_cases hlt : k < ps.length + qs.length
    · have hlt' : (k : Int) < (ps.length : Int) + (qs.length : Int) := by omega
      have hkl : k < (ps ++ qs).length := by rw [HL.out]; exact hlt
      obtain ⟨g3, o3, rfl, hg3, hc3⟩ : ∃ g o, a3 = some ⟨g, o, none⟩ ∧ g < w3.heap.size ∧ ∀ i (h : i < (ps ++ qs).length), w3.cell? ⟨g, o + i, none⟩ = some (.string (ps ++ qs)[i]) := by
        rcases hrow3 with h | h
        · rw [h] at hkl; simp at hkl
        · exact h
      have hck := hc3 k hkl
      have hcomb : Hid ((ps ++ qs)[k]'hkl = (ps ++ qs)[k]'hkl) := Lib.hid rfl
      generalize hs : (ps ++ qs)[k]'hkl = s at hck
      have HS := Lib.hid hs
      clear hc3 hs hcomb hrow3
      by_cases h40 : 40 < s.size
      · have h40' : (40 : Int) < (s.size : Int) := by omega
        go_wp2
        go_ret
        exact ⟨rfl, hb3⟩
      · have h40' : ¬ (40 : Int) < (s.size : Int) := by omega
        have H40 := Lib.hid h40
        clear h40
        go_wp2
        go_round
        case rel =>
          refine ⟨k + 1, by omega, by go_num, fun i hi hik => ?_⟩
          by_cases e : i = k
          · subst e; rw [HS.out]; have := H40.out; omega
          · exact HALL.out i hi (by omega)
        case measure => simp [intOf]; omega
    · have hge : ¬ (k : Int) < (ps.length : Int) + (qs.length : Int) := by omega
      have hsp : ∀ p ∈ ps, p.size ≤ 40 := fun p hp => by
        obtain ⟨i, hi, rfl⟩ := List.getElem_of_mem hp
        have := HALL.out i (by rw [HL.out]; omega) (by omega)
        rwa [List.getElem_append_left hi] at this
      have hsq : ∀ p ∈ qs, p.size ≤ 40 := fun p hp => by
        obtain ⟨i, hi, rfl⟩ := List.getElem_of_mem hp
        have := HALL.out (ps.length + i) (by rw [HL.out]; omega) (by omega)
        rw [List.getElem_append_right (by omega)] at this
        simpa using this
      have hKP := oK_length_le 40 ps hsp
      have hKQ := oK_length_le 40 qs hsq
      clear hlt hsp hsq HALL hrow3
      have h0 : Hid (preB ps qs 0 = decide (ps.length ≤ qs.length)) := Lib.hid (by unfold preB; simp)
      have hle : Hid (decide ((ps.length : Int) ≤ (qs.length : Int)) = decide (ps.length ≤ qs.length)) := Lib.hid (by rw [Bool.eq_iff_iff, decide_eq_true_eq, decide_eq_true_eq]; omega)
      go_wp2
      go_loopw [7, 8] (fun bg i wr => ∃ k : Nat, k ≤ ps.length ∧ i = .int .i64 k ∧ bg = .bool (preB ps qs k) ∧ Below w.heap.size w wr) (fun _ i _ => ps.length - (intOf i).toNat)
      case atStart => exact ⟨0, Nat.zero_le _, rfl, by rw [h0.out, ← hle.out], hb3⟩
      case round =>
        clear h0 hle hge hk
        obtain ⟨j, hj, rfl, rfl, hb⟩ := hrel
        clear hb3 hz3
        have hz := hb.size
        by_cases hgo : preB ps qs j = true ∧ j < ps.length
        · obtain ⟨hpre, hjl⟩ := hgo
          have hjq : j < qs.length := by
            unfold preB at hpre
            have := of_decide_eq_true hpre
            omega
          have hs := preB_succ ps qs j hjl hjq
          rw [hpre] at hs ⊢
          obtain ⟨gp, op, hap, hgp, hcp⟩ : ∃ g o, a = some ⟨g, o, none⟩ ∧ g < wr.heap.size ∧ ∀ i (h : i < ps.length), wr.cell? ⟨g, o + i, none⟩ = some (.string ps[i]) := by
            rcases (wa.below hb).1 with h | h
            · rw [h] at hjl; simp at hjl
            · exact h
          obtain ⟨gq, oq, hbq, hgq, hcq⟩ : ∃ g o, b = some ⟨g, o, none⟩ ∧ g < wr.heap.size ∧ ∀ i (h : i < qs.length), wr.cell? ⟨g, o + i, none⟩ = some (.string qs[i]) := by
            rcases (wb.below hb).1 with h | h
            · rw [h] at hjq; simp at hjq
            · exact h
          subst hap hbq
          have hcpj := hcp j hjl
          have hcqj := hcq j hjq
          generalize ps[j] = sp at hs hcpj
          generalize qs[j] = sq at hs hcqj
          have HS := Lib.hid hs
          have hjl' : (j : Int) < (ps.length : Int) := by omega
          have hjq' : (j : Int) < (qs.length : Int) := by omega
          clear hs hcp hcq hpre
          go_wp2_with fail
          go_quiet (fail)
          go_wp2
          go_roundw
          case rel => exact ⟨j + 1, by omega, by go_num, by rw [HS.out]; rfl, below_drewN hb _⟩
          case measure => simp [intOf]; omega
        · have hend : preB ps qs j = decide (txts ps <+: txts qs) ∧ (preB ps qs j = false ∨ (preB ps qs j = true ∧ j = ps.length)) := by
            cases hpre : preB ps qs j
            · exact ⟨(preB_false hj hpre).symm, .inl rfl⟩
            · have hjl : j = ps.length := by
                rcases Nat.lt_or_ge j ps.length with h | h
                · exact absurd ⟨hpre, h⟩ hgo
                · omega
              refine ⟨?_, .inr ⟨rfl, hjl⟩⟩
              rw [← preB_all, ← hjl, hpre]
          obtain ⟨he, hor⟩ := hend
          clear hgo
          have hka := key_any a ca ps wr ((wa.below hb).1) (by omega) (by omega)
          rcases hor with hf | ⟨ht, rfl⟩
          · rw [hf] at he ⊢
            have HE := Lib.hid he
            clear he hf
            go_wp2_with fail
            refine hka.mono ?_
            rintro e w4 ⟨rfl, hb4'⟩
            have hb4 := hb.trans (hb4'.mono hz)
            have hz4 := hb4.size
            have hkb := key_any b cb qs w4 ((wb.below hb4).1) (by omega) (by omega)
            clear hka hb4' hb hz
            go_wp2_with fail
            refine hkb.mono ?_
            rintro e w5 ⟨rfl, hb5'⟩
            have hb5 := hb4.trans (hb5'.mono hz4)
            have hz5 := hb5.size
            clear hkb hb5' hb4 hz4
            have hls : (⟨(oK (txts ps)).toArray⟩ : ByteArray).size = (oK (txts ps)).length := rfl
            have haf := after_any ⟨(oK (txts ps)).toArray⟩ (by rw [hls]; omega) w5
            clear hls
            go_wp2_with fail
            refine haf.mono ?_
            rintro e w6 hpost
            by_cases hp0 : ps = []
            · exfalso
              have := HE.out
              subst hp0
              simp [txts] at this
            · have hn0 : (((ps.length : Nat) : Int) == 0) = false := by
                rw [beq_eq_false_iff_ne]
                intro k
                exact hp0 (List.eq_nil_of_length_eq_zero (by omega))
              obtain ⟨x, hx⟩ := oK_some (ps := txts ps) (fun k => hp0 (by simpa [txts] using k))
              have hlaw := below_law (txts ps) (txts qs) x hx
              rw [← HE.out] at hlaw
              have HLAW := Lib.hid hlaw
              rcases hpost with ⟨ha, _, _, _⟩ | ⟨x2, ha, rfl, hb6'⟩
              · exfalso
                have ha : aft (oK (txts ps)) = none := ha
                rw [hx] at ha
                cases ha
              · have ha : aft (oK (txts ps)) = some x2 := ha
                rw [hx] at ha
                injection ha with ha
                subst ha
                have hb6 := hb5.trans (hb6'.mono hz5)
                clear hlaw hx hb5 hb6' hz5 haf hp0
                cases e1 : Op.bytesLess (oK (txts qs)) (oK (txts ps)) <;> cases e2 : Op.bytesLess (oK (txts qs)) x
                all_goals
                  rw [e1, e2] at HLAW
                  first
                    | exact absurd HLAW.out (by decide)
                    | (clear HLAW; go_wp2; go_ret; exact ⟨rfl, hb6⟩)
          · rw [ht] at he ⊢
            have HE := Lib.hid he
            clear he ht
            go_wp2_with fail
            refine hka.mono ?_
            rintro e w4 ⟨rfl, hb4'⟩
            have hb4 := hb.trans (hb4'.mono hz)
            have hz4 := hb4.size
            have hkb := key_any b cb qs w4 ((wb.below hb4).1) (by omega) (by omega)
            clear hka hb4' hb hz
            go_wp2_with fail
            refine hkb.mono ?_
            rintro e w5 ⟨rfl, hb5'⟩
            have hb5 := hb4.trans (hb5'.mono hz4)
            have hz5 := hb5.size
            clear hkb hb5' hb4 hz4
            have hls : (⟨(oK (txts ps)).toArray⟩ : ByteArray).size = (oK (txts ps)).length := rfl
            have haf := after_any ⟨(oK (txts ps)).toArray⟩ (by rw [hls]; omega) w5
            clear hls
            go_wp2_with fail
            refine haf.mono ?_
            rintro e w6 hpost
            by_cases hp0 : ps = []
            · subst hp0
              rcases hpost with ⟨_, _, rfl, rfl⟩ | ⟨x2, ha, _, _⟩
              · clear haf
                go_wp2
                go_ret
                exact ⟨rfl, hb5⟩
              · exact absurd (show aft ([] : L8) = some x2 from ha) (by simp [aft])
            · have hn0 : (((ps.length : Nat) : Int) == 0) = false := by
                rw [beq_eq_false_iff_ne]
                intro k
                exact hp0 (List.eq_nil_of_length_eq_zero (by omega))
              obtain ⟨x, hx⟩ := oK_some (ps := txts ps) (fun k => hp0 (by simpa [txts] using k))
              have hlaw := below_law (txts ps) (txts qs) x hx
              rw [← HE.out] at hlaw
              have HLAW := Lib.hid hlaw
              rcases hpost with ⟨ha, _, _, _⟩ | ⟨x2, ha, rfl, hb6'⟩
              · exfalso
                have ha : aft (oK (txts ps)) = none := ha
                rw [hx] at ha
                cases ha
              · have ha : aft (oK (txts ps)) = some x2 := ha
                rw [hx] at ha
                injection ha with ha
                subst ha
                have hb6 := hb5.trans (hb6'.mono hz5)
                clear hlaw hx hb5 hb6' hz5 haf hp0
                cases e1 : Op.bytesLess (oK (txts qs)) (oK (txts ps)) <;> cases e2 : Op.bytesLess (oK (txts qs)) x
                all_goals
                  rw [e1, e2] at HLAW
                  first
                    | exact absurd HLAW.out (by decide)
                    | (clear HLAW; go_wp2; go_ret; exact ⟨rfl, hb6⟩)

theorem walk {w : World} (a : Option Addr) (la ca : Nat) (hwa : ∃ ps, Came w a la ca ps) (b : Option Addr) (lb cb : Nat) (hwb : ∃ qs, Came w b lb cb qs) :
    Calls Try.prog 7 #[.slice a la ca, .slice b lb cb] w fun e w' => e = .returned (.bool true) ∧ Below w.heap.size w w' := by
  obtain ⟨ps, wa⟩ := hwa
  obtain ⟨qs, wb⟩ := hwb
  by_cases h : 6 < la ∨ 6 < lb
  · exact walk_long a la ca b lb cb w h
  · exact walk_main a la ca ps b lb cb qs w wa wb (by omega) (by omega)

end Go.Proofs.Ytcmiflkalgpdjaa.ordBelow
