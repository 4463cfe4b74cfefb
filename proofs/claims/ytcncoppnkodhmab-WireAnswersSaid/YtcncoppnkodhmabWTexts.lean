/-
  wire: readTexts' contract.
-/
import Derived.Test.YtcncoppnkodhmabWARead
namespace Go.Proofs.Ytcncoppnkodhmab
open Go.RowKit bsK rdS Go.Proofs.Ytcncoppnkodhmab.tRow

set_option linter.unusedVariables false
set_option linter.unusedSimpArgs false

/-- what readTexts comes to -/
def txsOf (l : L) : Option (List ByteArray × L) := match numRead l 9223372036854775807 with
  | none => none
  | some (n, r) => txL n r

/-- what readTexts answers -/
def TextsP (b : Nat) (q : Option (List ByteArray × L)) (w : World) (e : Ending) (w' : World) : Prop :=
  (q = none ∧ e = .returned (.slice none 0 0) ∧ GS w b none w') ∨ ∃ ps r a c, q = some (ps, r) ∧ e = .returned (.slice a ps.length c) ∧ Ss w.heap.size w' (.slice a ps.length c) ps ∧ GS w b (some r) w'

theorem num_none (b : Nat) (most : Int) (w : World) (h : RS w b none) :
    Calls Try.prog 23 #[.pointer (some ⟨b, 0, none⟩), .int .i64 most] w fun e w' => e = .returned (.int .i64 0) ∧ GS w b none w' := num_fail b most w h

/-- a round of the loop, in memory -/
def TxI (W1 : World) (b : Nat) (r0 : L) (j : Nat) (v : Value) (wr : World) : Prop := ∃ ps r, txL j r0 = some (ps, r) ∧ RS wr b (some r) ∧ Ss W1.heap.size wr v ps ∧ W1.grownBy wr (some b) ∧ b < W1.heap.size

theorem ss_kept {B b : Nat} {w w' : World} {v : Value} {ps : List ByteArray} (h : Ss B w v ps) (hg : w.grownBy w' (some b)) (hb : b < B) : Ss B w' v ps := World.ownsRow.kept h hg (by
  by_cases hv : v.ownBlock = none
  · exact .inl hv
  · refine .inr fun e => ?_
    have := (World.ownsRow.lt h _ e).1
    omega)

set_option maxHeartbeats 4000000 in
set_option maxRecDepth 100000 in
theorem wtexts_ok (b : Nat) (l : L) (hl : l.length ≤ 900000) (w : World) (h : RS w b (some l)) :
    Calls Try.prog 26 #[.pointer (some ⟨b, 0, none⟩)] w (TextsP b (txsOf l) w) := by
  have hNum := num_s b (some l) 9223372036854775807 9223372036854775807 rfl (by omega) w h
  cases hn : numRead l 9223372036854775807 with
  | none =>
    have hq : txsOf l = none := by unfold txsOf; rw [hn]
    rw [hq]
    have e1 : numS (some l) 9223372036854775807 = (0, none) := by unfold numS; simp only; rw [hn]
    rw [e1] at hNum
    have HN := Lib.hid hNum
    clear hNum hq hn h
    go_enter Try.func26, Try.ntmps26
    go_wp2_with fail
    refine HN.out.mono ?_
    rintro e w1 ⟨rfl, hg⟩
    have HG := Lib.hid hg
    clear hg HN
    go_wp2_with fail
    go_loopw [7, 3] (fun i v wr => i = .int .i64 0 ∧ v = .slice none 0 0 ∧ wr = w1) (fun i _ _ => 0)
    case atStart => exact ⟨rfl, rfl, rfl⟩
    case round =>
      obtain ⟨rfl, rfl, rfl⟩ := hrel
      go_wp2
      go_ret
      exact .inl ⟨rfl, rfl, HG.out⟩
  | some p =>
    obtain ⟨n, r0⟩ := p
    have hq : txsOf l = txL n r0 := by unfold txsOf; rw [hn]
    rw [hq]
    have e1 : numS (some l) 9223372036854775807 = (n, some r0) := by unfold numS; simp only; rw [hn]
    rw [e1] at hNum
    have hn63 := (numRead_len hn).2
    have hrl := (numRead_len hn).1
    have HN := Lib.hid hNum
    have HN63 := Lib.hid hn63
    have HRL : Hid (r0.length ≤ 900000) := Lib.hid (by omega)
    have HBL := Lib.hid h.lt
    clear hNum hq hn h e1 hn63 hrl
    go_enter Try.func26, Try.ntmps26
    go_wp2_with fail
    refine HN.out.mono ?_
    rintro e w1 ⟨rfl, hg⟩
    have H1 : Hid (TxI w b r0 0 (.slice none 0 0) w1) := Lib.hid ⟨[], r0, rfl, hg.1, World.ownsRow_nil w1 w.heap.size 9 1, hg.2, HBL.out⟩
    clear hg HN
    go_wp2_with fail
    go_loopw [7, 3] (fun i v wr => ∃ j : Nat, j ≤ n ∧ i = .int .i64 (j : Int) ∧ Hid (TxI w b r0 j v wr)) (fun i _ _ => n - (intOf i).toNat)
    case atStart => exact ⟨0, Nat.zero_le _, rfl, H1⟩
    case round =>
      obtain ⟨j, hj, rfl, hst⟩ := hrel
      clear H1
      obtain ⟨ps, r, htx, hrs, hss, hgw, hbl⟩ := hst.out
      have hpl := txL_len htx
      have hpj := (txL_back j htx).2
      by_cases hlt : j < n
      · have hltI : (j : Int) < (n : Int) := by omega
        have HT := Lib.hid (text_s b (some r) (fun l' e => by injection e with e; rw [← e]; have := HRL.out; omega) 9223372036854775807 9223372036854775807 rfl (by omega) wr hrs)
        cases htr : textRead r 9223372036854775807 with
        | none =>
          have e2 : textS (some r) 9223372036854775807 = ([], none) := by unfold textS; simp only; rw [htr]
          rw [e2] at HT
          have HQ : Hid (txL n r0 = none) := Lib.hid (txL_none (k := j + 1) (by rw [txL_next htx, htr]) (by omega))
          have HGW := Lib.hid hgw
          clear htr e2 hst htx hrs hss hgw hpl hpj HRL HN63 hbl
          go_wp2_with fail
          refine HT.out.mono ?_
          rintro e w2 ⟨rfl, hg2⟩
          have HE := Lib.hid (err_bad b ⟨#[]⟩ w2 hg2.1)
          have HG2 : Hid (GS w b none w2) := Lib.hid ⟨hg2.1, grown_trans HGW.out hg2.2 (.inl rfl)⟩
          clear hg2 HT HGW
          go_wp2_with fail
          refine HE.out.mono ?_
          rintro e w3 ⟨rfl, rfl⟩
          clear HE
          go_wp2
          go_ret
          exact .inl ⟨HQ.out, rfl, HG2.out⟩
        | some u =>
          obtain ⟨t, r'⟩ := u
          have e2 : textS (some r) 9223372036854775807 = (t, some r') := by unfold textS; simp only; rw [htr]
          rw [e2] at HT
          have HX : Hid (txL (j + 1) r0 = some (ps ++ [⟨t.toArray⟩], r')) := Lib.hid (by rw [txL_next htx, htr])
          have HGW := Lib.hid hgw
          have HSS := Lib.hid hss
          have HPS : Hid (ps.length + 1 ≤ 1000000) := Lib.hid (by have := HRL.out; omega)
          have HPJ := Lib.hid hpj
          clear htr e2 hst htx hrs hss hgw hpl hpj HRL hbl
          go_wp2_with fail
          refine HT.out.mono ?_
          rintro e w2 ⟨rfl, hg2⟩
          have HE := Lib.hid (err_good b _ w2 hg2.1)
          have HG2 : Hid (RS w2 b (some r') ∧ w.grownBy w2 (some b) ∧ Ss w.heap.size w2 u3 ps) := Lib.hid ⟨hg2.1, grown_trans HGW.out hg2.2 (.inl rfl), ss_kept HSS.out hg2.2 HBL.out⟩
          clear hg2 HT HGW HSS
          go_wp2_with fail
          refine HE.out.mono ?_
          rintro e w3 ⟨rfl, rfl⟩
          clear HE
          have hown3 : Ss w.heap.size (w2.alloc (.cells #[.string ⟨t.toArray⟩] 9)) u3 ps := World.ownsRow.alloc HG2.out.2.2 _
          have hrow3 : SRow (w2.alloc (.cells #[.string ⟨t.toArray⟩] 9)) (some ⟨w2.heap.size, 0, none⟩) [⟨t.toArray⟩] := .inr ⟨w2.heap.size, 0, rfl, by simp, fun i hi => by
            obtain rfl : i = 0 := by simpa using hi
            simp⟩
          have hz3 : w.heap.size ≤ (w2.alloc (.cells #[.string ⟨t.toArray⟩] 9)).heap.size := by have := HG2.out.2.1.size; rw [World.size_alloc]; omega
          go_wp2_with (at_builtin; refine wpList_app_s _ rfl (.tmp 14) (.tmp 16) rfl w.heap.size u3 ps rfl hown3 _ 1 1 [⟨t.toArray⟩] hrow3 rfl (fun h => by cases h) rfl HPS.out hz3 ?_; intro v4 w4 hown4 hup4)
          have HR4 : Hid (TxI w b r0 (j + 1) v4 w4) := Lib.hid (by
            obtain ⟨g1, g2, g3⟩ := HG2.out
            have hub : ∀ q, u3.ownBlock = some q → w.heap.size ≤ q := fun q e => (World.ownsRow.lt hown3 q e).1
            have hb := HBL.out
            have hbl2 : b < (w2.alloc (.cells #[.string ⟨t.toArray⟩] 9)).heap.size := by omega
            have g4 : RS w4 b (some r') := (g1.keep (Below.heap_alloc w2 (.cells #[.string ⟨t.toArray⟩] 9) b (by have := g2.size; omega))).keep (hup4.1.block b hbl2 fun e => by have := hub b e.symm; omega)
            refine ⟨_, r', HX.out, g4, hown4, ?_, hb⟩
            exact grown_trans (grown_trans g2 (World.grownBy_alloc w2 (.cells #[.string ⟨t.toArray⟩] 9) (some b)) (.inl rfl)) hup4.1 (.inr hub))
          have hw : wrap64 ((j : Int) + 1) = ((j + 1 : Nat) : Int) := by have := HN63.out; unfold wrap64; omega
          exact ⟨⟨j + 1, by omega, by rw [hw], HR4⟩, by rw [hw]; simp [intOf]; omega⟩
      · obtain rfl : j = n := by omega
        have hge : ¬ ((j : Int) < (j : Int)) := by omega
        obtain ⟨a, c, hv⟩ := hss.form
        subst hv
        have HQ := Lib.hid htx
        have HS := Lib.hid hss
        have HG : Hid (GS w b (some r) wr) := Lib.hid ⟨hrs, hgw⟩
        clear hst htx hrs hss hgw hpl hbl hpj
        go_wp2
        go_ret
        exact .inr ⟨ps, r, a, c, HQ.out, rfl, HS.out, HG.out⟩

end Go.Proofs.Ytcncoppnkodhmab
