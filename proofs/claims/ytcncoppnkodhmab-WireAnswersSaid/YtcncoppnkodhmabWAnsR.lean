/-
  wire: ReadAnswer's contract.
-/
import Derived.Test.YtcncoppnkodhmabWTexts
import Derived.Test.YtcncoppnkodhmabWRead
import Derived.Deep.RegionWith
namespace Go.Proofs.Ytcncoppnkodhmab
open Go.RowKit bsK rdS Go.Proofs.Ytcncoppnkodhmab.tRow

set_option linter.unusedVariables false
set_option linter.unusedSimpArgs false

/-- readTexts, whatever the reader's state -/
def txsS (st : St) : Option (List ByteArray × L) := match st with
  | none => none
  | some l => txsOf l
theorem wtextsR_any (b : Nat) (st : St) (hl : ∀ l, st = some l → l.length ≤ 900000) (w : World) (h : RS w b st) :
    Calls Try.prog 26 #[.pointer (some ⟨b, 0, none⟩)] w (TextsP b (txsS st) w) := by
  cases st with
  | some l => exact wtexts_ok b l (hl l rfl) w h
  | none =>
    show Calls _ _ _ _ (TextsP b none w)
    have HN := Lib.hid (num_none b 9223372036854775807 w h)
    clear h hl
    go_enter Try.func26, Try.ntmps26
    go_wp2_with fail
    refine HN.out.mono ?_
    rintro e w1 ⟨rfl, hg⟩
    have HG := Lib.hid hg
    clear hg HN
    go_wp2_with fail
    go_loopw [7, 3] (fun i v wr => i = .int .i64 0 ∧ v = .slice none 0 0 ∧ wr = w1) (fun i _ _ => 0)
    case atStart => exact ⟨rfl, rfl, rfl⟩
    case round =>
      obtain ⟨rfl, rfl, rfl⟩ := hrel
      go_wp2
      go_ret
      exact .inl ⟨rfl, rfl, HG.out⟩

/-- the reader's state behind all -/
def endQ (q : Option (List ByteArray × L)) : St := q.map fun p => p.2
def ansQ (k n : Nat) (q : Option (List ByteArray × L)) : Option (Nat × Nat × List ByteArray) := match q with
  | some (ps, []) => some (k, n, ps)
  | _ => none
theorem ansQ_no {k n : Nat} {q : Option (List ByteArray × L)} (h : ¬ endS (endQ q) = 0) : ansQ k n q = none := by
  unfold ansQ
  split
  · exact absurd rfl h
  · rfl
theorem readAn_st (l : L) : readAn l = ansQ (numS (some l) 1000).1 (numS (numS (some l) 1000).2 1099511627776).1 (txsS (numS (numS (some l) 1000).2 1099511627776).2) := by
  unfold readAn
  cases h1 : numRead l 1000 with
  | none =>
    have e1 : numS (some l) 1000 = (0, none) := by unfold numS; simp only; rw [h1]
    rw [e1]
    rfl
  | some p =>
    obtain ⟨e, l1⟩ := p
    have e1 : numS (some l) 1000 = (e, some l1) := by unfold numS; simp only; rw [h1]
    rw [e1]
    simp only
    cases h2 : numRead l1 1099511627776 with
    | none =>
      have e2 : numS (some l1) 1099511627776 = (0, none) := by unfold numS; simp only; rw [h2]
      rw [e2]
      rfl
    | some p2 =>
      obtain ⟨n, l2⟩ := p2
      have e2 : numS (some l1) 1099511627776 = (n, some l2) := by unfold numS; simp only; rw [h2]
      rw [e2]
      simp only [txsS, txsOf]
      cases h3 : numRead l2 9223372036854775807 with
      | none => rfl
      | some p3 => rfl

/-- the reader, the answer's box, the result's box -/
def RA (w : World) (g : Nat) (W : World) (c : Array Value) (st : St) : Prop :=
  RS W (w.heap.size + 1) st ∧ Below w.heap.size w W ∧ Box W w.heap.size 35 #[.int .i64 0, .int .i64 0, .slice none 0 0] ∧ Box W g 35 c ∧ w.heap.size + 1 < g
theorem RA.reader {w W W' : World} {g : Nat} {c : Array Value} {st st' : St} (h : RA w g W c st) (hg : GS W (w.heap.size + 1) st' W') : RA w g W' c st' := by
  obtain ⟨h1, h2, h3, h4, h5⟩ := h
  exact ⟨hg.1, h2.trans (hg.frame h2.size (by omega)), (hg.other h3.lt (by omega)).trans h3, (hg.other h4.lt (by omega)).trans h4, h5⟩
theorem RA.set {w W : World} {g : Nat} {c : Array Value} {st : St} (h : RA w g W c st) (i : Nat) (u : Value) : RA w g (W.setCell ⟨g, i, none⟩ u) (c.setIfInBounds i u) st := by
  obtain ⟨h1, h2, h3, h4, h5⟩ := h
  exact ⟨h1.keep (Below.heap_setCell W ⟨g, i, none⟩ u _ (by show w.heap.size + 1 ≠ g; omega)), h2.setCell (by show w.heap.size ≤ g; omega) _, Box.setFar h3 (by show w.heap.size ≠ g; omega) _, Box.setSame h4 i u, h5⟩

/-- what ReadAnswer answers -/
def AnsP (q : Option (Nat × Nat × List ByteArray)) (w : World) (e : Ending) (w' : World) : Prop :=
  Below w.heap.size w w' ∧ ((q = none ∧ e = .returned (.tuple #[.agg #[.int .i64 0, .int .i64 0, .slice none 0 0], .int .i64 2])) ∨
    ∃ (k n : Nat) (ps : List ByteArray) (a : Option Addr) (c : Nat), q = some (k, n, ps) ∧ e = .returned (.tuple #[.agg #[.int .i64 (k : Int), .int .i64 (n : Int), .slice a ps.length c], .int .i64 0]) ∧ SRow w' a ps)

theorem Box.three {w : World} {g : Nat} {c0 c1 c2 : Value} {t : TypeId} (h : Box w g t #[c0, c1, c2]) : w.cell? ⟨g, 0, none⟩ = some c0 ∧ w.cell? ⟨g, 1, none⟩ = some c1 ∧ w.cell? ⟨g, 2, none⟩ = some c2 := ⟨h.cell 0, h.cell 1, h.cell 2⟩

/-- the result's box filled -/
theorem RA.fill {w W : World} {g : Nat} {c : Array Value} {st : St} (h : RA w g W c st) (c0 c1 c2 : Value) :
    (w.heap.size < W.heap.size ∧ (∀ i, W.frozen? ⟨w.heap.size, i, none⟩ = false)) ∧ Box (((W.setCell ⟨w.heap.size, 0, none⟩ c0).setCell ⟨w.heap.size, 1, none⟩ c1).setCell ⟨w.heap.size, 2, none⟩ c2) w.heap.size 35 #[c0, c1, c2] ∧ Below w.heap.size w (((W.setCell ⟨w.heap.size, 0, none⟩ c0).setCell ⟨w.heap.size, 1, none⟩ c1).setCell ⟨w.heap.size, 2, none⟩ c2) ∧
      ∀ q, q ≠ w.heap.size → (((W.setCell ⟨w.heap.size, 0, none⟩ c0).setCell ⟨w.heap.size, 1, none⟩ c1).setCell ⟨w.heap.size, 2, none⟩ c2).heap[q]? = W.heap[q]? := by
  obtain ⟨h1, h2, h3, h4, h5⟩ := h
  refine ⟨⟨h3.lt, fun i => Box.free h3 i⟩, ?_, ?_, fun q hq => ?_⟩
  · have := Box.setSame (Box.setSame (Box.setSame h3 0 c0) 1 c1) 2 c2
    exact this
  · exact ((h2.setCell (Nat.le_refl _) _).setCell (Nat.le_refl _) _).setCell (Nat.le_refl _) _
  · exact (Below.heap_setCell _ ⟨w.heap.size, 2, none⟩ c2 q hq).trans ((Below.heap_setCell _ ⟨w.heap.size, 1, none⟩ c1 q hq).trans (Below.heap_setCell _ ⟨w.heap.size, 0, none⟩ c0 q hq))

set_option maxHeartbeats 8000000 in
set_option maxRecDepth 100000 in
theorem wansr_any (s : ByteArray) (hs : s.size ≤ 900000) (w : World) :
    Calls Try.prog 14 #[.string s] w (AnsP (readAn s.data.toList) w) := by
  have hlen : s.data.toList.length = s.size := by rw [Array.length_toList]; rfl
  rw [readAn_st]
  obtain ⟨st, hst⟩ : ∃ st, st = (some s.data.toList : St) := ⟨_, rfl⟩
  rw [← hst]
  have hl0 : ∀ l, st = some l → l.length ≤ 900000 := fun l e => by rw [hst] at e; injection e with e; rw [← e]; omega
  obtain ⟨k, hk⟩ : ∃ k, k = (numS st 1000).1 := ⟨_, rfl⟩
  obtain ⟨s1, hs1⟩ : ∃ s1, s1 = (numS st 1000).2 := ⟨_, rfl⟩
  rw [← hk, ← hs1]
  obtain ⟨n, hn⟩ : ∃ n, n = (numS s1 1099511627776).1 := ⟨_, rfl⟩
  obtain ⟨s2, hs2⟩ : ∃ s2, s2 = (numS s1 1099511627776).2 := ⟨_, rfl⟩
  rw [← hn, ← hs2]
  have hl1 : ∀ l, s1 = some l → l.length ≤ 900000 := fun l e => by
    rw [hs1] at e
    have h1 := (numS_back (show numS st 1000 = ((numS st 1000).1, some l) from Prod.ext rfl e)).1
    have := hl0 _ h1
    rw [List.length_append] at this
    omega
  have hl2 : ∀ l, s2 = some l → l.length ≤ 900000 := fun l e => by
    rw [hs2] at e
    have h1 := (numS_back (show numS s1 1099511627776 = ((numS s1 1099511627776).1, some l) from Prod.ext rfl e)).1
    have := hl1 _ h1
    rw [List.length_append] at this
    omega
  obtain ⟨W0, hW0⟩ : ∃ W0, W0 = (w.alloc (.cells #[.int .i64 0, .int .i64 0, .slice none 0 0] 35)) := ⟨_, rfl⟩
  have hz0 : W0.heap.size = w.heap.size + 1 := by rw [hW0]; simp
  have hb0 : Below w.heap.size w W0 := by rw [hW0]; exact (Below.refl _ w).alloc (Nat.le_refl _) _
  have hB0 : Box W0 w.heap.size 35 #[.int .i64 0, .int .i64 0, .slice none 0 0] := by rw [hW0]; exact Box.new w _ _
  have HRead : Hid (Calls Try.prog 22 #[.string s] W0 fun e w1 => e = .returned (.pointer (some ⟨w.heap.size + 1, 0, none⟩)) ∧ Hid (RS w1 (w.heap.size + 1) st ∧ Below w.heap.size w w1 ∧ Box w1 w.heap.size 35 #[.int .i64 0, .int .i64 0, .slice none 0 0])) := Lib.hid ((read_any s W0).mono (by
    rintro e w1 ⟨rfl, hr, hb⟩
    rw [hz0] at hr hb
    refine ⟨by rw [hz0], Lib.hid ⟨?_, hb0.trans (hb.mono (by omega)), (hb.block _ (by omega)).trans hB0⟩⟩
    rw [hst]
    show Rd w1 (w.heap.size + 1) ⟨s.data.toList.toArray⟩ false
    simpa using hr))
  have HN1 : Hid (∀ w1, (RS w1 (w.heap.size + 1) st ∧ Below w.heap.size w w1 ∧ Box w1 w.heap.size 35 #[.int .i64 0, .int .i64 0, .slice none 0 0]) → Calls Try.prog 23 #[.pointer (some ⟨w.heap.size + 1, 0, none⟩), .int .i64 1000] w1 fun e w2 => e = .returned (.int .i64 (k : Int)) ∧ Hid (RA w w2.heap.size (w2.alloc (.cells #[.int .i64 (k : Int), .int .i64 0, .slice none 0 0] 35)) #[.int .i64 (k : Int), .int .i64 0, .slice none 0 0] s1)) := Lib.hid fun w1 ⟨h1, h2, h3⟩ => by
    refine (num_s (w.heap.size + 1) _ 1000 1000 rfl (by omega) w1 h1).mono ?_
    rintro e w2 ⟨rfl, hg⟩
    have hb : Below w.heap.size w w2 := h2.trans (hg.frame h2.size (by omega))
    rw [← hk]
    rw [← hs1] at hg
    refine ⟨rfl, Lib.hid ⟨?_, hb.alloc hb.size _, ?_, Box.new w2 _ _, ?_⟩⟩
    · exact hg.1.keep (Below.heap_alloc _ _ _ hg.1.lt)
    · exact Box.alloc ((hg.other h3.lt (by omega)).trans h3) _
    · exact hg.1.lt
  have HN2 : Hid (∀ g w2, RA w g w2 #[.int .i64 (k : Int), .int .i64 0, .slice none 0 0] s1 → Calls Try.prog 23 #[.pointer (some ⟨w.heap.size + 1, 0, none⟩), .int .i64 1099511627776] w2 fun e w3 => e = .returned (.int .i64 (n : Int)) ∧ (∃ u, w3.cell? ⟨g, 1, none⟩ = some u) ∧ w3.frozen? ⟨g, 1, none⟩ = false ∧ Hid (RA w g (w3.setCell ⟨g, 1, none⟩ (.int .i64 (n : Int))) #[.int .i64 (k : Int), .int .i64 (n : Int), .slice none 0 0] s2)) := Lib.hid fun g w2 h => by
    refine (num_s (w.heap.size + 1) _ 1099511627776 1099511627776 rfl (by omega) w2 h.1).mono ?_
    rintro e w3 ⟨rfl, hg⟩
    rw [← hn]
    rw [← hs2] at hg
    have h3 := h.reader hg
    exact ⟨rfl, ⟨_, h3.2.2.2.1.cell 1⟩, Box.free h3.2.2.2.1 1, Lib.hid (h3.set 1 (.int .i64 (n : Int)))⟩
  obtain ⟨q, hq⟩ : ∃ q, q = txsS s2 := ⟨_, rfl⟩
  rw [← hq]
  obtain ⟨Q, hQ⟩ : ∃ Q : Option (Nat × Nat × List ByteArray), Q = ansQ k n q := ⟨_, rfl⟩
  rw [← hQ]
  have HQ := Lib.hid hQ
  clear hQ
  have HTX : Hid (∀ g w3, RA w g w3 #[.int .i64 (k : Int), .int .i64 (n : Int), .slice none 0 0] s2 → Calls Try.prog 26 #[.pointer (some ⟨w.heap.size + 1, 0, none⟩)] w3 fun e w4 => ∃ a m c, e = .returned (.slice a m c) ∧ (∃ u, w4.cell? ⟨g, 2, none⟩ = some u) ∧ w4.frozen? ⟨g, 2, none⟩ = false ∧
      Hid (RA w g (w4.setCell ⟨g, 2, none⟩ (.slice a m c)) #[.int .i64 (k : Int), .int .i64 (n : Int), .slice a m c] (endQ q) ∧ ((q = none) ∨ ∃ ps r, q = some (ps, r) ∧ m = ps.length ∧ ∃ B, g < B ∧ Ss B (w4.setCell ⟨g, 2, none⟩ (.slice a m c)) (.slice a m c) ps))) := Lib.hid fun g w3 h => by
    refine (wtextsR_any (w.heap.size + 1) s2 hl2 w3 h.1).mono ?_
    rw [← hq]
    rintro e w4 (⟨hn, rfl, hg⟩ | ⟨ps, r, a, c, hqs, rfl, hss, hg⟩)
    · have h3 := h.reader hg
      rw [hn]
      exact ⟨_, _, _, rfl, ⟨_, h3.2.2.2.1.cell 2⟩, Box.free h3.2.2.2.1 2, Lib.hid ⟨h3.set 2 _, .inl rfl⟩⟩
    · have h3 := h.reader hg
      rw [hqs]
      have hlt := h.2.2.2.1.lt
      exact ⟨_, _, _, rfl, ⟨_, h3.2.2.2.1.cell 2⟩, Box.free h3.2.2.2.1 2, Lib.hid ⟨h3.set 2 _, .inr ⟨ps, r, rfl, rfl, w3.heap.size, hlt, ss_kept hss (grown_setCell w4 g 2 _) hlt⟩⟩⟩
  clear hs hlen hst hl0 hl1 hl2 hk hn hs1 hs2 hz0 hb0 hB0 hq
  go_enter Try.func14, Try.ntmps14
  go_wp2_with fail
  rw [← hW0]
  clear hW0
  refine HRead.out.mono ?_
  rintro e w1 ⟨rfl, H1⟩
  clear HRead
  go_wp2_with fail
  refine (HN1.out w1 H1.out).mono ?_
  rintro e w2 ⟨rfl, H2⟩
  clear HN1 H1
  obtain ⟨g, hg⟩ : ∃ g, g = w2.heap.size := ⟨_, rfl⟩
  rw [← hg] at H2
  have HN2' := Lib.hid (HN2.out g _ H2.out)
  clear HN2 H2
  go_wp2_with fail
  rw [← hg]
  refine HN2'.out.mono ?_
  rintro e w3 ⟨rfl, ⟨u3, hu3⟩, hf3, H3⟩
  have HTX' := Lib.hid (HTX.out g _ H3.out)
  clear HN2' HTX H3 hg
  go_wp2_with fail
  refine HTX'.out.mono ?_
  rintro e w4 ⟨a, m, c, rfl, ⟨u4, hu4⟩, hf4, H4⟩
  clear HTX' hu3 hf3
  have HE := Lib.hid (end_s (w.heap.size + 1) (endQ q) _ H4.out.1.1)
  go_wp2_with fail
  refine HE.out.mono ?_
  rintro e w5 ⟨rfl, hw5⟩
  rw [hw5] at H4
  clear hw5 hu4 hf4 HE
  by_cases he : endS (endQ q) = 0
  · have hne : (endS (endQ q) != 0) = false := by rw [he]; rfl
    have HK : Hid (∃ ps, Q = some (k, n, ps) ∧ m = ps.length ∧ ∃ B, g < B ∧ Ss B w5 (.slice a m c) ps) := Lib.hid (by
      have h1 := endS_nil he
      rcases H4.out.2 with hq | ⟨ps, r, hq, hm, B, hB, hs⟩
      · rw [hq] at h1; cases h1
      · rw [hq] at h1
        injection h1 with h1
        refine ⟨ps, ?_, hm, B, hB, hs⟩
        rw [HQ.out, hq]
        subst h1
        rfl)
    obtain ⟨⟨zl, zf⟩, hbx, hbl, hoth⟩ := H4.out.1.fill (.int .i64 (k : Int)) (.int .i64 (n : Int)) (.slice a m c)
    obtain ⟨f0, f1, f2⟩ := (⟨zf 0, zf 1, zf 2⟩ : _ ∧ _ ∧ _)
    obtain ⟨m0, m1, m2⟩ := Box.three hbx
    obtain ⟨y0, y1, y2⟩ := Box.three H4.out.1.2.2.2.1
    obtain ⟨x0, x1, x2⟩ := Box.three H4.out.1.2.2.1
    have HBL := Lib.hid hbl
    have HO := Lib.hid hoth
    have HG := Lib.hid H4.out.1.2.2.2.2
    clear hbx hbl zf he H4 hoth
    go_wp2
    refine bodyPost_ret (v := .tuple #[.agg #[.int .i64 (k : Int), .int .i64 (n : Int), .slice a m c], .int .i64 0]) (by simp [results, Try.results14, go_sem, m0, m1, m2]) rfl ⟨HBL.out, .inr ?_⟩
    obtain ⟨ps, hQ, rfl, B, hB, hs⟩ := HK.out
    refine ⟨k, n, ps, a, c, hQ, rfl, ?_⟩
    rcases (hs.srow).2 with h | ⟨b, off, e, hlt, hv⟩
    · exact .inl h
    · have hbB := (World.ownsRow.lt hs b (by rw [e]; rfl)).1
      have hk := HO.out b (by have := HG.out; omega)
      refine .inr ⟨b, off, e, ?_, fun i hi => (World.cell?_of_block (a := ⟨b, _, none⟩) hk).trans (hv i hi)⟩
      have : ((((w5.setCell ⟨w.heap.size, 0, none⟩ (.int .i64 (k : Int))).setCell ⟨w.heap.size, 1, none⟩ (.int .i64 (n : Int))).setCell ⟨w.heap.size, 2, none⟩ (.slice a ps.length c))).heap.size = w5.heap.size := by simp [World.setCell]
      omega
  · have hne : (endS (endQ q) != 0) = true := by simpa using he
    have HK : Hid (Q = none) := Lib.hid (by
      rw [HQ.out]
      exact ansQ_no he)
    obtain ⟨⟨zl, zf⟩, hbx, hbl, hoth⟩ := H4.out.1.fill (.int .i64 0) (.int .i64 0) (.slice none 0 0)
    obtain ⟨f0, f1, f2⟩ := (⟨zf 0, zf 1, zf 2⟩ : _ ∧ _ ∧ _)
    obtain ⟨m0, m1, m2⟩ := Box.three hbx
    obtain ⟨x0, x1, x2⟩ := Box.three H4.out.1.2.2.1
    have HBL := Lib.hid hbl
    clear hbx hbl zf he H4 hoth
    go_wp2
    exact bodyPost_ret (v := .tuple #[.agg #[.int .i64 0, .int .i64 0, .slice none 0 0], .int .i64 2]) (by simp [results, Try.results14, go_sem, m0, m1, m2]) rfl ⟨HBL.out, .inl ⟨HK.out, rfl⟩⟩

end Go.Proofs.Ytcncoppnkodhmab
