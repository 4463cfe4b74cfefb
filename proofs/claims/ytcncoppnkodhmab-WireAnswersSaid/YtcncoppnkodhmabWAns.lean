/-
  wire: answers in memory: texts held against texts; Same; Fail.
-/
import Derived.Test.YtcncoppnkodhmabWApM
import Derived.Test.YtcncoppnkodhmabTRow
import Derived.StillTailTactics
import Derived.Deep.RegionWith
import Derived.Outline
namespace Go.Proofs.Ytcncoppnkodhmab
open Go.RowKit bsK Go.Proofs.Ytcncoppnkodhmab.tRow

set_option linter.unusedVariables false
set_option linter.unusedSimpArgs false

theorem srow_at {w : World} {a : Option Addr} {ps : List ByteArray} (h : SRow w a ps) (i : Nat) (hi : i < ps.length) : ∃ b off, a = some ⟨b, off, none⟩ ∧ b < w.heap.size ∧ w.cell? ⟨b, off + i, none⟩ = some (.string ps[i]) := by
  rcases h with h | ⟨b, off, e, hlt, hv⟩
  · rw [h] at hi; simp at hi
  · exact ⟨b, off, e, hlt, hv i hi⟩

attribute [local irreducible] wpStill

set_option maxHeartbeats 4000000 in
set_option maxRecDepth 100000 in
theorem weq_any {w : World} {a1 a2 : Option Addr} {len1 len2 cap1 cap2 : Nat} {ps qs : List ByteArray} (h1 : SRow w a1 ps) (hl1 : ps.length = len1) (h2 : SRow w a2 qs) (hl2 : qs.length = len2) (hle1 : len1 ≤ 1000000) (hle2 : len2 ≤ 1000000) :
    Calls Try.prog 27 #[.slice a1 len1 cap1, .slice a2 len2 cap2] w fun e w' => e = .returned (.bool (smA (ps = qs))) ∧ Below w.heap.size w w' := by
  subst hl1 hl2
  by_cases hl : ps.length = qs.length
  · have HS1 := Lib.hid h1
    have HS2 := Lib.hid h2
    have HL := Lib.hid hl
    have HLE := Lib.hid hle1
    obtain ⟨n, hn⟩ : ∃ n, n = ps.length := ⟨_, rfl⟩
    have hn2 : qs.length = n := by omega
    rw [hn2, ← hn]
    have hne : ((n : Int) != (n : Int)) = false := by simp
    have HN := Lib.hid hn
    have hnb : n ≤ 1000000 := by omega
    clear h1 h2 hl hle1 hle2 hn hn2
    go_enter Try.func27, Try.ntmps27
    go_wp2_with fail
    go_loopw [13] (fun i wr => ∃ k : Nat, k ≤ n ∧ i = .int .i64 (k : Int) ∧ Hid ((∀ j (h : j < ps.length) (h' : j < qs.length), j < k → ps[j] = qs[j]) ∧ Below w.heap.size w wr)) (fun i _ => n - (intOf i).toNat)
    case atStart => exact ⟨0, Nat.zero_le _, rfl, Lib.hid ⟨fun j _ _ h => absurd h (Nat.not_lt_zero _), Below.refl _ _⟩⟩
    case round =>
      obtain ⟨k, hk, rfl, hst⟩ := hrel
      by_cases hlt : k < n
      · have hk1 : k < ps.length := by rw [← HN.out]; exact hlt
        have hk2 : k < qs.length := by rw [← HL.out]; exact hk1
        have hltI : (k : Int) < (n : Int) := by omega
        obtain ⟨b1, o1, rfl, g1, c1⟩ := srow_at (HS1.out.below hst.out.2) k hk1
        obtain ⟨b2, o2, rfl, g2, c2⟩ := srow_at (HS2.out.below hst.out.2) k hk2
        by_cases he : ps[k] = qs[k]
        · have HNX : Hid ((∀ j (h : j < ps.length) (h' : j < qs.length), j < k + 1 → ps[j] = qs[j]) ∧ Below w.heap.size w wr.drew) := Lib.hid ⟨fun j h h' hj => by
            by_cases e : j = k
            · subst e; exact he
            · exact hst.out.1 j h h' (by omega), hst.out.2.drew⟩
          obtain ⟨x, hx⟩ : ∃ x, x = ps[k] := ⟨_, rfl⟩
          rw [← he, ← hx] at c2
          rw [← hx] at c1
          clear hx he hst
          go_wp2_with fail
          go_region
          go_wp2_with fail
          case roundEnd => exact ⟨⟨k + 1, by omega, by go_num, HNX⟩, by simp [intOf]; omega⟩
        · have HR : Hid (smA (ps = qs) = false) := Lib.hid (smA_false fun e => he (by subst e; rfl))
          have HB := Lib.hid hst.out.2.drew
          have hxx : (ps[k].toList == qs[k].toList) = false := by
            rw [beq_eq_false_iff_ne]
            exact fun h => he (blA_inj h)
          obtain ⟨x, hx⟩ : ∃ x, x = ps[k] := ⟨_, rfl⟩
          obtain ⟨y, hy⟩ : ∃ y, y = qs[k] := ⟨_, rfl⟩
          rw [← hx] at c1 hxx
          rw [← hy] at c2 hxx
          clear hx hy he hst
          go_wp2_with fail
          go_region
          go_wp2
          go_ret
          exact ⟨by rw [HR.out]; rfl, HB.out⟩
      · obtain rfl : k = n := by omega
        have HR : Hid (smA (ps = qs) = true) := Lib.hid (smA_true (List.ext_getElem HL.out fun j h h' => hst.out.1 j h h' (by rw [HN.out]; exact h)))
        have HB := Lib.hid hst.out.2
        have hge : ¬ ((k : Int) < (k : Int)) := by omega
        clear hst
        go_wp2
        go_ret
        exact ⟨by rw [HR.out]; rfl, HB.out⟩
  · have HR : Hid (smA (ps = qs) = false) := Lib.hid (smA_false fun e => hl (by rw [e]))
    have hne : ((ps.length : Int) != (qs.length : Int)) = true := by rw [bne_iff_ne]; omega
    clear h1 h2 hl hle1 hle2
    go_enter Try.func27, Try.ntmps27
    go_wp2
    go_ret
    exact ⟨by rw [HR.out]; rfl, Below.refl _ _⟩

/-- two answers held against each other -/
theorem wfail_any (w : World) (e : Int) :
    Calls Try.prog 17 #[.int .i64 e] w fun r w' => r = .returned (.agg #[.int .i64 e, .int .i64 0, .slice none 0 0]) ∧ Below w.heap.size w w' := by
  go_enter Try.func17, Try.ntmps17
  go_wp2
  exact bodyPost_ret (v := .agg #[.int .i64 e, .int .i64 0, .slice none 0 0]) (by simp [results, Try.results17, go_sem]) rfl ⟨rfl, (Below.refl _ w).alloc (Nat.le_refl _) _⟩

set_option maxHeartbeats 4000000 in
set_option maxRecDepth 100000 in
theorem wsame_any {w : World} (e1 n1 e2 n2 : Int) {a1 a2 : Option Addr} {len1 len2 cap1 cap2 : Nat} {ps qs : List ByteArray} (h1 : SRow w a1 ps) (hl1 : ps.length = len1) (h2 : SRow w a2 qs) (hl2 : qs.length = len2) (hle1 : len1 ≤ 1000000) (hle2 : len2 ≤ 1000000) :
    Calls Try.prog 15 #[.agg #[.int .i64 e1, .int .i64 n1, .slice a1 len1 cap1], .agg #[.int .i64 e2, .int .i64 n2, .slice a2 len2 cap2]] w fun e w' => e = .returned (.bool (smA (e1 = e2 ∧ n1 = n2 ∧ ps = qs))) ∧ Below w.heap.size w w' := by
  obtain ⟨W2, hW2⟩ : ∃ W2, W2 = ((w.alloc (.cells #[.int .i64 e1, .int .i64 n1, .slice a1 len1 cap1] 35)).alloc (.cells #[.int .i64 e2, .int .i64 n2, .slice a2 len2 cap2] 35)) := ⟨_, rfl⟩
  have hz2 : W2.heap.size = w.heap.size + 2 := by rw [hW2]; simp
  have hb2 : Below w.heap.size w W2 := by rw [hW2]; exact ((Below.refl _ w).alloc (Nat.le_refl _) _).alloc (by simp) _
  have hp2 : Box W2 w.heap.size 35 #[.int .i64 e1, .int .i64 n1, .slice a1 len1 cap1] := by rw [hW2]; exact (Box.new w _ _).alloc _
  have hq2 : Box W2 (w.heap.size + 1) 35 #[.int .i64 e2, .int .i64 n2, .slice a2 len2 cap2] := by
    rw [hW2]
    have := Box.new (w.alloc (.cells #[.int .i64 e1, .int .i64 n1, .slice a1 len1 cap1] 35)) 35 #[.int .i64 e2, .int .i64 n2, .slice a2 len2 cap2]
    rwa [World.size_alloc] at this
  have y0 := hp2.cell 0; have y1 := hp2.cell 1; have y2 := hp2.cell 2
  have z0 := hq2.cell 0; have z1 := hq2.cell 1; have z2 := hq2.cell 2
  have HE := Lib.hid (weq_any (cap1 := cap1) (cap2 := cap2) (h1.below hb2) hl1 (h2.below hb2) hl2 hle1 hle2)
  have HB := Lib.hid hb2
  simp only [List.getElem?_toArray, List.getElem?_cons_zero, List.getElem?_cons_succ] at y0 y1 y2 z0 z1 z2
  obtain ⟨SM, hSM⟩ : ∃ SM, SM = smA (e1 = e2 ∧ n1 = n2 ∧ ps = qs) := ⟨_, rfl⟩
  rw [← hSM]
  clear h1 h2 hp2 hq2 hb2 hz2
  by_cases he : e1 = e2
  · by_cases hn : n1 = n2
    · subst he hn
      have hee : (e1 == e1) = true := by simp
      have hnn : (n1 == n1) = true := by simp
      have HR : Hid (SM = smA (ps = qs)) := Lib.hid (by
        rw [hSM]
        by_cases h : ps = qs
        · rw [smA_true h, smA_true ⟨rfl, rfl, h⟩]
        · rw [smA_false h, smA_false fun k => h k.2.2])
      rw [HR.out]
      clear hSM
      go_enter Try.func15, Try.ntmps15
      go_wp2_with fail
      rw [← hW2]
      clear hW2
      go_wp2_with fail
      refine HE.out.mono ?_
      rintro e w3 ⟨rfl, hb3⟩
      have HB3 := Lib.hid (HB.out.trans (hb3.mono HB.out.size))
      clear hb3
      go_wp2
      go_ret
      exact ⟨rfl, HB3.out⟩
    · have HR : Hid (SM = false) := Lib.hid (by rw [hSM]; exact smA_false fun k => hn k.2.1)
      clear hSM
      subst he
      have hee : (e1 == e1) = true := by simp
      have hnn : (n1 == n2) = false := by simpa using hn
      go_enter Try.func15, Try.ntmps15
      go_wp2_with fail
      rw [← hW2]
      clear hW2
      go_wp2
      go_ret
      exact ⟨by rw [HR.out]; rfl, HB.out⟩
  · have HR : Hid (SM = false) := Lib.hid (by rw [hSM]; exact smA_false fun k => he k.1)
    clear hSM
    have hee : (e1 == e2) = false := by simpa using he
    go_enter Try.func15, Try.ntmps15
    go_wp2_with fail
    rw [← hW2]
    clear hW2
    go_wp2
    go_ret
    exact ⟨by rw [HR.out]; rfl, HB.out⟩

end Go.Proofs.Ytcncoppnkodhmab
