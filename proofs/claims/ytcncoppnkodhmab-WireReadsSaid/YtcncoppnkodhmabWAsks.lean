/-
  WireAsks: the law's own right; its walk.
-/
import Derived.Test.YtcncoppnkodhmabWReadW
namespace Go.Proofs.Ytcncoppnkodhmab.wireAsks
open Go.RowKit bsK

set_option linter.unusedVariables false
set_option linter.unusedSimpArgs false

theorem octT_len4 (s : ByteArray) (h : s.size ≤ 4096) : (octT s).length ≤ 4105 := by
  unfold octT
  have := octN_lt s.size (by omega)
  rw [List.length_append]
  have h2 : s.data.toList.length = s.size := Array.length_toList
  omega
theorem octA_len {q : Ak} (h : q.right = true) : (octA q).length ≤ 16447 ∧ 1 ≤ (octA q).length := by
  obtain ⟨h1, h2, h3, h4⟩ := Ak.of_right h
  have p0 := h1 0; have p1 := h1 1; have p2 := h1 2; have p3 := h1 3; have p5 := h2 0; have p6 := h2 1
  simp only [Ak.tx, Ak.nu] at p0 p1 p2 p3 p5 p6
  have a0 := octN_lt q.op.toNat (by omega)
  have a1 := octT_len4 _ p0
  have a2 := octT_len4 _ p1
  have a3 := octT_len4 _ p2
  have a4 := octT_len4 _ p3
  have a5 := octN_lt q.n.toNat (by omega)
  have a6 := octN_lt q.m.toNat (by omega)
  have b0 := octN_length q.op.toNat
  unfold octA
  simp only [List.length_append]
  omega

set_option maxHeartbeats 4000000 in
set_option maxRecDepth 100000 in
theorem lawright_any (q : Ak) (w : World) :
    Calls Try.prog 12 #[.agg q.cells] w fun e w' => e = .returned (.bool q.right) ∧ Below w.heap.size w w' := by
  obtain ⟨W0, hW0⟩ : ∃ W0, W0 = (w.alloc (.cells q.cells 24)) := ⟨_, rfl⟩
  have hz0 : W0.heap.size = w.heap.size + 1 := by rw [hW0]; simp
  have hb0 : Below w.heap.size w W0 := by rw [hW0]; exact (Below.refl _ w).alloc (Nat.le_refl _) _
  have hx0 : Box W0 w.heap.size 24 q.cells := by rw [hW0]; exact Box.new w _ _
  have HX : Hid (∀ w', Below W0.heap.size W0 w' → Below w.heap.size w w' ∧ Box w' w.heap.size 24 q.cells) := Lib.hid fun w' hb => ⟨hb0.trans (hb.mono hb0.size), (hb.block _ hx0.lt).trans hx0⟩
  have HZ := Lib.hid hz0
  obtain ⟨y0, y1, y2, y3, y4, y5, y6⟩ := hx0.seven
  clear hb0 hx0 hz0
  go_enter Try.func12, Try.ntmps12
  go_wp2_with fail
  rw [← hW0]
  clear hW0
  have H0 : Hid (Box (W0.alloc (.cells #[.string q.a, .string q.b, .string q.c, .string q.d] 9)) (w.heap.size + 1) 9 #[.string q.a, .string q.b, .string q.c, .string q.d] ∧ Box (W0.alloc (.cells #[.string q.a, .string q.b, .string q.c, .string q.d] 9)) w.heap.size 24 q.cells ∧ Below w.heap.size w (W0.alloc (.cells #[.string q.a, .string q.b, .string q.c, .string q.d] 9))) := Lib.hid (by
    obtain ⟨h1, h2⟩ := HX.out _ ((Below.refl W0.heap.size W0).alloc (Nat.le_refl _) (.cells #[.string q.a, .string q.b, .string q.c, .string q.d] 9))
    have h3 := Box.new W0 9 #[.string q.a, .string q.b, .string q.c, .string q.d]
    rw [HZ.out] at h3
    exact ⟨h3, h2, h1⟩)
  go_wp2_with fail
  clear y0 y1 y2 y3 y4 y5 y6 HX HZ
  go_loopw [15] (fun i wr => ∃ k : Nat, k ≤ 4 ∧ i = .int .i64 (k : Int) ∧ Hid ((∀ j, j < k → (q.tx j).size ≤ 4096) ∧ Box wr (w.heap.size + 1) 9 #[.string q.a, .string q.b, .string q.c, .string q.d] ∧ Box wr w.heap.size 24 q.cells ∧ Below w.heap.size w wr)) (fun i _ => 4 - (intOf i).toNat)
  case atStart => exact ⟨0, Nat.zero_le _, rfl, Lib.hid ⟨fun j hj => absurd hj (Nat.not_lt_zero _), H0.out⟩⟩
  case round =>
    obtain ⟨k, hk, rfl, hst⟩ := hrel
    clear H0
    by_cases hlt : k < 4
    · have hltI : (k : Int) < 4 := by omega
      have hc : wr.cell? ⟨w.heap.size + 1, k, none⟩ = some (.string (q.tx k)) := by
        have := hst.out.2.1.cell k
        rw [this]
        obtain rfl | rfl | rfl | rfl : k = 0 ∨ k = 1 ∨ k = 2 ∨ k = 3 := by omega
        all_goals rfl
      by_cases hsz : (q.tx k).size ≤ 4096
      · have HN : Hid ((∀ j, j < k + 1 → (q.tx j).size ≤ 4096) ∧ Box wr (w.heap.size + 1) 9 #[.string q.a, .string q.b, .string q.c, .string q.d] ∧ Box wr w.heap.size 24 q.cells ∧ Below w.heap.size w wr) := Lib.hid ⟨fun j hj => by
          by_cases e : j = k
          · rw [e]; exact hsz
          · exact hst.out.1 j (by omega), hst.out.2⟩
        clear hst
        go_wp2
        go_roundw
        case rel => exact ⟨k + 1, by omega, by go_num, HN⟩
        case measure => simp [intOf]; omega
      · have HR := Lib.hid (Ak.no_tx hlt hsz)
        have HB := Lib.hid hst.out.2.2.2
        clear hst
        go_wp2
        go_ret
        exact ⟨by rw [HR.out]; rfl, HB.out⟩
    · obtain rfl : k = 4 := by omega
      have HTX := Lib.hid hst.out.1
      have HB := Lib.hid hst.out.2.2.2
      obtain ⟨y0, y1, y2, y3, y4, y5, y6⟩ := hst.out.2.2.1.seven
      have HR : Hid ((∀ j, j < 2 → 0 ≤ q.nu j ∧ q.nu j ≤ 1099511627776) → q.right = decide (1 ≤ q.op ∧ q.op ≤ 19)) := Lib.hid fun h => Ak.right_op HTX.out h
      have HF : Hid (¬ (1 ≤ q.op ∧ q.op ≤ 19 ∧ 0 ≤ q.n ∧ q.n ≤ 1099511627776 ∧ 0 ≤ q.m ∧ q.m ≤ 1099511627776) → q.right = false) := Lib.hid fun h => by
        cases hr : q.right with
        | false => rfl
        | true =>
          obtain ⟨_, h2, h3, h4⟩ := Ak.of_right hr
          have p5 := h2 0; have p6 := h2 1
          simp only [Ak.nu] at p5 p6
          exact absurd ⟨h3, h4, p5.1, p5.2, p6.1, p6.2⟩ h
      clear hst
      by_cases s1 : 1 ≤ q.op
      · by_cases s2 : q.op ≤ 19
        · by_cases s3 : 0 ≤ q.n
          · by_cases s4 : q.n ≤ 1099511627776
            · by_cases s5 : 0 ≤ q.m
              · by_cases s6 : q.m ≤ 1099511627776
                · have HT : Hid (q.right = true) := Lib.hid (by
                    rw [HR.out fun j hj => by
                      obtain rfl | rfl : j = 0 ∨ j = 1 := by omega
                      · exact ⟨s3, s4⟩
                      · exact ⟨s5, s6⟩]
                    exact decide_eq_true ⟨s1, s2⟩)
                  go_wp2
                  go_ret
                  exact ⟨by rw [HT.out]; rfl, HB.out⟩
                · have HT := Lib.hid (HF.out (fun h => s6 h.2.2.2.2.2))
                  go_wp2
                  go_ret
                  exact ⟨by rw [HT.out]; rfl, HB.out⟩
              · have HT := Lib.hid (HF.out (fun h => s5 h.2.2.2.2.1))
                go_wp2
                go_ret
                exact ⟨by rw [HT.out]; rfl, HB.out⟩
            · have HT := Lib.hid (HF.out (fun h => s4 h.2.2.2.1))
              go_wp2
              go_ret
              exact ⟨by rw [HT.out]; rfl, HB.out⟩
          · have HT := Lib.hid (HF.out (fun h => s3 h.2.2.1))
            go_wp2
            go_ret
            exact ⟨by rw [HT.out]; rfl, HB.out⟩
        · have HT := Lib.hid (HF.out (fun h => s2 h.2.1))
          go_wp2
          go_ret
          exact ⟨by rw [HT.out]; rfl, HB.out⟩
      · have HT := Lib.hid (HF.out (fun h => s1 h.1))
        go_wp2
        go_ret
        exact ⟨by rw [HT.out]; rfl, HB.out⟩

end Go.Proofs.Ytcncoppnkodhmab.wireAsks
