/-
  ClaimActs: whoever comes and goes: who is where.
-/
import Derived.Test.YtciknhilbemgdaaClActM
namespace Go.Proofs.Ytciknhilbemgdaa.claimActs
open Go.Proofs.Ytciknhilbemgdaa.tRow Go.RowKit Go.Proofs.Ytciknhilbemgdaa.cl

set_option linter.unusedVariables false

/-- between two rounds -/
def RA (w W : World) (c : Nat) (who : Int) (j : Nat) : Prop := ∃ gs, SB (B0 c) w W c who j gs gs ∧ (∀ p ∈ gs, p.1.length ≤ 100) ∧ gs.length ≤ j

set_option maxHeartbeats 8000000 in
set_option maxRecDepth 100000 in
theorem walk_main {w : World} (a : Option Addr) (la ca : Nat) (vs : List AC) (wa : ActsCame w a la ca vs) (a1 : Int) (w1 : (Lit.int .i64 a1).wf = true) (key : ByteArray) (wk : key.size ≤ maxLen) :
    Calls Try.prog 3 #[.slice a la ca, .int .i64 a1, .string key] w fun e W' => e = .returned (.bool true) ∧ Below w.heap.size w W' := by
  obtain rfl : la = vs.length := wa.1.symm
  have HW : Hid (ActsIs w a vs ∧ ∀ v ∈ vs, v.ok) := Lib.hid wa.2.2.2
  clear wa w1
  by_cases hbig : 60 < vs.length
  · have hbI : (60 : Int) < (vs.length : Int) := by omega
    go_enter Try.func3, Try.ntmps3
    go_wp2_with fail
    refine (head_any _).mono ?_
    rintro e w1 ⟨rfl, hb1⟩
    have HB := Lib.hid hb1
    clear hb1
    go_wp2
    go_ret
    exact ⟨rfl, HB.out⟩
  have hbI : ¬ (60 : Int) < (vs.length : Int) := by omega
  have hbN : vs.length ≤ 60 := by omega
  by_cases hbk : 100 < key.size
  · have hkI : (100 : Int) < (key.size : Int) := by omega
    go_enter Try.func3, Try.ntmps3
    go_wp2_with fail
    refine (head_any _).mono ?_
    rintro e w1 ⟨rfl, hb1⟩
    have HB := Lib.hid hb1
    clear hb1
    go_wp2
    go_ret
    exact ⟨rfl, HB.out⟩
  have hkI : ¬ (100 : Int) < (key.size : Int) := by omega
  have hmm := @run_makeMap Try.prog
  go_enter Try.func3, Try.ntmps3
  go_wp2_with fail
  refine (head_any _).mono ?_
  rintro e w1 ⟨rfl, hb1⟩
  go_wp2_with fail
  refine (new_any _).mono ?_
  rintro e w2 ⟨rfl, rfl⟩
  go_wp2_with fail
  refine (busy_any _ _ _).mono ?_
  rintro e w3 ⟨rfl, rfl⟩
  obtain ⟨c, hc⟩ : ∃ c, c = w1.heap.size := ⟨_, rfl⟩
  have hz : (w1.alloc (.cells #[.map none] 42)).heap.size = c + 1 := by rw [hc]; simp
  rw [hz, ← hc]
  have H1 : Hid (SB (B0 c) w ((((w1.alloc (.cells #[.map none] 42)).alloc (.cells #[.pointer (some ⟨c, 0, none⟩)] 24)).alloc (.cells #[.int .i64 a1] 3)).alloc (.map #[] 0)) c a1 0 [] []) := Lib.hid (by
    have k1 : CAt (B0 c) (w1.alloc (.cells #[.map none] 42)) c 0 [] := by rw [hc]; exact CAt.new w1 _ (.inl rfl)
    have b1 := hb1.alloc hb1.size (.cells #[.map none] 42)
    have b2 := b1.alloc b1.size (.cells #[.pointer (some ⟨c, 0, none⟩)] 24)
    have b3 := b2.alloc b2.size (.cells #[.int .i64 a1] 3)
    have b4 := b3.alloc b3.size (.map #[] 0)
    have s2 : ((w1.alloc (.cells #[.map none] 42)).alloc (.cells #[.pointer (some ⟨c, 0, none⟩)] 24)).heap.size = c + 2 := by simp [hc]
    have s3 : (((w1.alloc (.cells #[.map none] 42)).alloc (.cells #[.pointer (some ⟨c, 0, none⟩)] 24)).alloc (.cells #[.int .i64 a1] 3)).heap.size = c + 3 := by simp [hc]
    refine ⟨((k1.alloc _).alloc _).alloc _, ?_, ?_, ?_, b4, by rw [hc]; exact hb1.size, List.Pairwise.nil⟩
    · have := MapAt.made 9 (((w1.alloc (.cells #[.map none] 42)).alloc (.cells #[.pointer (some ⟨c, 0, none⟩)] 24)).alloc (.cells #[.int .i64 a1] 3))
      rw [s3] at this
      exact this
    · rw [Below.heap_alloc _ _ _ (by rw [s3]; omega), Below.heap_alloc _ _ _ (by rw [s2]; omega)]
      have := heap_alloc_new (w1.alloc (.cells #[.map none] 42)) (.cells #[.pointer (some ⟨c, 0, none⟩)] 24)
      rw [hz] at this
      exact this
    · rw [Below.heap_alloc _ _ _ (by rw [s3]; omega)]
      have := heap_alloc_new ((w1.alloc (.cells #[.map none] 42)).alloc (.cells #[.pointer (some ⟨c, 0, none⟩)] 24)) (.cells #[.int .i64 a1] 3)
      rw [s2] at this
      exact this)
  have hcw : w.heap.size ≤ c := by rw [hc]; exact hb1.size
  clear hb1 hbig hbk hbI hkI
  have HC := Lib.hid hc
  clear hc hz
  go_wp2_with fail
  (try rw [← HC.out])
  rw [show c + 1 + 1 + 1 = c + 3 from rfl, show c + 1 + 1 = c + 2 from rfl]
  have H0 : Hid (RA w ((((w1.alloc (.cells #[.map none] 42)).alloc (.cells #[.pointer (some ⟨c, 0, none⟩)] 24)).alloc (.cells #[.int .i64 a1] 3)).alloc (.map #[] 0)) c a1 0) := Lib.hid ⟨[], H1.out, (fun p hp => by cases hp), Nat.le_refl _⟩
  clear H1 HC hmm
  go_loopw [49] (fun i wr => ∃ j : Nat, j ≤ vs.length ∧ i = .int .i64 (j : Int) ∧ Hid (RA w wr c a1 j)) (fun i _ => vs.length - (intOf i).toNat)
  case atStart => exact ⟨0, Nat.zero_le _, rfl, H0⟩
  case round =>
    obtain ⟨j, hj, rfl, hst⟩ := hrel
    clear H0
    by_cases hlt : j < vs.length
    · have hltI : (j : Int) < (vs.length : Int) := by omega
      obtain ⟨gs, q1, q2, q3⟩ := hst.out
      obtain ⟨b, off, rfl, hb, hin⟩ := HW.out.1.at_ j hlt
      have hok := HW.out.2 _ (List.getElem_mem hlt)
      obtain ⟨x, hx⟩ : ∃ x, x = vs[j] := ⟨_, rfl⟩
      rw [← hx] at hin hok
      have hbw : Below w.heap.size w wr := q1.2.2.2.2.1
      have hin2 : ActIn wr b (off + j * 3) x := by
        obtain ⟨h0, h1, h2⟩ := hin
        exact ⟨(hbw.cell (p := ⟨b, _, none⟩) hb).trans h0, (hbw.cell (p := ⟨b, _, none⟩) hb).trans h1, (hbw.cell (p := ⟨b, _, none⟩) hb).trans h2⟩
      obtain ⟨c0, c1, c2⟩ := hin2
      have HB := Lib.hid hbw
      by_cases h100 : 100 < x.key.size
      · have hI : (100 : Int) < (x.key.size : Int) := by omega
        have HBA : Hid (∀ c, Below w.heap.size w (wr.alloc c)) := Lib.hid fun c => hbw.alloc hbw.size _
        clear hin hst q1 q2 q3 hbw hx hok h100
        go_wp2
        go_ret
        exact ⟨rfl, HBA.out _⟩
      · have hI : ¬ (100 : Int) < (x.key.size : Int) := by omega
        have hy : c + 3 < wr.heap.size := q1.2.1.lt
        obtain ⟨y, hyy⟩ : ∃ y, y = wr.heap.size := ⟨_, rfl⟩
        have hs := q1.skip (.cells #[.int .i64 x.k, .int .i64 x.n, .string x.key] 30)
        rw [← hyy] at hs hy
        have hbx : (wr.alloc (.cells #[.int .i64 x.k, .int .i64 x.n, .string x.key] 30)).heap[y]? = some (.cells #[.int .i64 x.k, .int .i64 x.n, .string x.key] 30 (0, 0)) := by rw [hyy]; exact heap_alloc_new wr _
        have hsz : (wr.alloc (.cells #[.int .i64 x.k, .int .i64 x.n, .string x.key] 30)).heap.size = y + 1 := by rw [hyy]; simp
        have HY := Lib.hid hyy
        obtain ⟨WA, hWA⟩ : ∃ WA, WA = wr.alloc (.cells #[.int .i64 x.k, .int .i64 x.n, .string x.key] 30) := ⟨_, rfl⟩
        rw [← hWA] at hs hbx hsz
        have HWA := Lib.hid hWA
        have hF : Fr c (fun x => B0 c x ∧ x ≠ y) := fun x hx => hx.1
        have hnew : ∀ q, WA.heap.size ≤ q → B0 c q ∧ q ≠ y := fun q hq => ⟨.inr (by omega), by omega⟩
        have hyB : ¬ (B0 c y ∧ y ≠ y) := fun h => h.2 rfl
        have hx1 : x.key.size ≤ maxLen := by unfold maxLen; omega
        have hkd : x.key.data.toList.length ≤ 100 := by rw [Array.length_toList]; show x.key.size ≤ 100; omega
        by_cases hk : (wrap64 ((IntKind.u64.wrap x.k).tmod 3) == 2) = true
        · have HFR : Hid (Calls Try.prog 9 #[.pointer (some ⟨c, 0, none⟩), .int .i64 x.n] WA fun e w' => ∃ av kv, e = .returned (.slice av (ofG gs x.n).length kv) ∧ Hid (Ss (y + 1) w' (.slice av (ofG gs x.n).length kv) ((ofG gs x.n).map mk8) ∧ SB (fun x => B0 c x ∧ x ≠ y) w w' c a1 j (freeG gs x.n) gs ∧ w'.heap[y]? = some (.cells #[.int .i64 x.k, .int .i64 x.n, .string x.key] 30 (0, 0)) ∧ y + 1 ≤ w'.heap.size)) := Lib.hid (by
            refine (free_any hs.1 (by omega) (fun p hp => by have := q2 p hp; omega) x.n).mono ?_
            rintro e w' ⟨v, rfl, h1, h2, h3⟩
            rw [hsz] at h1
            obtain ⟨av, kv, rfl⟩ := h1.form
            rw [List.length_map] at h1 ⊢
            exact ⟨av, kv, rfl, Lib.hid ⟨h1, hs.kp hF (Nat.le_refl _) h2 h3, (h3.2.2.2.2 y (by omega) hyB).trans hbx, by have := h3.2.2.2.1; omega⟩⟩)
          have HG := Lib.hid (And.intro q1.1.1 (And.intro q2 q3))
          have hbg : gs.length ≤ 60 := by omega
          clear hin hst q1 q2 q3 hbw hx h100 hs hbx hWA hyy hnew hok hx1 hkd hb
          go_wp2_with fail
          rw [← HWA.out, ← HY.out]
          refine HFR.out.mono ?_
          rintro e w5 ⟨av, kv, rfl, H5⟩
          obtain ⟨ks, hks⟩ : ∃ ks, ks = ofG gs x.n := ⟨_, rfl⟩
          rw [← hks] at H5 ⊢
          have HKS := Lib.hid hks
          have hkl : ks.length ≤ 60 := by rw [hks]; unfold ofG; rw [List.length_map]; exact Nat.le_trans (List.length_filter_le _ _) hbg
          have HOWN : Hid (w5.ownsMap Try.prog 9 RV (c + 3) j (dm (toV gs))) := Lib.hid H5.out.2.1.2.1
          have H5S := H5.out.2.2.2
          clear HFR hks
          go_wp2_with (first
            | (at_range; refine wpList_range_own _ rfl _ 28 rfl 9 3 law_s Try.underlying28 RV (c + 3) j (dm (toV gs)) rfl HOWN.out ?_; intro w0 hrg0 hg0 hs0)
            | fail)
          go_frame
          obtain ⟨r, hr⟩ : ∃ r, r = w5.heap.size := ⟨_, rfl⟩
          rw [← hr] at hrg0 hs0 ⊢
          have HR := Lib.hid hr
          have HST : Hid (∃ left cnt, w0.ranges Try.prog 9 RV (c + 3) r j (dm (toV (cur left gs x.n))) left cnt ∧ 0 = nOf left gs x.n ∧ w5.grownBy w0 (some (c + 3)) ∧ r + 1 ≤ w0.heap.size) := Lib.hid ⟨_, _, by rw [cur_start]; exact hrg0, by rw [n_start], World.grownBy.but hg0 _, by omega⟩
          clear hrg0 hg0 hs0 hr
          go_loopw [13] (fun nv wq => ∃ t : Nat, t ≤ 60 ∧ nv = .int .i64 (t : Int) ∧ Hid (∃ left cnt, wq.ranges Try.prog 9 RV (c + 3) r j (dm (toV (cur left gs x.n))) left cnt ∧ t = nOf left gs x.n ∧ w5.grownBy wq (some (c + 3)) ∧ r + 1 ≤ wq.heap.size)) (fun _ wq => wq.rangeLeft (c + 3) r)
          case atStart => exact ⟨0, by omega, rfl, HST⟩
          case round =>
            obtain ⟨t, ht, rfl, hst⟩ := hrel
            obtain ⟨left, cnt, hrg, hnt, hg5, hsr⟩ := hst.out
            have HNT := Lib.hid hnt
            clear HST hst hnt
            go_wp2_with (first
              | (at_next; refine wpList_next_ranges _ rfl _ rfl 9 law_s RV Value.string (fun v => v) (fun key kl hk => by obtain ⟨s, e, _⟩ := Go.WideMaps.string_of_keyOf Try.underlying9 hk; exact ⟨s, e⟩) (fun v _ _ => ⟨v, rfl⟩) (c + 3) r j (dm (toV (cur left gs x.n))) left cnt rfl hrg ?_ ?_)
              | fail)
            · intro hc0 hl0
              have htk : t = ks.length := by rw [HNT.out, n_end hl0, HKS.out]
              subst htk
              have HT : Hid (SB (fun x => B0 c x ∧ x ≠ y) w wr c a1 (j + 1) (freeG gs x.n) (freeG gs x.n) ∧ (∀ p ∈ freeG gs x.n, p.1.length ≤ 100) ∧ (freeG gs x.n).length ≤ j + 1) := Lib.hid (by
                have h1 := hrg.owns
                rw [cur_end hl0] at h1
                refine ⟨H5.out.2.1.map hF (Nat.le_succ _) (rise_filter _ HG.out.1) (World.ownsMap.mono h1 (Nat.le_succ _)) hg5, fun p hp => HG.out.2.1 p (List.mem_filter.1 hp).1, ?_⟩
                have := List.length_filter_le (fun p : L8 × Int => p.2 != x.n) gs
                have := HG.out.2.2
                unfold freeG
                omega)
              generalize freeG gs x.n = g2 at HT
              clear hrg hg5 hsr hl0 hc0 H5 HOWN
              obtain ⟨z9, b9, o9, hl9, ho9, hA9, hL9, hn9⟩ := HT.out.1.tail key wk
              have HA9 := Lib.hid hA9
              have HL9 := Lib.hid hL9
              clear hA9 hL9
              rcases ho9 with ⟨rfl, rfl⟩ | ⟨rfl, ho9, rfl⟩ | ⟨rfl, ho9, rfl⟩
              all_goals
                go_wp2_with fail
                refine HA9.out.mono ?_
                rintro e w8 ⟨rfl, rfl⟩
                go_wp2_with fail
                refine HL9.out.mono ?_
                rintro e w8 ⟨rfl, rfl⟩
                clear HA9 HL9
                go_wp2
                go_roundw
                case rel => exact ⟨j + 1, by omega, by go_num, Lib.hid ⟨_, HT.out.1.mono (fun x hx => hx.1) (Nat.le_refl _), HT.out.2⟩⟩
                case measure => simp [intOf]; omega
            · intro xk cv kl ya yb w1q cnt1 hkey hlk hRv hat hrg1 hlt1 hg1 hs1 hen
              have hcr : RiseG (cur left gs x.n) := rise_filter _ HG.out.1
              obtain ⟨rfl, hxs, z, rfl, hmem⟩ := entry_g hcr hkey hRv hat
              have hmg := cur_mem hmem
              have hns := n_step HG.out.1 hmg hlk (who := x.n)
              have hnl := n_le (fun y => left y && !y.sameKey (.string xk.data.toList)) gs x.n
              have hg51 : w5.grownBy w1q (some (c + 3)) := grown_trans hg5 hg1 (.inr fun q hq => by have := Option.some.inj hq; have := HR.out; omega)
              have hbox1 : w1q.heap[y]? = some (.cells #[.int .i64 x.k, .int .i64 x.n, .string x.key] 30 (0, 0)) := (hg51.block y (by omega) (by simp; omega)).trans H5.out.2.2.1
              have hcx := cell_of_row w1q y 1 _ _ (0, 0) hbox1
              have HM : Hid (cnt1 < wr.rangeLeft (c + 3) r) := Lib.hid (by rw [hrg.left_eq]; exact hlt1)
              by_cases hz : z = x.n
              · subst hz
                rw [if_pos rfl] at hns
                have HD : Hid (∀ w2 cnt2, w2.ranges Try.prog 9 RV (c + 3) r j ((dm (toV (cur left gs x.n))).del (.string xk.data.toList)) (fun z => (left z && !z.sameKey (.string xk.data.toList)) && !z.sameKey (.string xk.data.toList)) cnt2 → cnt2 ≤ cnt1 → w1q.mapTurned w2 (c + 3) →
                    (∃ left cnt, w2.ranges Try.prog 9 RV (c + 3) r j (dm (toV (cur left gs x.n))) left cnt ∧ t + 1 = nOf left gs x.n ∧ w5.grownBy w2 (some (c + 3)) ∧ r + 1 ≤ w2.heap.size) ∧ w2.rangeLeft (c + 3) r < wr.rangeLeft (c + 3) r ∧ w5.grownBy w2 (some (c + 3))) := Lib.hid fun w2 cnt2 h1 h2 h3 => by
                  rw [Maps.strike_twice, dm_del, toV_del, cur_del HG.out.1 hmg rfl] at h1
                  have h4 := grown_trans hg51 h3.grown (.inl rfl)
                  refine ⟨⟨_, cnt2, h1, by rw [hns, HNT.out], h4, by have := h3.grown.size; omega⟩, ?_, h4⟩
                  rw [h1.left_eq]
                  exact Nat.lt_of_le_of_lt h2 HM.out
                have hkm : xk.data.toList ∈ ks := by
                  rw [HKS.out]
                  exact (mem_of HG.out.1).2 ((mem_get HG.out.1).1 hmg)
                have HKM := Lib.hid hkm
                have ht1 : t + 1 ≤ 60 := by have := HNT.out; omega
                have HRG1 := Lib.hid hrg1
                have HEN := hen
                clear hlk hRv hat hlt1 hg1 hs1 hcr hmem hmg hns hnl hg51 hbox1 hg5 hsr hrg hrg1
                go_wp2_with (first
                  | (at_delete; refine wpList_delete_ranges _ rfl _ _ 28 9 rfl 3 law_s Try.underlying28 RV (c + 3) r j (dm (toV (cur left gs x.n))) (fun z => left z && !z.sameKey (.string xk.data.toList)) cnt1 rfl HRG1.out _ _ rfl hkey ?_; intro w2 cnt2 hrg2 hle2 htu2; have HD2 := Lib.hid (HD.out w2 cnt2 hrg2 hle2 htu2); clear hrg2 hle2 htu2)
                  | fail)
                have HROW : Hid (Ss (y + 1) w2 (.slice av ks.length kv) (ks.map mk8)) := Lib.hid (World.ownsRow.kept H5.out.1 HD2.out.2.2 (.inr (Ne.symm (row_ne_low H5.out.1 (by omega)))))
                clear HD HRG1 hen
                go_loopw [16, 84] (fun fv iv wz => ∃ (l : Nat) (f : Bool), l ≤ ks.length ∧ iv = .int .i64 (l : Int) ∧ fv = .bool f ∧ wz = w2 ∧ Hid (f = true ↔ xk.data.toList ∈ ks.take l)) (fun _ iv _ => ks.length - (intOf iv).toNat)
                case atStart => exact ⟨0, false, by omega, rfl, rfl, rfl, Lib.hid (by simp)⟩
                case round =>
                  obtain ⟨l, f, hl, rfl, rfl, rfl, hf⟩ := hrel
                  by_cases hll : l < ks.length
                  · have hlI : (l : Int) < (ks.length : Int) := by omega
                    obtain ⟨g, rfl, hcell⟩ : ∃ g, av = some ⟨g, 0, none⟩ ∧ wr.cell? ⟨g, l, none⟩ = some (.string (mk8 ks[l])) := by
                      rcases HROW.out.2 with ⟨h1, h2⟩ | ⟨g, cap, cur, h1, h2⟩
                      · rw [List.length_map] at h2; omega
                      · injection h1 with h1 _ _
                        subst h1
                        refine ⟨g, rfl, ?_⟩
                        have h9 := World.ownsRow.cells HROW.out (g := g) rfl l (.string (mk8 ks[l])) (by simp [hll])
                        rw [show (⟨g, 0, none⟩ : Addr).add l = ⟨g, l, none⟩ by unfold Addr.add; by_cases h2 : l = 0 <;> simp [h2]] at h9
                        exact h9
                    have heq : ((mk8 ks[l]).toList == xk.toList) = (ks[l] == xk.data.toList) := by rw [Lib.toList_data, Lib.toList_data]; rfl
                    have HF1 : Hid ((f || (ks[l] == xk.data.toList)) = true ↔ xk.data.toList ∈ ks.take (l + 1)) := Lib.hid (by
                      rw [List.take_succ_eq_append_getElem hll, List.mem_append, ← hf.out, Bool.or_eq_true, beq_iff_eq, List.mem_singleton]
                      exact or_congr Iff.rfl eq_comm)
                    obtain ⟨u, hu⟩ : ∃ u, u = (ks[l] == xk.data.toList) := ⟨_, rfl⟩
                    rw [← hu] at heq HF1
                    generalize mk8 ks[l] = s at hcell heq
                    clear hu hf
                    cases f
                    · cases u
                      · go_wp2_with fail
                        go_roundw
                        case rel => exact ⟨l + 1, false, by omega, by go_num, (by first | rfl | trivial), (by first | rfl | trivial), HF1⟩
                        case measure => simp [intOf]; omega
                      · go_wp2_with fail
                        go_roundw
                        case rel => exact ⟨l + 1, true, by omega, by go_num, (by first | rfl | trivial), (by first | rfl | trivial), HF1⟩
                        case measure => simp [intOf]; omega
                    · have HF2 : Hid (true = true ↔ xk.data.toList ∈ ks.take (l + 1)) := HF1
                      go_wp2_with fail
                      go_roundw
                      case rel => exact ⟨l + 1, true, by omega, by go_num, (by first | rfl | trivial), (by first | rfl | trivial), HF2⟩
                      case measure => simp [intOf]; omega
                  · obtain rfl : l = ks.length := by omega
                    have hft : f = true := hf.out.2 (by rw [List.take_length]; exact HKM.out)
                    subst hft
                    clear hf
                    go_wp2_with fail
                    go_roundw
                    case rel => exact ⟨t + 1, ht1, by go_num, Lib.hid HD2.out.1⟩
                    case measure => exact HD2.out.2.1
              · have hzz : (z == x.n) = false := by simpa using hz
                rw [if_neg hz] at hns
                have HN : Hid (∃ left cnt, w1q.ranges Try.prog 9 RV (c + 3) r j (dm (toV (cur left gs x.n))) left cnt ∧ t = nOf left gs x.n ∧ w5.grownBy w1q (some (c + 3)) ∧ r + 1 ≤ w1q.heap.size) := Lib.hid ⟨_, cnt1, by rw [cur_other HG.out.1 hmg hz]; exact hrg1, by rw [hns, HNT.out]; rfl, hg51, by omega⟩
                have HL1 : Hid (w1q.rangeLeft (c + 3) r = cnt1) := Lib.hid hrg1.left_eq
                clear hlk hRv hat hlt1 hg1 hs1 hcr hmem hmg hns hnl hg51 hbox1 hg5 hsr hrg hrg1 hz hkey
                go_wp2_with fail
                go_roundw
                case rel => exact ⟨t, ht, rfl, HN⟩
                case measure => rw [HL1.out]; exact HM.out
        · have hk : (wrap64 ((IntKind.u64.wrap x.k).tmod 3) == 2) = false := by simpa using hk
          have hl0 := hs.look x.key hx1
          rw [HWA.out] at hl0
          have hcells : ∀ W : World, (W.heap[y]? = some (.cells #[.int .i64 x.k, .int .i64 x.n, .string x.key] 30 (0, 0))) → W.cell? ⟨y, 1, none⟩ = some (.int .i64 x.n) ∧ W.cell? ⟨y, 2, none⟩ = some (.string x.key) := fun W h => ⟨cell_of_row W y 1 _ _ (0, 0) h, cell_of_row W y 2 _ _ (0, 0) h⟩
          have hTA := take_any hs.1 hnew (by omega) x.n x.key hx1
          cases hg : getG x.key.data.toList gs with
          | none =>
            obtain ⟨t1, t2⟩ := take_new hg x.n
            rw [hg] at hl0
            have HTK : Hid (Calls Try.prog 10 #[.pointer (some ⟨c, 0, none⟩), .int .i64 x.n, .string x.key] WA fun e w' => e = .returned (.bool true) ∧ (w'.cell? ⟨y, 1, none⟩ = some (.int .i64 x.n) ∧ w'.cell? ⟨y, 2, none⟩ = some (.string x.key)) ∧ ∃ w6 g2, (Instr.mapUpdate 28 (.map (some (c + 3))) (.string x.key) (.int .i64 x.n)).run Try.prog w' = .ok () w6 ∧ Hid (SB (fun x => B0 c x ∧ x ≠ y) w w6 c a1 (j + 1) g2 g2 ∧ (∀ p ∈ g2, p.1.length ≤ 100) ∧ g2.length ≤ j + 1)) := Lib.hid (by
              refine hTA.mono ?_
              rintro e w' ⟨rfl, h1, h2⟩
              have h3 := hs.kp hF (Nat.le_succ _) h1 h2
              obtain ⟨w6, r1, r2, r3⟩ := MapAt.store (e := 3) (hs.2.1.kept (h2.2.2.2.2 _ hs.2.1.lt fun hb => by rcases hF _ hb with e | e <;> omega)) Try.underlying9 Try.underlying28 (by omega) x.key hx1 (.int .i64 x.n)
              rw [toV_put] at r2
              refine ⟨by rw [t2]; rfl, hcells w' ((h2.2.2.2.2 y (by omega) hyB).trans hbx), w6, _, r1, Lib.hid ⟨h3.map hF (Nat.le_refl _) (by rw [t1]; exact rise_put _ _ q1.1.1) (by rw [t1]; exact r2) r3, ?_, ?_⟩⟩
              · exact take_keys q2 hkd x.n
              · have := take_len gs x.n x.key.data.toList
                omega)
            clear hin hst q1 q2 q3 hbw hx h100 hs hbx hWA hyy hnew hok hx1 hkd hb hTA hcells t1 t2 hg
            go_wp2_with fail
            rw [← HWA.out, ← HY.out]
            refine HTK.out.mono ?_
            rintro e w5 ⟨rfl, ⟨k1, k2⟩, w6, g2, hup, HT⟩
            clear HTK hl0
            obtain ⟨z9, b9, o9, hl9, ho9, hA9, hL9, hn9⟩ := HT.out.1.tail key wk
            have HA9 := Lib.hid hA9
            have HL9 := Lib.hid hL9
            clear hA9 hL9
            rcases ho9 with ⟨rfl, rfl⟩ | ⟨rfl, ho9, rfl⟩ | ⟨rfl, ho9, rfl⟩
            all_goals
              go_wp2_with fail
              refine HA9.out.mono ?_
              rintro e w8 ⟨rfl, rfl⟩
              go_wp2_with fail
              refine HL9.out.mono ?_
              rintro e w8 ⟨rfl, rfl⟩
              clear HA9 HL9
              go_wp2
              go_roundw
              case rel => exact ⟨j + 1, by omega, by go_num, Lib.hid ⟨_, HT.out.1.mono (fun x hx => hx.1) (Nat.le_refl _), HT.out.2⟩⟩
              case measure => simp [intOf]; omega
          | some z =>
            obtain ⟨t1, t2⟩ := take_there q1.1.1 hg x.n
            rw [hg] at hl0
            have HTK : Hid (Calls Try.prog 10 #[.pointer (some ⟨c, 0, none⟩), .int .i64 x.n, .string x.key] WA fun e w' => e = .returned (.bool (!(z != x.n))) ∧ (w'.cell? ⟨y, 1, none⟩ = some (.int .i64 x.n) ∧ w'.cell? ⟨y, 2, none⟩ = some (.string x.key)) ∧ ∃ g2, Hid (SB (fun x => B0 c x ∧ x ≠ y) w w' c a1 (j + 1) g2 g2 ∧ (∀ p ∈ g2, p.1.length ≤ 100) ∧ g2.length ≤ j + 1)) := Lib.hid (by
              refine hTA.mono ?_
              rintro e w' ⟨rfl, h1, h2⟩
              rw [t1] at h1
              exact ⟨by rw [t2], hcells w' ((h2.2.2.2.2 y (by omega) hyB).trans hbx), gs, Lib.hid ⟨hs.kp hF (Nat.le_succ _) h1 h2, q2, by omega⟩⟩)
            have hzc : ((z != x.n) = true ∧ (z == x.n) = false) ∨ ((z != x.n) = false ∧ (z == x.n) = true) := by
              by_cases e : z = x.n
              · exact .inr ⟨by simp [e], by simp [e]⟩
              · exact .inl ⟨by simp [e], by simp [e]⟩
            clear hin hst q1 q2 q3 hbw hx h100 hs hbx hWA hyy hnew hok hx1 hkd hb hTA hcells t1 t2 hg
            rcases hzc with ⟨z1, z2⟩ | ⟨z1, z2⟩
            · rw [z1] at HTK
              go_wp2_with fail
              rw [← HWA.out, ← HY.out]
              refine HTK.out.mono ?_
              rintro e w5 ⟨rfl, ⟨k1, k2⟩, g2, HT⟩
              clear HTK hl0
              obtain ⟨z9, b9, o9, hl9, ho9, hA9, hL9, hn9⟩ := HT.out.1.tail key wk
              have HA9 := Lib.hid hA9
              have HL9 := Lib.hid hL9
              clear hA9 hL9
              rcases ho9 with ⟨rfl, rfl⟩ | ⟨rfl, ho9, rfl⟩ | ⟨rfl, ho9, rfl⟩
              all_goals
                go_wp2_with fail
                refine HA9.out.mono ?_
                rintro e w8 ⟨rfl, rfl⟩
                go_wp2_with fail
                refine HL9.out.mono ?_
                rintro e w8 ⟨rfl, rfl⟩
                clear HA9 HL9
                go_wp2
                go_roundw
                case rel => exact ⟨j + 1, by omega, by go_num, Lib.hid ⟨_, HT.out.1.mono (fun x hx => hx.1) (Nat.le_refl _), HT.out.2⟩⟩
                case measure => simp [intOf]; omega
            · rw [z1] at HTK
              go_wp2_with fail
              rw [← HWA.out, ← HY.out]
              refine HTK.out.mono ?_
              rintro e w5 ⟨rfl, ⟨k1, k2⟩, g2, HT⟩
              clear HTK hl0
              obtain ⟨z9, b9, o9, hl9, ho9, hA9, hL9, hn9⟩ := HT.out.1.tail key wk
              have HA9 := Lib.hid hA9
              have HL9 := Lib.hid hL9
              clear hA9 hL9
              rcases ho9 with ⟨rfl, rfl⟩ | ⟨rfl, ho9, rfl⟩ | ⟨rfl, ho9, rfl⟩
              all_goals
                go_wp2_with fail
                refine HA9.out.mono ?_
                rintro e w8 ⟨rfl, rfl⟩
                go_wp2_with fail
                refine HL9.out.mono ?_
                rintro e w8 ⟨rfl, rfl⟩
                clear HA9 HL9
                go_wp2
                go_roundw
                case rel => exact ⟨j + 1, by omega, by go_num, Lib.hid ⟨_, HT.out.1.mono (fun x hx => hx.1) (Nat.le_refl _), HT.out.2⟩⟩
                case measure => simp [intOf]; omega
    · obtain rfl : j = vs.length := by omega
      obtain ⟨gs, q1, q2, q3⟩ := hst.out
      have HRI := Lib.hid q1.1.1
      have hbg : gs.length ≤ 60 := by omega
      obtain ⟨ks, hks⟩ : ∃ ks, ks = ofG gs a1 := ⟨_, rfl⟩
      have HKS := Lib.hid hks
      have hkl : ks.length ≤ 60 := by rw [hks]; unfold ofG; rw [List.length_map]; exact Nat.le_trans (List.length_filter_le _ _) hbg
      have HO : Hid (Calls Try.prog 12 #[.pointer (some ⟨c, 0, none⟩), .int .i64 a1] wr fun e w' => ∃ av kv, e = .returned (.slice av ks.length kv) ∧ Hid (Ss wr.heap.size w' (.slice av ks.length kv) (ks.map mk8) ∧ SB (B0 c) w w' c a1 vs.length gs gs)) := Lib.hid (by
        refine (of_any q1.1 (by omega) a1).mono ?_
        rintro e w' ⟨v, rfl, h1, h2⟩
        obtain ⟨av, kv, rfl⟩ := h1.form
        rw [← hks, List.length_map] at h1 ⊢
        exact ⟨av, kv, rfl, Lib.hid ⟨h1, q1.below h2⟩⟩)
      have hkz : ∀ k ∈ ks, k.length ≤ 100 ∧ getG k gs = some a1 := fun k hk => by
        rw [hks] at hk
        have h1 := (mem_of q1.1.1).1 hk
        exact ⟨q2 _ ((mem_get q1.1.1).2 h1), h1⟩
      have HKZ := Lib.hid hkz
      have HWR : Hid (w.heap.size ≤ wr.heap.size) := Lib.hid q1.2.2.2.2.1.size
      have HKP := Lib.hid (of_rise q1.1.1 a1)
      rw [← hks] at HKP
      clear hst q1 q2 q3 hks hkz
      go_wp2_with fail
      refine HO.out.mono ?_
      rintro e w5 ⟨av, kv, rfl, H5⟩
      have HOWN : Hid (w5.ownsMap Try.prog 9 RV (c + 3) vs.length (dm (toV gs))) := Lib.hid H5.out.2.2.1
      clear HO
      go_wp2_with (first
        | (at_range; refine wpList_range_own _ rfl _ 28 rfl 9 3 law_s Try.underlying28 RV (c + 3) vs.length (dm (toV gs)) rfl HOWN.out ?_; intro w0 hrg0 hg0 hs0)
        | fail)
      go_frame
      obtain ⟨r, hr⟩ : ∃ r, r = w5.heap.size := ⟨_, rfl⟩
      rw [← hr] at hrg0 hs0 ⊢
      have HR := Lib.hid hr
      have HST : Hid (∃ left cnt, w0.ranges Try.prog 9 RV (c + 3) r vs.length (dm (toV gs)) left cnt ∧ 0 = nOf left gs a1 ∧ Below w5.heap.size w5 w0) := Lib.hid ⟨_, _, hrg0, by rw [n_start], (Below.refl _ w5).grown hg0 (Nat.le_refl _) (fun q hq => by cases hq)⟩
      clear hrg0 hg0 hs0 hr HOWN
      go_loopw [24] (fun nv wq => ∃ t : Nat, t ≤ 60 ∧ nv = .int .i64 (t : Int) ∧ Hid (∃ left cnt, wq.ranges Try.prog 9 RV (c + 3) r vs.length (dm (toV gs)) left cnt ∧ t = nOf left gs a1 ∧ Below w5.heap.size w5 wq)) (fun _ wq => wq.rangeLeft (c + 3) r)
      case atStart => exact ⟨0, by omega, rfl, HST⟩
      case round =>
        obtain ⟨t, ht, rfl, hst⟩ := hrel
        obtain ⟨left, cnt, hrg, hnt, hb5⟩ := hst.out
        have HNT := Lib.hid hnt
        clear HST hst hnt
        go_wp2_with (first
          | (at_next; refine wpList_next_ranges _ rfl _ rfl 9 law_s RV Value.string (fun v => v) (fun key kl hk => by obtain ⟨s, e, _⟩ := Go.WideMaps.string_of_keyOf Try.underlying9 hk; exact ⟨s, e⟩) (fun v _ _ => ⟨v, rfl⟩) (c + 3) r vs.length (dm (toV gs)) left cnt rfl hrg ?_ ?_)
          | fail)
        · intro hc0 hl0
          have htk : t = ks.length := by rw [HNT.out, n_end hl0, HKS.out]
          subst htk
          have HS6 : Hid (SB (B0 c) w wr c a1 vs.length gs gs ∧ Ss w.heap.size wr (.slice av ks.length kv) (ks.map mk8)) := Lib.hid ⟨H5.out.2.below hb5, by
            have h1 := World.ownsRow.kept (row := none) H5.out.1 ⟨hb5.os, hb5.tape, hb5.output, hb5.size, fun q hq _ => hb5.block q hq⟩ (by
              by_cases hv : (Value.slice av ks.length kv).ownBlock = none
              · exact .inl hv
              · exact .inr hv)
            exact ss_low h1 (by
              have h2 := HWR.out
              omega)⟩
          clear hrg hb5 hl0 hc0 H5
          go_wp2_with fail
          go_loopw [170] (fun iv wz => ∃ l : Nat, l ≤ ks.length ∧ iv = .int .i64 (l : Int) ∧ wz = wr) (fun iv _ => ks.length - (intOf iv).toNat)
          case atStart => exact ⟨0, by omega, rfl, rfl⟩
          case round =>
            obtain ⟨l, hl, rfl, rfl⟩ := hrel
            by_cases hll : l < ks.length
            · have hlI : (l : Int) < (ks.length : Int) := by omega
              have hcl : ∃ g, av = some ⟨g, 0, none⟩ ∧ ∀ i (h : i < ks.length), wr.cell? ⟨g, i, none⟩ = some (.string (mk8 ks[i])) := by
                rcases HS6.out.2.2 with ⟨h1, h2⟩ | ⟨g, cap, cur, h1, h2⟩
                · rw [List.length_map] at h2; omega
                · injection h1 with h1 _ _
                  subst h1
                  refine ⟨g, rfl, fun i hi => ?_⟩
                  have h9 := World.ownsRow.cells HS6.out.2 (g := g) rfl i (.string (mk8 ks[i])) (by simp [hi])
                  rw [show (⟨g, 0, none⟩ : Addr).add i = ⟨g, i, none⟩ by unfold Addr.add; by_cases h2 : i = 0 <;> simp [h2]] at h9
                  exact h9
              obtain ⟨g, rfl, hcl⟩ := hcl
              have hcell := hcl l hll
              obtain ⟨hz1, hz2⟩ := HKZ.out ks[l] (List.getElem_mem hll)
              have hlk := HS6.out.1.look (mk8 ks[l]) (by unfold mk8 maxLen; simp only [ByteArray.size, List.size_toArray]; omega)
              rw [show (mk8 ks[l]).data.toList = ks[l] by unfold mk8; simp, hz2] at hlk
              by_cases h0 : l = 0
              · subst h0
                generalize mk8 ks[0] = s at hcell hlk
                clear hcl hz1 hz2
                go_wp2_with fail
                go_roundw
                case rel => exact ⟨1, by omega, rfl, (by first | rfl | trivial)⟩
                case measure => simp [intOf]; omega
              · have hl0I : (0 : Int) < (l : Int) := by omega
                obtain ⟨m, rfl⟩ : ∃ m, l = m + 1 := ⟨l - 1, by omega⟩
                have hcp := hcl m (by omega)
                have hmI : ((m + 1 : Nat) : Int) - 1 = (m : Int) := by omega
                have hless : Op.bytesLess (mk8 ks[m]).toList (mk8 ks[m + 1]).toList = true := by
                  rw [Proofs.bytesLess_eq, Lib.toList_data, Lib.toList_data]
                  exact decide_eq_true ((b_iff _ _).1 (List.pairwise_iff_getElem.1 HKP.out m (m + 1) (by omega) hll (by omega)))
                generalize mk8 ks[m + 1] = s at hcell hlk hless
                generalize mk8 ks[m] = p at hcp hless
                clear hcl hz1 hz2
                go_wp2_with fail
                go_roundw
                case rel => exact ⟨m + 2, by omega, by go_num, (by first | rfl | trivial)⟩
                case measure => simp [intOf]; omega
            · obtain rfl : l = ks.length := by omega
              have HBW : Hid (Below w.heap.size w wr) := Lib.hid HS6.out.1.2.2.2.2.1
              clear HS6
              go_wp2_with fail
              refine (take_nil _ _ _).mono ?_
              rintro e w8 ⟨rfl, rfl⟩
              go_wp2_with fail
              refine (busy_any _ _ _).mono ?_
              rintro e w8 ⟨rfl, rfl⟩
              have HBN : Hid (Below w.heap.size w ((wr.alloc (.cells #[.pointer none] 24)).alloc (.cells #[.int .i64 1] 3))) := Lib.hid ((HBW.out.alloc HBW.out.size _).alloc (HBW.out.alloc HBW.out.size _).size _)
              have HAS := Lib.hid (asked_nil ((wr.alloc (.cells #[.pointer none] 24)).alloc (.cells #[.int .i64 1] 3)) 1 wr.heap.size (wr.heap.size + 1) (by simp) (by simp) ⟨#[97]⟩)
              go_wp2_with fail
              refine HAS.out.mono ?_
              rintro e w8 ⟨rfl, rfl⟩
              clear HAS
              generalize (wr.alloc (.cells #[.pointer none] 24)).alloc (.cells #[.int .i64 1] 3) = w9 at HBN ⊢
              go_wp2_with fail
              refine (free_nil _ _).mono ?_
              rintro e w8 ⟨rfl, rfl⟩
              go_wp2_with fail
              refine (of_nil _ _).mono ?_
              rintro e w8 ⟨rfl, rfl⟩
              go_wp2_with fail
              refine (len_nil _).mono ?_
              rintro e w8 ⟨rfl, rfl⟩
              go_wp2
              go_ret
              exact ⟨rfl, HBN.out⟩
        · intro xk cv kl ya yb w1q cnt1 hkey hlk hRv hat hrg1 hlt1 hg1 hs1 hen
          obtain ⟨rfl, hxs, z, rfl, hmem⟩ := entry_g HRI.out hkey hRv hat
          have hns := n_step HRI.out hmem hlk (who := a1)
          have hnl := n_le (fun y => left y && !y.sameKey (.string xk.data.toList)) gs a1
          have hb51 : Below w5.heap.size w5 w1q := hb5.grown hg1 hb5.size fun q hq => by have := Option.some.inj hq; have := HR.out; omega
          have HM : Hid (cnt1 < wr.rangeLeft (c + 3) r) := Lib.hid (by rw [hrg.left_eq]; exact hlt1)
          have HL1 : Hid (w1q.rangeLeft (c + 3) r = cnt1) := Lib.hid hrg1.left_eq
          by_cases hz : z = a1
          · subst hz
            rw [if_pos rfl] at hns
            have HN : Hid (∃ left cnt, w1q.ranges Try.prog 9 RV (c + 3) r vs.length (dm (toV gs)) left cnt ∧ t + 1 = nOf left gs z ∧ Below w5.heap.size w5 w1q) := Lib.hid ⟨_, cnt1, hrg1, by rw [hns, HNT.out], hb51⟩
            have ht1 : t + 1 ≤ 60 := by have := HNT.out; omega
            clear hlk hRv hat hlt1 hg1 hs1 hmem hns hnl hb5 hb51 hrg hrg1 hkey
            go_wp2_with fail
            go_roundw
            case rel => exact ⟨t + 1, ht1, by go_num, HN⟩
            case measure => rw [HL1.out]; exact HM.out
          · have hzz : (z == a1) = false := by simpa using hz
            rw [if_neg hz] at hns
            have HN : Hid (∃ left cnt, w1q.ranges Try.prog 9 RV (c + 3) r vs.length (dm (toV gs)) left cnt ∧ t = nOf left gs a1 ∧ Below w5.heap.size w5 w1q) := Lib.hid ⟨_, cnt1, hrg1, by rw [hns, HNT.out]; rfl, hb51⟩
            clear hlk hRv hat hlt1 hg1 hs1 hmem hns hnl hb5 hb51 hrg hrg1 hz hkey
            go_wp2_with fail
            go_roundw
            case rel => exact ⟨t, ht, rfl, HN⟩
            case measure => rw [HL1.out]; exact HM.out

theorem walk {w : World} (a : Option Addr) (la ca : Nat) (wa : ∃ vs, ActsCame w a la ca vs) (a1 : Int) (w1 : (Lit.int .i64 a1).wf = true) (key : ByteArray) (wk : key.size ≤ maxLen) :
    Calls Try.prog 3 #[.slice a la ca, .int .i64 a1, .string key] w fun e W' => e = .returned (.bool true) ∧ Below w.heap.size w W' := by
  obtain ⟨vs, wa⟩ := wa
  exact walk_main a la ca vs wa a1 w1 key wk

end Go.Proofs.Ytciknhilbemgdaa.claimActs
