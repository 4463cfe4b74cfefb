/-
  ClaimMany: many at many keys.
-/
import Derived.Test.YtciknhilbemgdaaClManyM
import Derived.Deep.RegionWith
import Derived.Deep.RegionHeld
namespace Go.Proofs.Ytciknhilbemgdaa.claimMany
open Go.Proofs.Ytciknhilbemgdaa.tRow Go.RowKit Go.Proofs.Ytciknhilbemgdaa.cl

set_option linter.unusedVariables false
set_option linter.unusedSimpArgs false
attribute [local go_sem] Oper.semAt_some

theorem conv_one (w : World) (j : Nat) (hj : j < 256) :
    (convert 39 9 (.slice (some ⟨w.heap.size, 0, none⟩) 1 1)).run Try.prog (w.alloc (.cells #[.int .u8 (j : Int)] 5)) = .ok (.string (mk8 (k1 j))) (w.alloc (.cells #[.int .u8 (j : Int)] 5)) := by
  refine run_convert_bytes_back (P := Try.prog) (w.alloc (.cells #[.int .u8 (j : Int)] 5)) 39 9 5 ⟨w.heap.size, 0, none⟩ 1 (k1 j) Try.underlying39 Try.underlying5 Try.underlying9 fun i hi => ?_
  obtain rfl : i = 0 := by unfold k1 at hi; simp at hi; omega
  have e : ((⟨w.heap.size, 0, none⟩ : Addr).add 0) = ⟨w.heap.size, 0, none⟩ := by unfold Addr.add; simp
  rw [e, cell_of_row _ w.heap.size 0 _ _ (0, 0) (heap_alloc_new w _)]
  have h1 : ((UInt8.ofNat j).toNat : Int) = (j : Int) := by rw [UInt8.toNat_ofNat']; omega
  simp [k1]
  omega

theorem conv_drew (w : World) (j : Nat) (hj : j < 256) :
    (convert 39 9 (.slice (some ⟨w.heap.size, 0, none⟩) 1 1)).run Try.prog (w.alloc (.cells #[.int .u8 (j : Int)] 5)).drew = .ok (.string (mk8 (k1 j))) (w.alloc (.cells #[.int .u8 (j : Int)] 5)).drew := by
  refine run_convert_bytes_back (P := Try.prog) (w.alloc (.cells #[.int .u8 (j : Int)] 5)).drew 39 9 5 ⟨w.heap.size, 0, none⟩ 1 (k1 j) Try.underlying39 Try.underlying5 Try.underlying9 fun i hi => ?_
  obtain rfl : i = 0 := by unfold k1 at hi; simp at hi; omega
  have e : ((⟨w.heap.size, 0, none⟩ : Addr).add 0) = ⟨w.heap.size, 0, none⟩ := by unfold Addr.add; simp
  rw [e, cell_of_row _ w.heap.size 0 _ _ (0, 0) (show (w.alloc (.cells #[.int .u8 (j : Int)] 5)).drew.heap[w.heap.size]? = _ from heap_alloc_new w _)]
  have h1 : ((UInt8.ofNat j).toNat : Int) = (j : Int) := by rw [UInt8.toNat_ofNat']; omega
  simp [k1]
  omega

theorem conv_later (w W : World) (j : Nat) (hj : j < 256) (h : W.heap[w.heap.size]? = some (.cells #[.int .u8 (j : Int)] 5 (0, 0))) :
    (convert 39 9 (.slice (some ⟨w.heap.size, 0, none⟩) 1 1)).run Try.prog W = .ok (.string (mk8 (k1 j))) W := by
  refine run_convert_bytes_back (P := Try.prog) W 39 9 5 ⟨w.heap.size, 0, none⟩ 1 (k1 j) Try.underlying39 Try.underlying5 Try.underlying9 fun i hi => ?_
  obtain rfl : i = 0 := by unfold k1 at hi; simp at hi; omega
  have e : ((⟨w.heap.size, 0, none⟩ : Addr).add 0) = ⟨w.heap.size, 0, none⟩ := by unfold Addr.add; simp
  rw [e, cell_of_row _ w.heap.size 0 _ _ (0, 0) h]
  have h1 : ((UInt8.ofNat j).toNat : Int) = (j : Int) := by rw [UInt8.toNat_ofNat']; omega
  simp [k1]
  omega

theorem ne_rest {j v n : Nat} (hv : v < n) (h0 : v ≠ 0) : j % n ≠ (j + v) % n := by
  intro e
  rw [Nat.add_mod, Nat.mod_eq_of_lt hv] at e
  have hlt := Nat.mod_lt j (show 0 < n by omega)
  generalize j % n = t at e hlt
  by_cases h : t + v < n
  · rw [Nat.mod_eq_of_lt h] at e; omega
  · have e2 : (t + v) % n = t + v - n := by
      rw [Nat.mod_eq_sub_mod (by omega), Nat.mod_eq_of_lt (by omega)]
    omega

/-- the state between two rounds -/
def St (w W : World) (c : Nat) (m : Nat) (gs : G) : Prop := CAt (fun q => w.heap.size ≤ q) W c m gs ∧ Below w.heap.size w W

theorem busy_st {w W : World} {c m : Nat} {gs : G} (n : Int) (h : St w W c m gs) : Calls Try.prog 8 #[.pointer (some ⟨c, 0, none⟩), .int .i64 n] W fun e w' => ∃ p q, e = .returned (.func (.func 13) #[] #[.pointer (some ⟨p, 0, none⟩), .pointer (some ⟨q, 0, none⟩)]) ∧ Below W.heap.size W w' ∧
    ∀ W2, Below w'.heap.size w' W2 → ∀ k : ByteArray, k.size ≤ maxLen → Calls Try.prog 13 #[.string k, .pointer (some ⟨p, 0, none⟩), .pointer (some ⟨q, 0, none⟩)] W2 fun e w3 => e = .returned (.bool (otherG gs n k.data.toList)) ∧ Hid (St w w3 c m gs) := by
  obtain ⟨q1, q2⟩ := h
  refine (busy_any _ _ _).mono ?_
  rintro e w' ⟨rfl, rfl⟩
  refine ⟨_, _, rfl, ((Below.refl _ W).alloc (Nat.le_refl _) _).alloc (by simp) _, fun W2 hb2 k hk => ?_⟩
  have q5 := (q1.alloc (.cells #[.pointer (some ⟨c, 0, none⟩)] 24)).alloc (.cells #[.int .i64 n] 3)
  have q6 := q5.below hb2 (Nat.le_refl _)
  have q7 := (q2.alloc q2.size (.cells #[.pointer (some ⟨c, 0, none⟩)] 24)).alloc (q2.alloc q2.size _).size (.cells #[.int .i64 n] 3)
  refine (asked_any q6 n W.heap.size (W.heap.size + 1) ?_ ?_ k hk).mono ?_
  · rw [hb2.cell (by simp; omega)]; simp
  · rw [hb2.cell (by simp)]; simp
  · rintro e w3 ⟨rfl, rfl⟩
    exact ⟨rfl, Lib.hid ⟨q6, q7.trans (hb2.mono q7.size)⟩⟩
theorem St.below {w W W2 : World} {c m : Nat} {gs : G} (h : St w W c m gs) (hb : Below W.heap.size W W2) : St w W2 c m gs := ⟨h.1.below hb (Nat.le_refl _), h.2.trans (hb.mono h.2.size)⟩

/-- what Free leaves, wherever the call is made -/
def FreeG (w wr : World) (c m k n g x : Nat) : Prop := ∀ w6, Below wr.heap.size wr w6 → Calls Try.prog 9 #[.pointer (some ⟨c, 0, none⟩), .int .i64 (g : Int)] w6 fun e w' => ∃ a k2, e = .returned (.slice a x k2) ∧ St w w' c m (freeG (gsM k n) (g : Int))

theorem free_mem {w wr : World} {c m k n g x : Nat} (q1 : CAt (fun q => w.heap.size ≤ q) wr c m (gsM k n)) (q2 : Below w.heap.size w wr) (hk : k ≤ 64) (hx : x = cnt n g k) : FreeG w wr c m k n g x := by
  intro w6 hb
  have q3 : Below w.heap.size w w6 := q2.trans (hb.mono q2.size)
  refine (free_any (q1.below hb (Nat.le_refl _)) (by rw [gsM_len]; omega) (fun p hp => ?_) (g : Int)).mono ?_
  · obtain ⟨j, _, rfl⟩ := gsM_mem hp
    simp [k1]
  · rintro e w' ⟨v, rfl, h1, h2, h3⟩
    obtain ⟨a, k2, rfl⟩ := h1.form
    rw [List.length_map, of_len, ← hx]
    exact ⟨a, k2, rfl, h2, q3.trans (h3.below (fun _ h => h) q3.size)⟩

set_option maxHeartbeats 4000000 in
set_option maxRecDepth 100000 in
theorem walk {w : World} (a0 : Int) (w0 : (Lit.int .i64 a0).wf = true) (a1 : Int) (w1 : (Lit.int .i64 a1).wf = true) (a2 : Int) (w2 : (Lit.int .i64 a2).wf = true) :
    Calls Try.prog 5 #[.int .i64 a0, .int .i64 a1, .int .i64 a2] w fun e W' => e = .returned (.bool true) ∧ Below w.heap.size w W' := by
  have hm0 := and_15 a0
  have hm1 := and_63 a1
  have hm2 := and_15 a2
  obtain ⟨r, hr⟩ : ∃ r : Nat, a0 % 16 = (r : Int) := ⟨(a0 % 16).toNat, by omega⟩
  obtain ⟨k, hk⟩ : ∃ k : Nat, a1 % 64 = (k : Int) := ⟨(a1 % 64).toNat, by omega⟩
  obtain ⟨g0, hg0⟩ : ∃ g0 : Nat, a2 % 16 = (g0 : Int) := ⟨(a2 % 16).toNat, by omega⟩
  have hr2 : r < 16 := by omega
  have hk2 : k < 64 := by omega
  have hg2 : g0 < 16 := by omega
  rw [hr] at hm0
  rw [hk] at hm1
  rw [hg0] at hm2
  clear hr hk hg0 w0 w1 w2
  go_enter Try.func5, Try.ntmps5
  go_wp2_with fail
  refine (head_any _).mono ?_
  rintro e w1 ⟨rfl, hb1⟩
  go_wp2_with fail
  refine (new_any _).mono ?_
  rintro e w2 ⟨rfl, rfl⟩
  have h1 : St w (w1.alloc (.cells #[.map none] 42)) w1.heap.size 0 [] := ⟨CAt.new w1 (fun q => w.heap.size ≤ q) hb1.size, hb1.alloc hb1.size _⟩
  obtain ⟨c, hc⟩ : ∃ c, c = w1.heap.size := ⟨_, rfl⟩
  rw [← hc] at h1 ⊢
  obtain ⟨w2, hw2⟩ : ∃ w2, w2 = w1.alloc (.cells #[.map none] 42) := ⟨_, rfl⟩
  rw [← hw2] at h1 ⊢
  obtain ⟨n, hn⟩ : ∃ n : Nat, n = 1 + r := ⟨_, rfl⟩
  have hnI : (1 : Int) + (r : Int) = (n : Int) := by omega
  have hn1 : 1 ≤ n := by omega
  have hn2 : n ≤ 16 := by omega
  have H1 := Lib.hid h1
  clear hc hw2 hb1 h1 hm0 hm1
  rw [hnI]
  clear hn hnI hr2
  go_wp2_with fail
  go_loopw [8] (fun i wr => ∃ j : Nat, j ≤ k ∧ i = .int .i64 (j : Int) ∧ Hid (St w wr c (j * 16) (gsM j n))) (fun i _ => k - (intOf i).toNat)
  case atStart => exact ⟨0, by omega, rfl, H1⟩
  case round =>
    obtain ⟨j, hj, rfl, hst⟩ := hrel
    clear H1
    by_cases hlt : j < k
    · have hltI : (j : Int) < (k : Int) := by omega
      go_wp2_with fail
      go_loopw [9] (fun i wq => ∃ v : Nat, v ≤ n ∧ i = .int .i64 (v : Int) ∧ Hid (St w wq c (j * 16 + v) (gsM (if v = 0 then j else j + 1) n))) (fun i _ => n - (intOf i).toNat)
      case atStart => exact ⟨0, by omega, rfl, hst⟩
      case round =>
        obtain ⟨v, hv, rfl, hst2⟩ := hrel
        by_cases hvn : v < n
        · have hvI : (v : Int) < (n : Int) := by omega
          have hj64 : j < 64 := by omega
          have hcv := conv_drew wr j (by omega)
          have hw8 : IntKind.u8.wrap (j : Int) = (j : Int) := by rw [IntKind.wrap_u8]; omega
          have hcv2 := hcv
          rw [← hw8] at hcv2
          have HT : Hid (∀ W, Below wr.heap.size wr W → Calls Try.prog 10 #[.pointer (some ⟨c, 0, none⟩), .int .i64 (((j : Int) + (v : Int)) % (n : Int)), .string (mk8 (k1 j))] W fun e w' => e = .returned (.bool ((v : Int) == 0)) ∧ Hid (St w w' c (j * 16 + (v + 1)) (gsM (if v + 1 = 0 then j else j + 1) n))) := Lib.hid fun W hb => by
            obtain ⟨q1, q2⟩ := hst2.out
            have q3 : Below w.heap.size w W := q2.trans (hb.mono q2.size)
            have q4 : CAt (fun q => w.heap.size ≤ q) W c (j * 16 + v) (gsM (if v = 0 then j else j + 1) n) := q1.below hb (Nat.le_refl _)
            refine (take_any q4 (fun q hq => Nat.le_trans q3.size hq) (by omega) _ (mk8 (k1 j)) (by unfold mk8 k1 maxLen; simp [ByteArray.size])).mono ?_
            rintro e w' ⟨rfl, q5, q6⟩
            have ek : (mk8 (k1 j)).data.toList = k1 j := by unfold mk8; simp
            rw [ek] at q5 ⊢
            have hother : otherG (gsM (if v = 0 then j else j + 1) n) (((j : Int) + (v : Int)) % (n : Int)) (k1 j) = !(v == 0) := by
              unfold otherG
              by_cases h0 : v = 0
              · subst h0
                rw [if_pos rfl, gsM_get (by omega) hj64, if_neg (Nat.lt_irrefl _)]
                rfl
              · rw [if_neg h0, gsM_get (by omega) hj64, if_pos (Nat.lt_succ_self _)]
                have h1 : (((j % n : Nat) : Int) != (((j : Int) + (v : Int)) % (n : Int))) = true := by
                  rw [bne_iff_ne]
                  intro e
                  have e2 : j % n = (j + v) % n := by
                    have : (((j : Int) + (v : Int)) % (n : Int)) = (((j + v) % n : Nat) : Int) := by push_cast; rfl
                    omega
                  exact ne_rest hvn h0 e2
                simp only [h1]
                simp [h0]
            have hv0 : (!!(v == 0)) = ((v : Int) == 0) := by
              rw [Bool.not_not, Bool.eq_iff_iff]
              simp only [beq_iff_eq]
              omega
            refine ⟨by rw [hother, hv0], Lib.hid ⟨?_, q3.trans (q6.below (fun _ h => h) q3.size)⟩⟩
            unfold takeG at q5
            rw [hother] at q5
            rw [if_neg (Nat.succ_ne_zero v)]
            by_cases h0 : v = 0
            · subst h0
              rw [if_neg (by simp), if_pos rfl] at q5
              have e3 : (((j : Int) + ((0 : Nat) : Int)) % (n : Int)) = ((j % n : Nat) : Int) := by push_cast; simp
              rw [e3, gsM_put hj64] at q5
              exact q5
            · rw [if_pos (by simp [h0]), if_neg h0] at q5
              exact q5
          have hdn : ¬ (n : Int) = 0 := by omega
          have hbb : Below wr.heap.size wr (wr.alloc (.cells #[.int .u8 (j : Int)] 5)).drew := ((Below.refl _ wr).alloc (Nat.le_refl _) _).drew
          have HT2 := Lib.hid (HT.out _ hbb)
          clear hst hst2 hm2 hbb HT hg2 hw8
          by_cases h0 : ((v : Int) == 0) = true
          · rw [h0] at HT2
            go_wp2_with fail
            go_region_with (go_at_call 10; refine HT2.out.mono ?_; rintro e w5 ⟨rfl, hs5⟩)
            all_goals
              go_wp2
              go_roundw
              case rel => exact ⟨v + 1, by omega, by go_num, hs5⟩
              case measure => simp [intOf]; omega
          · have h0 : ((v : Int) == 0) = false := by simpa using h0
            rw [h0] at HT2
            go_wp2_with fail
            go_region_with (go_at_call 10; refine HT2.out.mono ?_; rintro e w5 ⟨rfl, hs5⟩)
            all_goals
              go_wp2
              go_roundw
              case rel => exact ⟨v + 1, by omega, by go_num, hs5⟩
              case measure => simp [intOf]; omega
        · obtain rfl : v = n := by omega
          have HF : Hid (St w wr c ((j + 1) * 16) (gsM (j + 1) v)) := Lib.hid (by
            obtain ⟨q1, q2⟩ := hst2.out
            rw [if_neg (by omega)] at q1
            exact ⟨q1.mono (by omega), q2⟩)
          clear hst hst2
          go_wp2_with fail
          go_roundw
          case rel => exact ⟨j + 1, by omega, by go_num, HF⟩
          case measure => simp [intOf]; omega
    · obtain rfl : j = k := by omega
      have hdn : ¬ (n : Int) = 0 := by omega
      obtain ⟨g, hg⟩ : ∃ g : Nat, g = g0 % n := ⟨_, rfl⟩
      have hgI : (g0 : Int) % (n : Int) = (g : Int) := by rw [hg]; push_cast; rfl
      have hgn : g < n := by rw [hg]; exact Nat.mod_lt _ (by omega)
      clear hg
      have HST := hst
      clear hst
      go_wp2_with fail
      rw [hgI]
      clear hgI hg2
      go_wp2_with fail
      go_loopw [10, 11] (fun x i wq => ∃ m : Nat, m ≤ j ∧ i = .int .i64 (m : Int) ∧ x = .int .i64 (cnt n g m : Int) ∧ wq = wr) (fun _ i _ => j - (intOf i).toNat)
      case atStart => exact ⟨0, by omega, rfl, rfl, rfl⟩
      case round =>
        obtain ⟨m, hm, rfl, rfl, rfl⟩ := hrel
        have hcl := cnt_le n g m
        by_cases hmk : m < j
        · have hmI : (m : Int) < (j : Int) := by omega
          obtain ⟨x, hx⟩ : ∃ x, x = cnt n g m := ⟨_, rfl⟩
          have hcs := cnt_succ n g m
          rw [← hx] at hcl hcs ⊢
          by_cases hmg : (m : Int) % (n : Int) = (g : Int)
          · have HX : Hid (x + 1 = cnt n g (m + 1)) := Lib.hid (by rw [hcs, if_pos (by omega)])
            clear hcs hx
            go_wp2_with fail
            go_roundw
            case rel => exact ⟨m + 1, by omega, by go_num, by rw [← HX.out]; go_num, trivial⟩
            case measure => simp [intOf]; omega
          · have HX : Hid (x = cnt n g (m + 1)) := Lib.hid (by rw [hcs, if_neg (by omega)]; rfl)
            have hmg' : ((m : Int) % (n : Int) == (g : Int)) = false := by simpa using hmg
            clear hcs hx
            go_wp2_with fail
            go_roundw
            case rel => exact ⟨m + 1, by omega, by go_num, by rw [← HX.out], trivial⟩
            case measure => simp [intOf]; omega
        · obtain rfl : m = j := by omega
          obtain ⟨x, hx⟩ : ∃ x, x = cnt n g m := ⟨_, rfl⟩
          rw [← hx] at hcl ⊢
          have HX := Lib.hid hx
          clear hx
          go_wp2_with fail
          obtain ⟨q1, q2⟩ := HST.out
          have hm64 : m ≤ 64 := by omega
          have hgl : (gsM m n).length = m := gsM_len m n
          have HL1 := len_any q1
          rw [hgl] at HL1
          have HF : Hid (FreeG w wr c (m * 16) m n g x) := Lib.hid (free_mem q1 q2 hm64 HX.out)
          have HO := Lib.hid (of_any q1 (by rw [hgl]; omega) (g : Int))
          have hlen : ((ofG (gsM m n) (g : Int)).map mk8).length = x := by rw [List.length_map, of_len, ← HX.out]
          have HLN := Lib.hid hlen
          clear q1 q2 hgl hlen HST
          refine HL1.mono ?_
          rintro e w5 ⟨rfl, rfl⟩
          go_wp2_with fail
          refine HO.out.mono ?_
          rintro e w6 ⟨v6, rfl, hs6, hb6⟩
          obtain ⟨a6, k6, rfl⟩ := hs6.form
          rw [HLN.out]
          have HF6 := Lib.hid (HF.out w6 hb6)
          clear hs6 hb6 HO HF
          go_wp2_with fail
          refine HF6.out.mono ?_
          rintro e w7 ⟨a7, k7, rfl, hst7⟩
          have HL7 : Hid (Calls Try.prog 11 #[.pointer (some ⟨c, 0, none⟩)] w7 fun e w' => e = .returned (.int .i64 ((m : Int) - (x : Int))) ∧ w7 = w') := Lib.hid (by
            have h := len_any hst7.1
            have h2 := free_len n g m
            rw [show ((freeG (gsM m n) (g : Int)).length : Int) = (m : Int) - (x : Int) by rw [HX.out]; omega] at h
            exact h)
          have HS7 := Lib.hid hst7
          clear hst7 HF6
          go_wp2_with fail
          refine HL7.out.mono ?_
          rintro e w8 ⟨rfl, rfl⟩
          clear HL7
          go_wp2_with fail
          go_loopw [12] (fun i wr => ∃ l : Nat, l ≤ m ∧ i = .int .i64 (l : Int) ∧ Hid (St w wr c (m * 16) (freeG (gsM m n) (g : Int)))) (fun i _ => m - (intOf i).toNat)
          case atStart => exact ⟨0, by omega, rfl, HS7⟩
          case round =>
            obtain ⟨l, hl, rfl, hst⟩ := hrel
            clear HS7
            by_cases hlm : l < m
            · have hlI : (l : Int) < (m : Int) := by omega
              have hl64 : l < 64 := by omega
              have hcvA := fun W => conv_one W l (by omega)
              have hw8 : IntKind.u8.wrap (l : Int) = (l : Int) := by rw [IntKind.wrap_u8]; omega
              have hcvC := hcvA
              rw [← hw8] at hcvC
              have hcvE := conv_drew wr l (by omega)
              have hcvF := hcvE
              rw [← hw8] at hcvF
              have HCV := Lib.hid hcvC
              have HCVA := Lib.hid hcvA
              clear hcvC hcvA
              have ek : (mk8 (k1 l)).data.toList = k1 l := by unfold mk8; simp
              have eo : otherG (freeG (gsM m n) (g : Int)) (n : Int) (mk8 (k1 l)).data.toList = !(l % n == g) := by rw [ek, busy_is (by omega) (by omega) hlm]
              have hks : (mk8 (k1 l)).size ≤ maxLen := by unfold mk8 k1 maxLen; simp [ByteArray.size]
              have HB : Hid (Calls Try.prog 8 #[.pointer (some ⟨c, 0, none⟩), .int .i64 (n : Int)] wr.drew fun e w' => ∃ p q, e = .returned (.func (.func 13) #[] #[.pointer (some ⟨p, 0, none⟩), .pointer (some ⟨q, 0, none⟩)]) ∧
                  Hid (∀ W2, Below w'.heap.size w' W2 → Calls Try.prog 13 #[.string (mk8 (k1 l)), .pointer (some ⟨p, 0, none⟩), .pointer (some ⟨q, 0, none⟩)] W2 fun e w3 => e = .returned (.bool (!(l % n == g))) ∧ Hid (St w w3 c (m * 16) (freeG (gsM m n) (g : Int))))) := Lib.hid (by
                refine (busy_st (n : Int) (hst.out.below (Below.refl _ wr).drew)).mono ?_
                rintro e w' ⟨p, q, rfl, _, h1⟩
                refine ⟨p, q, rfl, Lib.hid fun W2 hb2 => ?_⟩
                have h2 := h1 W2 hb2 _ hks
                rw [eo] at h2
                exact h2)
              have hmod : ((l : Int) % (n : Int) == (g : Int)) = (l % n == g) := by
                rw [Bool.eq_iff_iff]
                simp only [beq_iff_eq]
                omega
              have HBL : Hid (∀ W o, Below W.heap.size W (W.alloc o) ∧ Below W.heap.size W (W.alloc o).drew ∧ Below W.heap.size W W.drew ∧ Below W.heap.size W W) := Lib.hid fun W o => ⟨(Below.refl _ W).alloc (Nat.le_refl _) _, ((Below.refl _ W).alloc (Nat.le_refl _) _).drew, (Below.refl _ W).drew, Below.refl _ W⟩
              have HB2 : Hid (∀ z, z = (l : Int) → Calls Try.prog 8 #[.pointer (some ⟨c, 0, none⟩), .int .i64 (n : Int)] (wr.alloc (.cells #[.int .u8 z] 5)).drew fun e w' => ∃ p q, e = .returned (.func (.func 13) #[] #[.pointer (some ⟨p, 0, none⟩), .pointer (some ⟨q, 0, none⟩)]) ∧
                  (convert 39 9 (.slice (some ⟨wr.heap.size, 0, none⟩) 1 1)).run Try.prog w' = .ok (.string (mk8 (k1 l))) w' ∧
                  Hid (∀ W2, Below w'.heap.size w' W2 → Calls Try.prog 13 #[.string (mk8 (k1 l)), .pointer (some ⟨p, 0, none⟩), .pointer (some ⟨q, 0, none⟩)] W2 fun e w3 => e = .returned (.bool (!(l % n == g))) ∧ Hid (St w w3 c (m * 16) (freeG (gsM m n) (g : Int))))) := Lib.hid fun z hz => by
                subst hz
                have hbb : Below wr.heap.size wr (wr.alloc (.cells #[.int .u8 (l : Int)] 5)).drew := ((Below.refl _ wr).alloc (Nat.le_refl _) _).drew
                refine (busy_st (n : Int) (hst.out.below hbb)).mono ?_
                rintro e w' ⟨p, q, rfl, h3, h1⟩
                refine ⟨p, q, rfl, conv_later wr w' l (by omega) ?_, Lib.hid fun W2 hb2 => ?_⟩
                · rw [h3.block wr.heap.size (by show wr.heap.size < (wr.alloc _).heap.size; simp)]
                  exact heap_alloc_new wr _
                · have h2 := h1 W2 hb2 _ hks
                  rw [eo] at h2
                  exact h2
              have HW8 := Lib.hid hw8
              obtain ⟨b, hlg⟩ : ∃ b, (l % n == g) = b := ⟨_, rfl⟩
              rw [hlg] at HB HB2 hmod
              clear hst hm2 hw8 hlg eo ek hks
              go_wp2_with fail
              go_region_with (first
                | (go_at_call 13; refine (HQ.out _ (by first | with_reducible exact (HBL.out w5 (.map #[] 0)).2.2.2 | with_reducible exact (HBL.out w5 _).1)).mono ?_; rintro e w6 ⟨rfl, hs6⟩)
                | (go_at_call 8; with_reducible refine HB.out.mono ?_; rintro e w5 ⟨p, q, rfl, HQ⟩; have hcv1 := HCV.out w5; have hcv2 := HCVA.out w5)
                | (go_at_call 8; with_reducible refine (HB2.out _ rfl).mono ?_; rintro e w5 ⟨p, q, rfl, hcv5, HQ⟩)
                | (go_at_call 8; with_reducible refine (HB2.out _ HW8.out).mono ?_; rintro e w5 ⟨p, q, rfl, hcv5, HQ⟩))
              all_goals
                go_wp2
                go_roundw
                case rel => exact ⟨l + 1, by omega, by go_num, hs6⟩
                case measure => simp [intOf]; omega
            · obtain rfl : l = m := by omega
              obtain ⟨q1, q2⟩ := hst.out
              have hle : (freeG (gsM l n) (g : Int)).length ≤ 100000 := by have := free_len n g l; omega
              have hF := Lib.hid (free_any q1 hle (fun p hp => by
                obtain ⟨i, _, rfl⟩ := gsM_mem (List.mem_filter.1 (show p ∈ (gsM l n).filter _ from hp)).1
                simp [k1]) (g : Int))
              have HQ2 := Lib.hid q2
              clear hst hm2 q1 q2 hle
              go_wp2_with fail
              refine hF.out.mono ?_
              rintro e w9 ⟨v9, rfl, hs9, _, hk9⟩
              rw [of_free] at hs9
              obtain ⟨a9, k9, rfl⟩ := hs9.form
              have HBW : Hid (Below w.heap.size w w9) := Lib.hid (HQ2.out.trans (hk9.below (fun _ h => h) HQ2.out.size))
              clear hs9 hk9 hF HQ2
              simp only [List.map_nil, List.length_nil]
              go_wp2
              go_ret
              exact ⟨rfl, HBW.out⟩

end Go.Proofs.Ytciknhilbemgdaa.claimMany
