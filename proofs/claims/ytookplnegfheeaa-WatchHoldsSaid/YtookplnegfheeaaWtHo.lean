/-
  WatchHolds: its walk.
-/
import Derived.Test.YtookplnegfheeaaWtMk
import Derived.Test.YtookplnegfheeaaWtHd
namespace Go.Proofs.Ytookplnegfheeaa.watchHolds
open Go.RowKit Go.Proofs.Ytookplnegfheeaa.tC Go.Proofs.Ytookplnegfheeaa.sT Go.Proofs.Ytookplnegfheeaa.wT Go.Proofs.Ytookplnegfheeaa.wM Go.Proofs.Ytookplnegfheeaa.iM

set_option linter.unusedVariables false
set_option linter.unusedSimpArgs false

theorem and_127 (n : Int) : bits .and .i64 n 127 = n % 128 := by
  have hc : (BitVec.ofInt 64 127).toNat = 2 ^ 7 - 1 := by decide
  have key : (BitVec.ofInt 64 n &&& BitVec.ofInt 64 127).toNat = (n % ((2 ^ 64 : Nat) : Int)).toNat % 2 ^ 7 := by
    rw [BitVec.toNat_and, BitVec.toNat_ofInt, hc, Nat.and_two_pow_sub_one_eq_mod]
  show IntKind.i64.wrap ((BitVec.ofInt 64 n &&& BitVec.ofInt 64 127).toNat : Nat) = n % 128
  rw [key, IntKind.wrap_i64]
  omega
theorem and_63 (n : Int) : bits .and .i64 n 63 = n % 64 := by
  have hc : (BitVec.ofInt 64 63).toNat = 2 ^ 6 - 1 := by decide
  have key : (BitVec.ofInt 64 n &&& BitVec.ofInt 64 63).toNat = (n % ((2 ^ 64 : Nat) : Int)).toNat % 2 ^ 6 := by
    rw [BitVec.toNat_and, BitVec.toNat_ofInt, hc, Nat.and_two_pow_sub_one_eq_mod]
  show IntKind.i64.wrap ((BitVec.ofInt 64 n &&& BitVec.ofInt 64 63).toNat : Nat) = n % 64
  rw [key, IntKind.wrap_i64]
  omega

theorem len_del {k v : Int} {fs : IL} (h : getI k fs = some v) : (delI k fs).length < fs.length := by
  unfold getI at h
  obtain ⟨p, hp, _⟩ := Option.map_eq_some_iff.1 h
  have h1 := List.find?_some hp
  have h2 := List.mem_of_find?_eq_some hp
  unfold delI
  rcases Nat.lt_or_ge (fs.filter fun p => !decide (p.1 = k)).length fs.length with h3 | h3
  · exact h3
  · exfalso
    have h4 := List.length_filter_le (fun p : Int × Int => !decide (p.1 = k)) fs
    have h5 := List.length_filter_eq_length_iff.1 (show (fs.filter fun p => !decide (p.1 = k)).length = fs.length by omega) p h2
    rw [h1] at h5
    cases h5

/-- so many marks, held one behind the other -/
def HsI (W wr : World) (b i : Nat) : Prop := ∃ fs, MkAt (fun q => W.heap.size ≤ q) wr b i fs ((min i 64 : Nat) : Int) ∧ fs.length = min i 64 ∧ (∀ x v, getI x fs = some v ↔ 1 ≤ x ∧ x ≤ ((min i 64 : Nat) : Int) ∧ v = x - 1) ∧ Below W.heap.size W wr
theorem nu_le {W wr : World} (hb : Below W.heap.size W wr) : ∀ q, Nu (fun q => W.heap.size ≤ q) wr.heap.size q → W.heap.size ≤ q := fun q h => by
  have := hb.size
  rcases h with h | h
  · exact h
  · have h : wr.heap.size ≤ q := h
    omega
theorem hs_hold {W wr : World} {b i : Nat} (h : HsI W wr b i) (hi : i < 127) :
    Calls Try.prog 43 #[.pointer (some ⟨b, 0, none⟩), .int .i64 (i : Int)] wr fun e w' => e = .returned (.tuple #[.int .i64 (if i < 64 then (i : Int) + 1 else 0), .int .i64 (if i < 64 then 0 else 4)]) ∧ Hid (HsI W w' b (i + 1)) := by
  obtain ⟨fs, h1, h2, h3, h4⟩ := h
  refine (hold_any h1 (by omega) (by omega) (by omega) (i : Int)).mono ?_
  rintro e w' (⟨c1, c2, rfl⟩ | ⟨c1, c2, c3, c4⟩)
  · have hi64 : ¬ i < 64 := by omega
    rw [if_neg hi64, if_neg hi64]
    refine ⟨c2, Lib.hid ⟨fs, ?_, by omega, ?_, h4⟩⟩
    · have e1 : min (i + 1) 64 = min i 64 := by omega
      rw [e1]
      obtain ⟨mo, k1, k2, k3, k4⟩ := h1
      exact ⟨mo, k1, k2, k3, k4.imp id fun ⟨mb, a1, a2, a3⟩ => ⟨mb, a1, a2, a3.mono (by omega)⟩⟩
    · have e1 : min (i + 1) 64 = min i 64 := by omega
      rw [e1]
      exact h3
  · have hi64 : i < 64 := by omega
    have e1 : min (i + 1) 64 = i + 1 := by omega
    have e2 : min i 64 = i := by omega
    rw [if_pos hi64, if_pos hi64]
    rw [e2] at c2 c3 h2 h3
    have hnone : getI ((i : Int) + 1) fs = none := by
      cases hg : getI ((i : Int) + 1) fs with
      | none => rfl
      | some v => have := (h3 _ _).1 hg; omega
    refine ⟨c2, Lib.hid ⟨putI ((i : Int) + 1) (i : Int) fs, ?_, by rw [len_put_new hnone, h2, e1], fun x v => ?_, ext_below c4 (fun q hq => hq) h4.size |> h4.trans⟩⟩
    · rw [e1, show (((i + 1 : Nat)) : Int) = (i : Int) + 1 by omega]
      exact c3.keep fun q hq _ => ⟨rfl, nu_le h4 q hq⟩
    · rw [get_put, e1]
      by_cases hx : x = (i : Int) + 1
      · rw [if_pos hx]
        constructor
        · intro e; injection e with e; omega
        · rintro ⟨_, _, rfl⟩; rw [hx]; congr 1; omega
      · rw [if_neg hx, h3]
        omega

/-- one goes, one comes: the least one -/
theorem hs_end {W wr : World} {b n d : Nat} (h : HsI W wr b n) (hn : n ≤ 127) (hd0 : 1 ≤ d) (hd1 : d ≤ min n 64) :
    Calls Try.prog 42 #[.pointer (some ⟨b, 0, none⟩), .int .i64 (d : Int)] wr fun e w2 => e = .returned (.int .i64 0) ∧
      Hid (Calls Try.prog 43 #[.pointer (some ⟨b, 0, none⟩), .int .i64 1000] w2 fun e w3 => e = .returned (.tuple #[.int .i64 (((min n 64 : Nat) : Int) + 1), .int .i64 0]) ∧
        Hid (Calls Try.prog 45 #[.pointer (some ⟨b, 0, none⟩), .int .i64 5000] w3 fun e w4 => e = .returned (.int .i64 (if min n 64 = 1 then 1000 else if d = 1 then 1 else 0)) ∧ Hid (Below W.heap.size W w4))) := by
  obtain ⟨m, hm⟩ : ∃ m, m = min n 64 := ⟨_, rfl⟩
  obtain ⟨fs, h1, h2, h3, h4⟩ := h
  rw [← hm] at h1 h2 h3 hd1 ⊢
  have hmz : m ≤ 64 := by omega
  have hgd : getI (d : Int) fs = some ((d : Int) - 1) := (h3 _ _).2 ⟨by omega, by omega, rfl⟩
  refine (mdrop_any h1 (wf_of (by omega) (by omega))).mono ?_
  rintro e w2 (⟨c1, _⟩ | ⟨_, c2, c3, c4⟩)
  · rw [hgd] at c1; cases c1
  have hb2 : Below W.heap.size W w2 := h4.trans (ext_below c4 (fun q hq => hq) h4.size)
  have hlen := len_del hgd
  refine ⟨c2, Lib.hid ((hold_any c3 (by omega) (by omega) (by omega) 1000).mono ?_)⟩
  rintro e w3 (⟨c5, _⟩ | ⟨_, c6, c7, c8⟩)
  · omega
  have hb3 : Below W.heap.size W w3 := hb2.trans (ext_below c8 (fun q hq => hq) hb2.size)
  refine ⟨c6, Lib.hid ((least_any c7 5000).mono ?_)⟩
  rintro e w4 ⟨x, rfl, hx⟩
  have ho : One (putI ((m : Int) + 1) 1000 (delI (d : Int) fs)) := by
    obtain ⟨mo, _, _, k3, _⟩ := c7
    exact k3
  have hmem : ∀ z v, (z, v) ∈ putI ((m : Int) + 1) 1000 (delI (d : Int) fs) ↔ (z = (m : Int) + 1 ∧ v = 1000) ∨ (1 ≤ z ∧ z ≤ (m : Int) ∧ z ≠ (d : Int) ∧ v = z - 1) := fun z v => by
    rw [← get_mem ho, get_put, get_del]
    by_cases e1 : z = (m : Int) + 1
    · rw [if_pos e1]
      constructor
      · intro e; injection e with e; exact .inl ⟨e1, e.symm⟩
      · rintro (⟨_, rfl⟩ | h)
        · rfl
        · omega
    · rw [if_neg e1]
      by_cases e2 : z = (d : Int)
      · rw [if_pos e2]
        constructor
        · intro e; cases e
        · rintro (h | h)
          · exact absurd h.1 e1
          · exact absurd e2 h.2.2.1
      · rw [if_neg e2, h3]
        constructor
        · rintro ⟨a, b, c⟩; exact .inr ⟨a, b, e2, c⟩
        · rintro (h | h)
          · exact absurd h.1 e1
          · exact ⟨h.1, h.2.1, h.2.2.2⟩
  have hw : IsLeast 5000 (putI ((m : Int) + 1) 1000 (delI (d : Int) fs)) (if m = 1 then 1000 else if d = 1 then 1 else 0) := by
    by_cases e1 : m = 1
    · rw [if_pos e1]
      refine ⟨by omega, fun p hp => ?_, .inr ⟨((m : Int) + 1, 1000), (hmem _ _).2 (.inl ⟨rfl, rfl⟩), rfl⟩⟩
      rcases (hmem p.1 p.2).1 hp with h | h <;> omega
    · rw [if_neg e1]
      by_cases e2 : d = 1
      · rw [if_pos e2]
        refine ⟨by omega, fun p hp => ?_, .inr ⟨(2, 1), (hmem _ _).2 (.inr ⟨by omega, by omega, by omega, rfl⟩), rfl⟩⟩
        rcases (hmem p.1 p.2).1 hp with h | h <;> omega
      · rw [if_neg e2]
        refine ⟨by omega, fun p hp => ?_, .inr ⟨(1, 0), (hmem _ _).2 (.inr ⟨by omega, by omega, by omega, rfl⟩), rfl⟩⟩
        rcases (hmem p.1 p.2).1 hp with h | h <;> omega
  rw [hx.out.1.one hw]
  exact ⟨rfl, Lib.hid (hb3.trans (hx.out.2.mono hb3.size))⟩

set_option maxHeartbeats 4000000 in
set_option maxRecDepth 100000 in
theorem walk {w : World} (n0 : Int) (wn : (Lit.int .i64 n0).wf = true) (d0 : Int) (wd : (Lit.int .i64 d0).wf = true) :
    Calls Try.prog 12 #[.int .i64 n0, .int .i64 d0] w fun e W' => e = .returned (.bool true) ∧ Below w.heap.size w W' := by
  obtain ⟨n, hn⟩ : ∃ n : Nat, n0 % 128 = (n : Int) := ⟨(n0 % 128).toNat, by omega⟩
  obtain ⟨dd, hdd⟩ : ∃ d : Nat, d0 % 64 = (d : Int) := ⟨(d0 % 64).toNat, by omega⟩
  have hn127 : n ≤ 127 := by omega
  have hdd64 : dd ≤ 63 := by omega
  have hm1 := and_127 n0
  have hm2 := and_63 d0
  rw [hn] at hm1
  rw [hdd] at hm2
  clear hn hdd wn wd
  obtain ⟨m, hm⟩ : ∃ m : Nat, m = min n 64 := ⟨_, rfl⟩
  have HMN : Hid (min (n : Int) 64 = (m : Int)) := Lib.hid (by omega)
  have HM := Lib.hid hm
  have hm64 : m ≤ 64 := by omega
  have HHOLD : Hid (∀ wr b i, HsI w wr b i → i < 127 → Calls Try.prog 43 #[.pointer (some ⟨b, 0, none⟩), .int .i64 (i : Int)] wr fun e w' => e = .returned (.tuple #[.int .i64 (if i < 64 then (i : Int) + 1 else 0), .int .i64 (if i < 64 then 0 else 4)]) ∧ Hid (HsI w w' b (i + 1))) := Lib.hid fun wr b i h hi => hs_hold h hi
  clear hm
  go_enter Try.func12, Try.ntmps12
  go_wp2_with fail
  refine (head17_any _).mono ?_
  rintro e w1 ⟨rfl, hb1⟩
  have HB1 := Lib.hid hb1
  clear hb1
  go_wp2_with fail
  refine (mk_new _).mono ?_
  rintro e w2 ⟨b, rfl, hN⟩
  have H0 : Hid (HsI w w2 b 0) := Lib.hid (by
    obtain ⟨_, h1, h2⟩ := hN.out
    have hs := HB1.out.size
    exact ⟨[], h1.keep fun q hq _ => ⟨rfl, by omega⟩, rfl, fun x v => ⟨fun h => (by cases h), fun h => (by omega)⟩, HB1.out.trans (h2.mono hs)⟩)
  clear hN HB1
  go_wp2_with fail
  go_loopw [6] (fun iv wr => ∃ i : Nat, i ≤ n ∧ iv = .int .i64 (i : Int) ∧ Hid (HsI w wr b i)) (fun iv _ => n - (intOf iv).toNat)
  case atStart => exact ⟨0, Nat.zero_le _, rfl, H0⟩
  case round =>
    obtain ⟨i, hi, rfl, hst⟩ := hrel
    clear H0
    by_cases hil : i < n
    · have hiI : (i : Int) < (n : Int) := by omega
      have HH := Lib.hid (HHOLD.out wr b i hst.out (by omega))
      by_cases h64 : i < 64
      · have h64I : (i : Int) < 64 := by omega
        have h64J : ((64 : Int) ≤ (i : Int)) = False := eq_false (by omega)
        have HH2 : Hid (Calls Try.prog 43 #[.pointer (some ⟨b, 0, none⟩), .int .i64 (i : Int)] wr fun e w' => e = .returned (.tuple #[.int .i64 ((i : Int) + 1), .int .i64 0]) ∧ Hid (HsI w w' b (i + 1))) := Lib.hid (by have := HH.out; rwa [if_pos h64, if_pos h64] at this)
        clear HHOLD HH hst
        go_wp2_with fail
        refine HH2.out.mono ?_
        rintro e w3 ⟨rfl, h3⟩
        clear HH2
        go_wp2
        go_roundw
        case rel => exact ⟨i + 1, by omega, by go_num, h3⟩
        case measure => simp [intOf]; omega
      · have h64I : ((i : Int) < 64) = False := eq_false (by omega)
        have h64J : (64 : Int) ≤ (i : Int) := by omega
        have HH2 : Hid (Calls Try.prog 43 #[.pointer (some ⟨b, 0, none⟩), .int .i64 (i : Int)] wr fun e w' => e = .returned (.tuple #[.int .i64 0, .int .i64 4]) ∧ Hid (HsI w w' b (i + 1))) := Lib.hid (by have := HH.out; rwa [if_neg h64, if_neg h64] at this)
        clear HHOLD HH hst
        go_wp2_with fail
        refine HH2.out.mono ?_
        rintro e w3 ⟨rfl, h3⟩
        clear HH2
        go_wp2
        go_roundw
        case rel => exact ⟨i + 1, by omega, by go_num, h3⟩
        case measure => simp [intOf]; omega
    · obtain rfl : i = n := by omega
      have hiI : ¬ (i : Int) < (i : Int) := by omega
      by_cases h0 : i = 0
      · subst h0
        have HL : Hid (Calls Try.prog 45 #[.pointer (some ⟨b, 0, none⟩), .int .i64 5] wr fun e w4 => e = .returned (.int .i64 5) ∧ Hid (Below w.heap.size w w4)) := Lib.hid (by
          obtain ⟨fs, h1, h2, h3, h4⟩ := hst.out
          refine (least_any h1 5).mono ?_
          rintro e w4 ⟨x, rfl, hx⟩
          have hw : IsLeast 5 fs 5 := ⟨by omega, fun p hp => by
            have ho : One fs := by
              obtain ⟨mo, _, _, k3, _⟩ := h1
              exact k3
            have := (h3 p.1 p.2).1 ((get_mem ho).2 hp)
            omega, .inl rfl⟩
          rw [hx.out.1.one hw]
          exact ⟨rfl, Lib.hid (h4.trans (hx.out.2.mono h4.size))⟩)
        clear hst HHOLD
        go_wp2_with fail
        refine HL.out.mono ?_
        rintro e w4 ⟨rfl, HF⟩
        go_wp2
        first | exact ⟨rfl, HF.out⟩ | (go_ret; exact ⟨rfl, HF.out⟩)
      · have hm0 : 1 ≤ m := by have := HM.out; omega
        obtain ⟨d, hd0, hd1, HR⟩ : ∃ d : Nat, 1 ≤ d ∧ d ≤ m ∧ Hid (wrap64 (1 + ((dd : Int) % (m : Int))) = (d : Int)) := ⟨dd % m + 1, by omega, Nat.mod_lt _ (by omega), Lib.hid (by
          have h1 : (dd : Int) % (m : Int) = ((dd % m : Nat) : Int) := by simp
          have h2 : dd % m < m := Nat.mod_lt _ (by omega)
          rw [h1]
          unfold wrap64
          omega)⟩
        have HE := Lib.hid (hs_end (d := d) hst.out (by omega) hd0 (by have := HM.out; omega))
        rw [← HM.out] at HE
        have h0I : ((i : Int) == 0) = false := by rw [beq_eq_false_iff_ne]; omega
        have hmI : ((m : Int) == 0) = false := by rw [beq_eq_false_iff_ne]; omega
        have hminI := HMN.out
        clear hst HHOLD
        go_wp2_with fail
        rw [HR.out]
        clear HR
        refine HE.out.mono ?_
        rintro e w2 ⟨rfl, H2⟩
        clear HE
        go_wp2_with fail
        refine H2.out.mono ?_
        rintro e w3 ⟨rfl, H3⟩
        clear H2
        have H3 := H3.out
        have hmw : wrap64 ((m : Int) + 1) = (m : Int) + 1 := by unfold wrap64; omega
        by_cases hm1 : m = 1
        · have e1 : ((m : Int) == 1) = true := by rw [beq_iff_eq]; omega
          have e2 : ((d : Int) == 1) = true := by rw [beq_iff_eq]; omega
          rw [if_pos hm1] at H3
          have H4 := Lib.hid H3
          clear H3 hm1 hd1 hd0
          go_wp2_with fail
          refine H4.out.mono ?_
          rintro e w4 ⟨rfl, HF⟩
          clear H4
          go_wp2
          first | exact ⟨rfl, HF.out⟩ | (go_ret; exact ⟨rfl, HF.out⟩)
        · have e1 : ((m : Int) == 1) = false := by rw [beq_eq_false_iff_ne]; omega
          rw [if_neg hm1] at H3
          by_cases hd : d = 1
          · have e2 : ((d : Int) == 1) = true := by rw [beq_iff_eq]; omega
            rw [if_pos hd] at H3
            have H4 := Lib.hid H3
            clear H3 hm1 hd1 hd0 hd
            go_wp2_with fail
            refine H4.out.mono ?_
            rintro e w4 ⟨rfl, HF⟩
            clear H4
            go_wp2
            first | exact ⟨rfl, HF.out⟩ | (go_ret; exact ⟨rfl, HF.out⟩)
          · have e2 : ((d : Int) == 1) = false := by rw [beq_eq_false_iff_ne]; omega
            rw [if_neg hd] at H3
            have H4 := Lib.hid H3
            clear H3 hm1 hd1 hd0 hd
            go_wp2_with fail
            refine H4.out.mono ?_
            rintro e w4 ⟨rfl, HF⟩
            clear H4
            go_wp2
            first | exact ⟨rfl, HF.out⟩ | (go_ret; exact ⟨rfl, HF.out⟩)

end Go.Proofs.Ytookplnegfheeaa.watchHolds
