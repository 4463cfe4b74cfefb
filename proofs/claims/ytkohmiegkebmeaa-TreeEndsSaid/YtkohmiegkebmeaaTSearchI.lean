/-
  tree: where a key is in a leaf, and in which leaf: slices.BinarySearchFunc at both (trees of int).
-/
import Derived.Test.YtkohmiegkebmeaaTPl
import Derived.Test.YtkohmiegkebmeaaTBox
namespace Go.Proofs.Ytkohmiegkebmeaa.tI
open Go.RowKit

theorem cl1_any (g n c : Nat) (k : ByteArray) (w : World) (hn : 0 < n) (hc : w.cell? ⟨g, 0, none⟩ = some (.string k))  :
    Calls Try.prog 36 #[.slice (some ⟨g, 0, none⟩) n c] w fun e w' => e = .returned (.string k) ∧ Below w.heap.size w w' := by
  have hn' : (0 : Int) < (n : Int) := by omega
  go_enter Try.func36, Try.ntmps36
  go_wp2
  go_ret
  exact ⟨rfl, Below.refl _ _⟩

theorem cl2_any (k : ByteArray) (v : Value) (w : World) :
    Calls Try.prog 38 #[.agg #[.string k, v]] w fun e w' => e = .returned (.string k) ∧ Below w.heap.size w w' := by
  have HB := Lib.hid ((Below.refl _ w).alloc (Nat.le_refl _) (.cells #[.string k, v] 67))
  go_enter Try.func38, Try.ntmps38
  go_wp2
  go_ret
  exact ⟨rfl, HB.out⟩

theorem sec_any (fb : Nat) (k : ByteArray) (v : Value) (key : ByteArray) (w : World) (hf : w.cell? ⟨fb, 0, none⟩ = some (.func (.func 38) #[] #[]))  (hfb : fb < w.heap.size) :
    Calls Try.prog 55 #[.agg #[.string k, v], .string key, .pointer (some ⟨fb, 0, none⟩)] w fun e w' => e = .returned (.int .i64 (cmpL k.data.toList key.data.toList)) ∧ Below w.heap.size w w' := by
  have HC := Lib.hid (fun W => cl2_any k v W)
  have HBX := Lib.hid ((Below.refl w.heap.size w).alloc (Nat.le_refl _) (.cells #[.string k, v] 67))
  go_enter Try.func55, Try.ntmps55
  go_wp2_with (go_at_call 38; refine (HC.out _).mono ?_; rintro e w1 ⟨rfl, hb1⟩; have HB1 := Lib.hid hb1; clear hb1)
  all_goals
    refine (Try.strings_Compare _ _ _).mono ?_
    rintro e w2 ⟨rfl, rfl⟩
    go_wp2
    go_ret
    exact ⟨by rw [cmpB_eq]; rfl, HBX.out.trans (HB1.out.mono HBX.out.size)⟩

theorem serc_any (fb : Nat) (g n c : Nat) (k : ByteArray) (key : ByteArray) (w : World) (hf : w.cell? ⟨fb, 0, none⟩ = some (.func (.func 36) #[] #[]))  (hn : 0 < n) (hc : w.cell? ⟨g, 0, none⟩ = some (.string k)) :
    Calls Try.prog 52 #[.slice (some ⟨g, 0, none⟩) n c, .string key, .pointer (some ⟨fb, 0, none⟩)] w fun e w' => e = .returned (.int .i64 (cmpL k.data.toList key.data.toList)) ∧ Below w.heap.size w w' := by
  have HC := Lib.hid (fun _ : Unit => cl1_any g n c k w hn hc)
  have HBX := Lib.hid (Below.refl w.heap.size w)
  go_enter Try.func52, Try.ntmps52
  go_wp2_with (go_at_call 36; refine (HC.out ()).mono ?_; rintro e w1 ⟨rfl, hb1⟩; have HB1 := Lib.hid hb1; clear hb1)
  all_goals
    refine (Try.strings_Compare _ _ _).mono ?_
    rintro e w2 ⟨rfl, rfl⟩
    go_wp2
    go_ret
    exact ⟨by rw [cmpB_eq]; rfl, HBX.out.trans (HB1.out.mono HBX.out.size)⟩

set_option maxHeartbeats 4000000 in
set_option maxRecDepth 100000 in
theorem bsf_any (fb g c : Nat) (ks : List ByteArray) (key : ByteArray) (w : World) (hg : g < w.heap.size) (hf : w.cell? ⟨fb, 0, none⟩ = some (.func (.func 38) #[] #[])) (hfb : fb < w.heap.size) (hl : ks.length ≤ 100000) (hr : RiseB ks)
    (hC : ∀ i (h : i < ks.length), ∃ v, w.cell? ⟨g, i * 2, none⟩ = some (.string ks[i]) ∧ w.cell? ⟨g, i * 2 + 1, none⟩ = some v) :
    Calls Try.prog 54 #[.slice (some ⟨g, 0, none⟩) ks.length c, .string key, .func (.func 55) #[] #[.pointer (some ⟨fb, 0, none⟩)]] w fun e w' => e = .returned (.tuple #[.int .i64 (atB ks key : Nat), .bool (isB ks key)]) ∧ Below w.heap.size w w' := by
  have HC : Hid (∀ W, Below w.heap.size w W → (W.cell? ⟨fb, 0, none⟩ = some (.func (.func 38) #[] #[]) ∧ fb < W.heap.size ∧ g < W.heap.size) ∧ ∀ i (h : i < ks.length), ∃ v, W.cell? ⟨g, i * 2, none⟩ = some (.string ks[i]) ∧ W.cell? ⟨g, i * 2 + 1, none⟩ = some v) :=
    Lib.hid fun W hB => ⟨⟨(hB.cell (p := ⟨fb, 0, none⟩) hfb).trans hf, Nat.lt_of_lt_of_le hfb hB.size, Nat.lt_of_lt_of_le hg hB.size⟩, fun i hi => (hC i hi).imp fun v h => ⟨(hB.cell (p := ⟨g, i * 2, none⟩) hg).trans h.1, (hB.cell (p := ⟨g, i * 2 + 1, none⟩) hg).trans h.2⟩⟩
  have HAT : Hid (atB ks key ≤ ks.length ∧ ∀ i (h : i < ks.length), (cmpL (ks[i]).data.toList key.data.toList < 0 ↔ i < atB ks key)) := Lib.hid ⟨atB_le ks key, fun i hi => cmpL_below.trans (atB_lt hr i hi)⟩
  have HIS : Hid (isB ks key = if h : atB ks key < ks.length then decide (cmpL (ks[atB ks key]).data.toList key.data.toList = 0) else false) := Lib.hid (by
    rw [isB_at hr]
    by_cases h : atB ks key < ks.length
    · rw [dif_pos h, dif_pos h]
      by_cases e : ks[atB ks key] = key
      · rw [decide_eq_true e, decide_eq_true (cmpB_zero.2 e)]
      · rw [decide_eq_false e, decide_eq_false (fun h2 => e (cmpB_zero.1 h2))]
    · rw [dif_neg h, dif_neg h])
  clear hC hr hg hf hfb
  go_enter Try.func54, Try.ntmps54
  go_wp2
  go_loopw [9, 10] (fun i j wr => ∃ lo hi : Nat, i = .int .i64 lo ∧ j = .int .i64 hi ∧ hi ≤ ks.length ∧ Hid (lo ≤ atB ks key ∧ atB ks key ≤ hi ∧ Below w.heap.size w wr)) (fun i j _ => (intOf j).toNat - (intOf i).toNat)
  case atStart => exact ⟨0, ks.length, rfl, rfl, Nat.le_refl _, Lib.hid ⟨Nat.zero_le _, HAT.out.1, Below.refl _ _⟩⟩
  case round =>
    obtain ⟨lo, hi, rfl, rfl, hin, I⟩ := hrel
    by_cases hlt : lo < hi
    · obtain ⟨m, hm⟩ : ∃ m, m = (lo + hi) / 2 := ⟨_, rfl⟩
      have hml : m < ks.length := by omega
      have hdiv : ((lo : Int) + (hi : Int)) / 2 = (m : Int) := by omega
      have hmn : (m : Int) < (ks.length : Int) := by omega
      obtain ⟨⟨hfW, hfbW, hgW⟩, hel⟩ := HC.out wr I.out.2.2
      obtain ⟨v, hc1, hc2⟩ := hel m hml
      have hcmp := HAT.out.2 m hml
      obtain ⟨p, hp⟩ : ∃ p, p = ks[m] := ⟨_, rfl⟩
      rw [← hp] at hcmp hc1
      have hcl := sec_any fb p v key wr hfW hfbW
      obtain ⟨q, hq⟩ : ∃ q, q = cmpL p.data.toList key.data.toList := ⟨_, rfl⟩
      rw [← hq] at hcl hcmp
      have HCL := Lib.hid hcl
      have HLT := Lib.hid (And.intro hlt hm)
      by_cases hneg : q < 0
      · have I2 : Hid (∀ W, Below wr.heap.size wr W → m + 1 ≤ atB ks key ∧ atB ks key ≤ hi ∧ Below w.heap.size w W) := Lib.hid fun W hW => ⟨hcmp.1 hneg, I.out.2.1, I.out.2.2.trans (hW.mono I.out.2.2.size)⟩
        clear hcl hcmp hp hq hm I hel
        go_wp2_with (go_at_call 55; refine HCL.out.mono ?_; rintro e w' ⟨rfl, hb1⟩; have HB1 := Lib.hid hb1; clear hb1)
        go_roundw
        case rel => exact ⟨m + 1, hi, by go_num, rfl, hin, Lib.hid (I2.out _ HB1.out)⟩
        case measure => have := HLT.out; simp [intOf]; omega
      · have I2 : Hid (∀ W, Below wr.heap.size wr W → lo ≤ atB ks key ∧ atB ks key ≤ m ∧ Below w.heap.size w W) := Lib.hid fun W hW => ⟨I.out.1, by have := fun h => hneg (hcmp.2 h); omega, I.out.2.2.trans (hW.mono I.out.2.2.size)⟩
        clear hcl hcmp hp hq hm I hel
        go_wp2_with (go_at_call 55; refine HCL.out.mono ?_; rintro e w' ⟨rfl, hb1⟩; have HB1 := Lib.hid hb1; clear hb1)
        go_roundw
        case rel => exact ⟨lo, m, rfl, rfl, by omega, Lib.hid (I2.out _ HB1.out)⟩
        case measure => have := HLT.out; simp [intOf]; omega
    · obtain ⟨e1, e2⟩ : lo = atB ks key ∧ hi = lo := by have := I.out; omega
      have HF := Lib.hid I.out.2.2
      have his := HIS.out
      rw [← e1] at his ⊢
      clear I
      by_cases hle : lo < ks.length
      · rw [dif_pos (by omega)] at his
        obtain ⟨⟨hfW, hfbW, hgW⟩, hel⟩ := HC.out wr HF.out
        obtain ⟨v, hc1, hc2⟩ := hel lo hle
        obtain ⟨p, hp⟩ : ∃ p, p = ks[lo] := ⟨_, rfl⟩
        rw [← hp] at his hc1
        have hcl := sec_any fb p v key wr hfW hfbW
        obtain ⟨q, hq⟩ : ∃ q, q = cmpL p.data.toList key.data.toList := ⟨_, rfl⟩
        rw [← hq] at hcl his
        have HCL := Lib.hid hcl
        have hll : (lo : Int) < (ks.length : Int) := by omega
        have HIF := Lib.hid his
        subst e2
        have HE := Lib.hid e1
        clear hcl hp hq e1 his HIS hel
        go_wp2_with (go_at_call 55; refine HCL.out.mono ?_; rintro e w' ⟨rfl, hb1⟩; have HB1 := Lib.hid hb1; clear hb1)
        refine bodyPost_ret (v := .tuple #[.int .i64 hi, .bool (q == 0)]) (by simp [results, Try.results54, go_sem]) rfl ⟨by rw [HIF.out, ← HE.out, show (q == 0) = decide (q = 0) from rfl], HF.out.trans (HB1.out.mono HF.out.size)⟩
      · rw [dif_neg (by omega)] at his
        have hll : ¬ (lo : Int) < (ks.length : Int) := by omega
        have HIF := Lib.hid his
        subst e2
        have HE := Lib.hid e1
        clear e1 his HIS
        go_wp2
        refine bodyPost_ret (v := .tuple #[.int .i64 hi, .bool false]) (by simp [results, Try.results54, go_sem]) rfl ⟨by rw [HIF.out, ← HE.out], HF.out⟩

set_option maxHeartbeats 4000000 in
set_option maxRecDepth 100000 in
theorem bsr_any (fb g c : Nat) (ks : List ByteArray) (key : ByteArray) (w : World) (hg : g < w.heap.size) (hf : w.cell? ⟨fb, 0, none⟩ = some (.func (.func 36) #[] #[])) (hfb : fb < w.heap.size) (hl : ks.length ≤ 100000) (hr : RiseB ks)
    (hC : ∀ i (h : i < ks.length), ∃ gi ni ci, w.cell? ⟨g, i, none⟩ = some (.slice (some ⟨gi, 0, none⟩) ni ci) ∧ 0 < ni ∧ w.cell? ⟨gi, 0, none⟩ = some (.string ks[i]) ∧ gi < w.heap.size) :
    Calls Try.prog 51 #[.slice (some ⟨g, 0, none⟩) ks.length c, .string key, .func (.func 52) #[] #[.pointer (some ⟨fb, 0, none⟩)]] w fun e w' => e = .returned (.tuple #[.int .i64 (atB ks key : Nat), .bool (isB ks key)]) ∧ Below w.heap.size w w' := by
  have HC : Hid (∀ W, Below w.heap.size w W → (W.cell? ⟨fb, 0, none⟩ = some (.func (.func 36) #[] #[]) ∧ fb < W.heap.size ∧ g < W.heap.size) ∧ ∀ i (h : i < ks.length), ∃ gi ni ci, W.cell? ⟨g, i, none⟩ = some (.slice (some ⟨gi, 0, none⟩) ni ci) ∧ 0 < ni ∧ W.cell? ⟨gi, 0, none⟩ = some (.string ks[i]) ∧ gi < W.heap.size) :=
    Lib.hid fun W hB => ⟨⟨(hB.cell (p := ⟨fb, 0, none⟩) hfb).trans hf, Nat.lt_of_lt_of_le hfb hB.size, Nat.lt_of_lt_of_le hg hB.size⟩, fun i hi => by obtain ⟨gi, ni, ci, h1, h2, h3, h4⟩ := hC i hi; exact ⟨gi, ni, ci, (hB.cell (p := ⟨g, i, none⟩) hg).trans h1, h2, (hB.cell (p := ⟨gi, 0, none⟩) h4).trans h3, Nat.lt_of_lt_of_le h4 hB.size⟩⟩
  have HAT : Hid (atB ks key ≤ ks.length ∧ ∀ i (h : i < ks.length), (cmpL (ks[i]).data.toList key.data.toList < 0 ↔ i < atB ks key)) := Lib.hid ⟨atB_le ks key, fun i hi => cmpL_below.trans (atB_lt hr i hi)⟩
  have HIS : Hid (isB ks key = if h : atB ks key < ks.length then decide (cmpL (ks[atB ks key]).data.toList key.data.toList = 0) else false) := Lib.hid (by
    rw [isB_at hr]
    by_cases h : atB ks key < ks.length
    · rw [dif_pos h, dif_pos h]
      by_cases e : ks[atB ks key] = key
      · rw [decide_eq_true e, decide_eq_true (cmpB_zero.2 e)]
      · rw [decide_eq_false e, decide_eq_false (fun h2 => e (cmpB_zero.1 h2))]
    · rw [dif_neg h, dif_neg h])
  clear hC hr hg hf hfb
  go_enter Try.func51, Try.ntmps51
  go_wp2
  go_loopw [9, 10] (fun i j wr => ∃ lo hi : Nat, i = .int .i64 lo ∧ j = .int .i64 hi ∧ hi ≤ ks.length ∧ Hid (lo ≤ atB ks key ∧ atB ks key ≤ hi ∧ Below w.heap.size w wr)) (fun i j _ => (intOf j).toNat - (intOf i).toNat)
  case atStart => exact ⟨0, ks.length, rfl, rfl, Nat.le_refl _, Lib.hid ⟨Nat.zero_le _, HAT.out.1, Below.refl _ _⟩⟩
  case round =>
    obtain ⟨lo, hi, rfl, rfl, hin, I⟩ := hrel
    by_cases hlt : lo < hi
    · obtain ⟨m, hm⟩ : ∃ m, m = (lo + hi) / 2 := ⟨_, rfl⟩
      have hml : m < ks.length := by omega
      have hdiv : ((lo : Int) + (hi : Int)) / 2 = (m : Int) := by omega
      have hmn : (m : Int) < (ks.length : Int) := by omega
      obtain ⟨⟨hfW, hfbW, hgW⟩, hel⟩ := HC.out wr I.out.2.2
      obtain ⟨gi, ni, ci, hc1, hni, hc2, hgi⟩ := hel m hml
      have hcmp := HAT.out.2 m hml
      obtain ⟨p, hp⟩ : ∃ p, p = ks[m] := ⟨_, rfl⟩
      rw [← hp] at hcmp hc2
      have hcl := serc_any fb gi ni ci p key wr hfW hni hc2
      obtain ⟨q, hq⟩ : ∃ q, q = cmpL p.data.toList key.data.toList := ⟨_, rfl⟩
      rw [← hq] at hcl hcmp
      have HCL := Lib.hid hcl
      have HLT := Lib.hid (And.intro hlt hm)
      by_cases hneg : q < 0
      · have I2 : Hid (∀ W, Below wr.heap.size wr W → m + 1 ≤ atB ks key ∧ atB ks key ≤ hi ∧ Below w.heap.size w W) := Lib.hid fun W hW => ⟨hcmp.1 hneg, I.out.2.1, I.out.2.2.trans (hW.mono I.out.2.2.size)⟩
        clear hcl hcmp hp hq hm I hel
        go_wp2_with (go_at_call 52; refine HCL.out.mono ?_; rintro e w' ⟨rfl, hb1⟩; have HB1 := Lib.hid hb1; clear hb1)
        go_roundw
        case rel => exact ⟨m + 1, hi, by go_num, rfl, hin, Lib.hid (I2.out _ HB1.out)⟩
        case measure => have := HLT.out; simp [intOf]; omega
      · have I2 : Hid (∀ W, Below wr.heap.size wr W → lo ≤ atB ks key ∧ atB ks key ≤ m ∧ Below w.heap.size w W) := Lib.hid fun W hW => ⟨I.out.1, by have := fun h => hneg (hcmp.2 h); omega, I.out.2.2.trans (hW.mono I.out.2.2.size)⟩
        clear hcl hcmp hp hq hm I hel
        go_wp2_with (go_at_call 52; refine HCL.out.mono ?_; rintro e w' ⟨rfl, hb1⟩; have HB1 := Lib.hid hb1; clear hb1)
        go_roundw
        case rel => exact ⟨lo, m, rfl, rfl, by omega, Lib.hid (I2.out _ HB1.out)⟩
        case measure => have := HLT.out; simp [intOf]; omega
    · obtain ⟨e1, e2⟩ : lo = atB ks key ∧ hi = lo := by have := I.out; omega
      have HF := Lib.hid I.out.2.2
      have his := HIS.out
      rw [← e1] at his ⊢
      clear I
      by_cases hle : lo < ks.length
      · rw [dif_pos (by omega)] at his
        obtain ⟨⟨hfW, hfbW, hgW⟩, hel⟩ := HC.out wr HF.out
        obtain ⟨gi, ni, ci, hc1, hni, hc2, hgi⟩ := hel lo hle
        obtain ⟨p, hp⟩ : ∃ p, p = ks[lo] := ⟨_, rfl⟩
        rw [← hp] at his hc2
        have hcl := serc_any fb gi ni ci p key wr hfW hni hc2
        obtain ⟨q, hq⟩ : ∃ q, q = cmpL p.data.toList key.data.toList := ⟨_, rfl⟩
        rw [← hq] at hcl his
        have HCL := Lib.hid hcl
        have hll : (lo : Int) < (ks.length : Int) := by omega
        have HIF := Lib.hid his
        subst e2
        have HE := Lib.hid e1
        clear hcl hp hq e1 his HIS hel
        go_wp2_with (go_at_call 52; refine HCL.out.mono ?_; rintro e w' ⟨rfl, hb1⟩; have HB1 := Lib.hid hb1; clear hb1)
        refine bodyPost_ret (v := .tuple #[.int .i64 hi, .bool (q == 0)]) (by simp [results, Try.results51, go_sem]) rfl ⟨by rw [HIF.out, ← HE.out, show (q == 0) = decide (q = 0) from rfl], HF.out.trans (HB1.out.mono HF.out.size)⟩
      · rw [dif_neg (by omega)] at his
        have hll : ¬ (lo : Int) < (ks.length : Int) := by omega
        have HIF := Lib.hid his
        subst e2
        have HE := Lib.hid e1
        clear e1 his HIS
        go_wp2
        refine bodyPost_ret (v := .tuple #[.int .i64 hi, .bool false]) (by simp [results, Try.results51, go_sem]) rfl ⟨by rw [HIF.out, ← HE.out], HF.out⟩

theorem search_any (g c : Nat) (ks : List ByteArray) (key : ByteArray) (w : World) (hg : g < w.heap.size) (hl : ks.length ≤ 100000) (hr : RiseB ks)
    (hC : ∀ i (h : i < ks.length), ∃ v, w.cell? ⟨g, i * 2, none⟩ = some (.string ks[i]) ∧ w.cell? ⟨g, i * 2 + 1, none⟩ = some v) :
    Calls Try.prog 37 #[.slice (some ⟨g, 0, none⟩) ks.length c, .string key, .func (.func 38) #[] #[]] w fun e w' => e = .returned (.tuple #[.int .i64 (atB ks key : Nat), .bool (isB ks key)]) ∧ Below w.heap.size w w' := by
  have hA : Below w.heap.size w (w.alloc (.cells #[.func (.func 38) #[] #[]] 80)) := (Below.refl _ w).alloc (Nat.le_refl _) _
  have hcall := bsf_any w.heap.size g c ks key (w.alloc (.cells #[.func (.func 38) #[] #[]] 80)) (Nat.lt_of_lt_of_le hg hA.size) (by simp) (by simp) hl hr (fun i hi => (hC i hi).imp fun v h => ⟨(hA.cell (p := ⟨g, i * 2, none⟩) hg).trans h.1, (hA.cell (p := ⟨g, i * 2 + 1, none⟩) hg).trans h.2⟩)
  have HCALL := Lib.hid hcall
  have HA := Lib.hid hA
  clear hcall hA hC hr hg
  go_enter Try.func37, Try.ntmps37
  go_wp2_with fail
  refine HCALL.out.mono ?_
  rintro e w2 ⟨rfl, hb2⟩
  have HF := Lib.hid (HA.out.trans (hb2.mono HA.out.size))
  clear hb2 HCALL
  go_wp2
  go_ret2
  exact ⟨rfl, HF.out⟩

theorem searchR_any (g c : Nat) (ks : List ByteArray) (key : ByteArray) (w : World) (hg : g < w.heap.size) (hl : ks.length ≤ 100000) (hr : RiseB ks)
    (hC : ∀ i (h : i < ks.length), ∃ gi ni ci, w.cell? ⟨g, i, none⟩ = some (.slice (some ⟨gi, 0, none⟩) ni ci) ∧ 0 < ni ∧ w.cell? ⟨gi, 0, none⟩ = some (.string ks[i]) ∧ gi < w.heap.size) :
    Calls Try.prog 35 #[.slice (some ⟨g, 0, none⟩) ks.length c, .string key, .func (.func 36) #[] #[]] w fun e w' => e = .returned (.tuple #[.int .i64 (atB ks key : Nat), .bool (isB ks key)]) ∧ Below w.heap.size w w' := by
  have hA : Below w.heap.size w (w.alloc (.cells #[.func (.func 36) #[] #[]] 78)) := (Below.refl _ w).alloc (Nat.le_refl _) _
  have hcall := bsr_any w.heap.size g c ks key (w.alloc (.cells #[.func (.func 36) #[] #[]] 78)) (Nat.lt_of_lt_of_le hg hA.size) (by simp) (by simp) hl hr (fun i hi => by obtain ⟨gi, ni, ci, h1, h2, h3, h4⟩ := hC i hi; exact ⟨gi, ni, ci, (hA.cell (p := ⟨g, i, none⟩) hg).trans h1, h2, (hA.cell (p := ⟨gi, 0, none⟩) h4).trans h3, Nat.lt_of_lt_of_le h4 hA.size⟩)
  have HCALL := Lib.hid hcall
  have HA := Lib.hid hA
  clear hcall hA hC hr hg
  go_enter Try.func35, Try.ntmps35
  go_wp2_with fail
  refine HCALL.out.mono ?_
  rintro e w2 ⟨rfl, hb2⟩
  have HF := Lib.hid (HA.out.trans (hb2.mono HA.out.size))
  clear hb2 HCALL
  go_wp2
  go_ret2
  exact ⟨rfl, HF.out⟩

end Go.Proofs.Ytkohmiegkebmeaa.tI
