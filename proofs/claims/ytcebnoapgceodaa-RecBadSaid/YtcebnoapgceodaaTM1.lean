/-
  tree: where a key is in a leaf, and in which leaf: slices.BinarySearchFunc at both (trees of chains).
  tree: a tree in memory; Len, place, Get (trees of chains).
  tree: what place tells of all keys (trees of chains).
  tree: Get (trees of chains).
  tree: a leaf, the row of leaves, the size, each turned by itself (trees of chains).
  slices.Insert of one element of 1 cells into a row that the call owns (trees of chains).
  slices.Delete of a row that the call owns, by its cells (2 a piece; trees of chains).
  slices.Clone of entries (trees of chains).
  tree: split (trees of chains).
  slices.Insert of one element of 2 cells into a row that the call owns (trees of chains).
  slices.Delete of a row that the call owns, by its cells (1 a piece; trees of chains).
  tree: join (trees of chains).
  tree: join, where two leaves become one (trees of chains).
-/
import Derived.Test.YtcebnoapgceodaaTPl
import Derived.Test.YtcebnoapgceodaaTBox
import Derived.Test.YtcebnoapgceodaaCopyK
import Derived.Shelf.Spec.SlicesInsertGrow
import Derived.Shelf.RegionOpenPlain
import Derived.WalkKit
import Derived.Deep.RegionLaw
import Derived.Lib.Walk
import Derived.Lib.SliceRun
import Derived.Outline
import Derived.StillTailTactics
section
namespace Go.Proofs.Ytcebnoapgceodaa.tC
open Go.RowKit

theorem cl1_any (g n c : Nat) (k : ByteArray) (w : World) (hn : 0 < n) (hc : w.cell? ⟨g, 0, none⟩ = some (.string k))  :
    Calls Try.prog 138 #[.slice (some ⟨g, 0, none⟩) n c] w fun e w' => e = .returned (.string k) ∧ Below w.heap.size w w' := by
  have hn' : (0 : Int) < (n : Int) := by omega
  go_enter Try.func138, Try.ntmps138
  go_wp2
  go_ret
  exact ⟨rfl, Below.refl _ _⟩

theorem cl2_any (k : ByteArray) (v : Value) (w : World) :
    Calls Try.prog 140 #[.agg #[.string k, v]] w fun e w' => e = .returned (.string k) ∧ Below w.heap.size w w' := by
  have HB := Lib.hid ((Below.refl _ w).alloc (Nat.le_refl _) (.cells #[.string k, v] 184))
  go_enter Try.func140, Try.ntmps140
  go_wp2
  go_ret
  exact ⟨rfl, HB.out⟩

theorem sec_any (fb : Nat) (k : ByteArray) (v : Value) (key : ByteArray) (w : World) (hf : w.cell? ⟨fb, 0, none⟩ = some (.func (.func 140) #[] #[]))  (hfb : fb < w.heap.size) :
    Calls Try.prog 174 #[.agg #[.string k, v], .string key, .pointer (some ⟨fb, 0, none⟩)] w fun e w' => e = .returned (.int .i64 (cmpL k.data.toList key.data.toList)) ∧ Below w.heap.size w w' := by
  have HC := Lib.hid (fun W => cl2_any k v W)
  have HBX := Lib.hid ((Below.refl w.heap.size w).alloc (Nat.le_refl _) (.cells #[.string k, v] 184))
  go_enter Try.func174, Try.ntmps174
  go_wp2_with (go_at_call 140; refine (HC.out _).mono ?_; rintro e w1 ⟨rfl, hb1⟩; have HB1 := Lib.hid hb1; clear hb1)
  all_goals
    refine (Try.strings_Compare _ _ _).mono ?_
    rintro e w2 ⟨rfl, rfl⟩
    go_wp2
    go_ret
    exact ⟨by rw [cmpB_eq]; rfl, HBX.out.trans (HB1.out.mono HBX.out.size)⟩

theorem serc_any (fb : Nat) (g n c : Nat) (k : ByteArray) (key : ByteArray) (w : World) (hf : w.cell? ⟨fb, 0, none⟩ = some (.func (.func 138) #[] #[]))  (hn : 0 < n) (hc : w.cell? ⟨g, 0, none⟩ = some (.string k)) :
    Calls Try.prog 172 #[.slice (some ⟨g, 0, none⟩) n c, .string key, .pointer (some ⟨fb, 0, none⟩)] w fun e w' => e = .returned (.int .i64 (cmpL k.data.toList key.data.toList)) ∧ Below w.heap.size w w' := by
  have HC := Lib.hid (fun _ : Unit => cl1_any g n c k w hn hc)
  have HBX := Lib.hid (Below.refl w.heap.size w)
  go_enter Try.func172, Try.ntmps172
  go_wp2_with (go_at_call 138; refine (HC.out ()).mono ?_; rintro e w1 ⟨rfl, hb1⟩; have HB1 := Lib.hid hb1; clear hb1)
  all_goals
    refine (Try.strings_Compare _ _ _).mono ?_
    rintro e w2 ⟨rfl, rfl⟩
    go_wp2
    go_ret
    exact ⟨by rw [cmpB_eq]; rfl, HBX.out.trans (HB1.out.mono HBX.out.size)⟩

set_option maxHeartbeats 4000000 in
set_option maxRecDepth 100000 in
theorem bsf_any (fb g c : Nat) (ks : List ByteArray) (key : ByteArray) (w : World) (hg : g < w.heap.size) (hf : w.cell? ⟨fb, 0, none⟩ = some (.func (.func 140) #[] #[])) (hfb : fb < w.heap.size) (hl : ks.length ≤ 100000) (hr : RiseB ks)
    (hC : ∀ i (h : i < ks.length), ∃ v, w.cell? ⟨g, i * 2, none⟩ = some (.string ks[i]) ∧ w.cell? ⟨g, i * 2 + 1, none⟩ = some v) :
    Calls Try.prog 173 #[.slice (some ⟨g, 0, none⟩) ks.length c, .string key, .func (.func 174) #[] #[.pointer (some ⟨fb, 0, none⟩)]] w fun e w' => e = .returned (.tuple #[.int .i64 (atB ks key : Nat), .bool (isB ks key)]) ∧ Below w.heap.size w w' := by
  have HC : Hid (∀ W, Below w.heap.size w W → (W.cell? ⟨fb, 0, none⟩ = some (.func (.func 140) #[] #[]) ∧ fb < W.heap.size ∧ g < W.heap.size) ∧ ∀ i (h : i < ks.length), ∃ v, W.cell? ⟨g, i * 2, none⟩ = some (.string ks[i]) ∧ W.cell? ⟨g, i * 2 + 1, none⟩ = some v) :=
    Lib.hid fun W hB => ⟨⟨(hB.cell (p := ⟨fb, 0, none⟩) hfb).trans hf, Nat.lt_of_lt_of_le hfb hB.size, Nat.lt_of_lt_of_le hg hB.size⟩, fun i hi => (hC i hi).imp fun v h => ⟨(hB.cell (p := ⟨g, i * 2, none⟩) hg).trans h.1, (hB.cell (p := ⟨g, i * 2 + 1, none⟩) hg).trans h.2⟩⟩
  have HAT : Hid (atB ks key ≤ ks.length ∧ ∀ i (h : i < ks.length), (cmpL (ks[i]).data.toList key.data.toList < 0 ↔ i < atB ks key)) := Lib.hid ⟨atB_le ks key, fun i hi => cmpL_below.trans (atB_lt hr i hi)⟩
  have HIS : Hid (isB ks key = if h : atB ks key < ks.length then decide (cmpL (ks[atB ks key]).data.toList key.data.toList = 0) else false) := Lib.hid (by
    rw [isB_at hr]
    by_cases h : atB ks key < ks.length
    · rw [dif_pos h, dif_pos h]
      by_cases e : ks[atB ks key] = key
      · rw [decide_eq_true e, decide_eq_true (cmpB_zero.2 e)]
      · rw [decide_eq_false e, decide_eq_false (fun h2 => e (cmpB_zero.1 h2))]
    · rw [dif_neg h, dif_neg h])
  clear hC hr hg hf hfb
  go_enter Try.func173, Try.ntmps173
  go_wp2
  go_loopw [9, 10] (fun i j wr => ∃ lo hi : Nat, i = .int .i64 lo ∧ j = .int .i64 hi ∧ hi ≤ ks.length ∧ Hid (lo ≤ atB ks key ∧ atB ks key ≤ hi ∧ Below w.heap.size w wr)) (fun i j _ => (intOf j).toNat - (intOf i).toNat)
  case atStart => exact ⟨0, ks.length, rfl, rfl, Nat.le_refl _, Lib.hid ⟨Nat.zero_le _, HAT.out.1, Below.refl _ _⟩⟩
  case round =>
    obtain ⟨lo, hi, rfl, rfl, hin, I⟩ := hrel
    by_cases hlt : lo < hi
    · obtain ⟨m, hm⟩ : ∃ m, m = (lo + hi) / 2 := ⟨_, rfl⟩
      have hml : m < ks.length := by omega
      have hdiv : ((lo : Int) + (hi : Int)) / 2 = (m : Int) := by omega
      have hmn : (m : Int) < (ks.length : Int) := by omega
      obtain ⟨⟨hfW, hfbW, hgW⟩, hel⟩ := HC.out wr I.out.2.2
      obtain ⟨v, hc1, hc2⟩ := hel m hml
      have hcmp := HAT.out.2 m hml
      obtain ⟨p, hp⟩ : ∃ p, p = ks[m] := ⟨_, rfl⟩
      rw [← hp] at hcmp hc1
      have hcl := sec_any fb p v key wr hfW hfbW
      obtain ⟨q, hq⟩ : ∃ q, q = cmpL p.data.toList key.data.toList := ⟨_, rfl⟩
      rw [← hq] at hcl hcmp
      have HCL := Lib.hid hcl
      have HLT := Lib.hid (And.intro hlt hm)
      by_cases hneg : q < 0
      · have I2 : Hid (∀ W, Below wr.heap.size wr W → m + 1 ≤ atB ks key ∧ atB ks key ≤ hi ∧ Below w.heap.size w W) := Lib.hid fun W hW => ⟨hcmp.1 hneg, I.out.2.1, I.out.2.2.trans (hW.mono I.out.2.2.size)⟩
        clear hcl hcmp hp hq hm I hel
        go_wp2_with (go_at_call 174; refine HCL.out.mono ?_; rintro e w' ⟨rfl, hb1⟩; have HB1 := Lib.hid hb1; clear hb1)
        go_roundw
        case rel => exact ⟨m + 1, hi, by go_num, rfl, hin, Lib.hid (I2.out _ HB1.out)⟩
        case measure => have := HLT.out; simp [intOf]; omega
      · have I2 : Hid (∀ W, Below wr.heap.size wr W → lo ≤ atB ks key ∧ atB ks key ≤ m ∧ Below w.heap.size w W) := Lib.hid fun W hW => ⟨I.out.1, by have := fun h => hneg (hcmp.2 h); omega, I.out.2.2.trans (hW.mono I.out.2.2.size)⟩
        clear hcl hcmp hp hq hm I hel
        go_wp2_with (go_at_call 174; refine HCL.out.mono ?_; rintro e w' ⟨rfl, hb1⟩; have HB1 := Lib.hid hb1; clear hb1)
        go_roundw
        case rel => exact ⟨lo, m, rfl, rfl, by omega, Lib.hid (I2.out _ HB1.out)⟩
        case measure => have := HLT.out; simp [intOf]; omega
    · obtain ⟨e1, e2⟩ : lo = atB ks key ∧ hi = lo := by have := I.out; omega
      have HF := Lib.hid I.out.2.2
      have his := HIS.out
      rw [← e1] at his ⊢
      clear I
      by_cases hle : lo < ks.length
      · rw [dif_pos (by omega)] at his
        obtain ⟨⟨hfW, hfbW, hgW⟩, hel⟩ := HC.out wr HF.out
        obtain ⟨v, hc1, hc2⟩ := hel lo hle
        obtain ⟨p, hp⟩ : ∃ p, p = ks[lo] := ⟨_, rfl⟩
        rw [← hp] at his hc1
        have hcl := sec_any fb p v key wr hfW hfbW
        obtain ⟨q, hq⟩ : ∃ q, q = cmpL p.data.toList key.data.toList := ⟨_, rfl⟩
        rw [← hq] at hcl his
        have HCL := Lib.hid hcl
        have hll : (lo : Int) < (ks.length : Int) := by omega
        have HIF := Lib.hid his
        subst e2
        have HE := Lib.hid e1
        clear hcl hp hq e1 his HIS hel
        go_wp2_with (go_at_call 174; refine HCL.out.mono ?_; rintro e w' ⟨rfl, hb1⟩; have HB1 := Lib.hid hb1; clear hb1)
        refine bodyPost_ret (v := .tuple #[.int .i64 hi, .bool (q == 0)]) (by simp [results, Try.results173, go_sem]) rfl ⟨by rw [HIF.out, ← HE.out, show (q == 0) = decide (q = 0) from rfl], HF.out.trans (HB1.out.mono HF.out.size)⟩
      · rw [dif_neg (by omega)] at his
        have hll : ¬ (lo : Int) < (ks.length : Int) := by omega
        have HIF := Lib.hid his
        subst e2
        have HE := Lib.hid e1
        clear e1 his HIS
        go_wp2
        refine bodyPost_ret (v := .tuple #[.int .i64 hi, .bool false]) (by simp [results, Try.results173, go_sem]) rfl ⟨by rw [HIF.out, ← HE.out], HF.out⟩

set_option maxHeartbeats 4000000 in
set_option maxRecDepth 100000 in
theorem bsr_any (fb g c : Nat) (ks : List ByteArray) (key : ByteArray) (w : World) (hg : g < w.heap.size) (hf : w.cell? ⟨fb, 0, none⟩ = some (.func (.func 138) #[] #[])) (hfb : fb < w.heap.size) (hl : ks.length ≤ 100000) (hr : RiseB ks)
    (hC : ∀ i (h : i < ks.length), ∃ gi ni ci, w.cell? ⟨g, i, none⟩ = some (.slice (some ⟨gi, 0, none⟩) ni ci) ∧ 0 < ni ∧ w.cell? ⟨gi, 0, none⟩ = some (.string ks[i]) ∧ gi < w.heap.size) :
    Calls Try.prog 171 #[.slice (some ⟨g, 0, none⟩) ks.length c, .string key, .func (.func 172) #[] #[.pointer (some ⟨fb, 0, none⟩)]] w fun e w' => e = .returned (.tuple #[.int .i64 (atB ks key : Nat), .bool (isB ks key)]) ∧ Below w.heap.size w w' := by
  have HC : Hid (∀ W, Below w.heap.size w W → (W.cell? ⟨fb, 0, none⟩ = some (.func (.func 138) #[] #[]) ∧ fb < W.heap.size ∧ g < W.heap.size) ∧ ∀ i (h : i < ks.length), ∃ gi ni ci, W.cell? ⟨g, i, none⟩ = some (.slice (some ⟨gi, 0, none⟩) ni ci) ∧ 0 < ni ∧ W.cell? ⟨gi, 0, none⟩ = some (.string ks[i]) ∧ gi < W.heap.size) :=
    Lib.hid fun W hB => ⟨⟨(hB.cell (p := ⟨fb, 0, none⟩) hfb).trans hf, Nat.lt_of_lt_of_le hfb hB.size, Nat.lt_of_lt_of_le hg hB.size⟩, fun i hi => by obtain ⟨gi, ni, ci, h1, h2, h3, h4⟩ := hC i hi; exact ⟨gi, ni, ci, (hB.cell (p := ⟨g, i, none⟩) hg).trans h1, h2, (hB.cell (p := ⟨gi, 0, none⟩) h4).trans h3, Nat.lt_of_lt_of_le h4 hB.size⟩⟩
  have HAT : Hid (atB ks key ≤ ks.length ∧ ∀ i (h : i < ks.length), (cmpL (ks[i]).data.toList key.data.toList < 0 ↔ i < atB ks key)) := Lib.hid ⟨atB_le ks key, fun i hi => cmpL_below.trans (atB_lt hr i hi)⟩
  have HIS : Hid (isB ks key = if h : atB ks key < ks.length then decide (cmpL (ks[atB ks key]).data.toList key.data.toList = 0) else false) := Lib.hid (by
    rw [isB_at hr]
    by_cases h : atB ks key < ks.length
    · rw [dif_pos h, dif_pos h]
      by_cases e : ks[atB ks key] = key
      · rw [decide_eq_true e, decide_eq_true (cmpB_zero.2 e)]
      · rw [decide_eq_false e, decide_eq_false (fun h2 => e (cmpB_zero.1 h2))]
    · rw [dif_neg h, dif_neg h])
  clear hC hr hg hf hfb
  go_enter Try.func171, Try.ntmps171
  go_wp2
  go_loopw [9, 10] (fun i j wr => ∃ lo hi : Nat, i = .int .i64 lo ∧ j = .int .i64 hi ∧ hi ≤ ks.length ∧ Hid (lo ≤ atB ks key ∧ atB ks key ≤ hi ∧ Below w.heap.size w wr)) (fun i j _ => (intOf j).toNat - (intOf i).toNat)
  case atStart => exact ⟨0, ks.length, rfl, rfl, Nat.le_refl _, Lib.hid ⟨Nat.zero_le _, HAT.out.1, Below.refl _ _⟩⟩
  case round =>
    obtain ⟨lo, hi, rfl, rfl, hin, I⟩ := hrel
    by_cases hlt : lo < hi
    · obtain ⟨m, hm⟩ : ∃ m, m = (lo + hi) / 2 := ⟨_, rfl⟩
      have hml : m < ks.length := by omega
      have hdiv : ((lo : Int) + (hi : Int)) / 2 = (m : Int) := by omega
      have hmn : (m : Int) < (ks.length : Int) := by omega
      obtain ⟨⟨hfW, hfbW, hgW⟩, hel⟩ := HC.out wr I.out.2.2
      obtain ⟨gi, ni, ci, hc1, hni, hc2, hgi⟩ := hel m hml
      have hcmp := HAT.out.2 m hml
      obtain ⟨p, hp⟩ : ∃ p, p = ks[m] := ⟨_, rfl⟩
      rw [← hp] at hcmp hc2
      have hcl := serc_any fb gi ni ci p key wr hfW hni hc2
      obtain ⟨q, hq⟩ : ∃ q, q = cmpL p.data.toList key.data.toList := ⟨_, rfl⟩
      rw [← hq] at hcl hcmp
      have HCL := Lib.hid hcl
      have HLT := Lib.hid (And.intro hlt hm)
      by_cases hneg : q < 0
      · have I2 : Hid (∀ W, Below wr.heap.size wr W → m + 1 ≤ atB ks key ∧ atB ks key ≤ hi ∧ Below w.heap.size w W) := Lib.hid fun W hW => ⟨hcmp.1 hneg, I.out.2.1, I.out.2.2.trans (hW.mono I.out.2.2.size)⟩
        clear hcl hcmp hp hq hm I hel
        go_wp2_with (go_at_call 172; refine HCL.out.mono ?_; rintro e w' ⟨rfl, hb1⟩; have HB1 := Lib.hid hb1; clear hb1)
        go_roundw
        case rel => exact ⟨m + 1, hi, by go_num, rfl, hin, Lib.hid (I2.out _ HB1.out)⟩
        case measure => have := HLT.out; simp [intOf]; omega
      · have I2 : Hid (∀ W, Below wr.heap.size wr W → lo ≤ atB ks key ∧ atB ks key ≤ m ∧ Below w.heap.size w W) := Lib.hid fun W hW => ⟨I.out.1, by have := fun h => hneg (hcmp.2 h); omega, I.out.2.2.trans (hW.mono I.out.2.2.size)⟩
        clear hcl hcmp hp hq hm I hel
        go_wp2_with (go_at_call 172; refine HCL.out.mono ?_; rintro e w' ⟨rfl, hb1⟩; have HB1 := Lib.hid hb1; clear hb1)
        go_roundw
        case rel => exact ⟨lo, m, rfl, rfl, by omega, Lib.hid (I2.out _ HB1.out)⟩
        case measure => have := HLT.out; simp [intOf]; omega
    · obtain ⟨e1, e2⟩ : lo = atB ks key ∧ hi = lo := by have := I.out; omega
      have HF := Lib.hid I.out.2.2
      have his := HIS.out
      rw [← e1] at his ⊢
      clear I
      by_cases hle : lo < ks.length
      · rw [dif_pos (by omega)] at his
        obtain ⟨⟨hfW, hfbW, hgW⟩, hel⟩ := HC.out wr HF.out
        obtain ⟨gi, ni, ci, hc1, hni, hc2, hgi⟩ := hel lo hle
        obtain ⟨p, hp⟩ : ∃ p, p = ks[lo] := ⟨_, rfl⟩
        rw [← hp] at his hc2
        have hcl := serc_any fb gi ni ci p key wr hfW hni hc2
        obtain ⟨q, hq⟩ : ∃ q, q = cmpL p.data.toList key.data.toList := ⟨_, rfl⟩
        rw [← hq] at hcl his
        have HCL := Lib.hid hcl
        have hll : (lo : Int) < (ks.length : Int) := by omega
        have HIF := Lib.hid his
        subst e2
        have HE := Lib.hid e1
        clear hcl hp hq e1 his HIS hel
        go_wp2_with (go_at_call 172; refine HCL.out.mono ?_; rintro e w' ⟨rfl, hb1⟩; have HB1 := Lib.hid hb1; clear hb1)
        refine bodyPost_ret (v := .tuple #[.int .i64 hi, .bool (q == 0)]) (by simp [results, Try.results171, go_sem]) rfl ⟨by rw [HIF.out, ← HE.out, show (q == 0) = decide (q = 0) from rfl], HF.out.trans (HB1.out.mono HF.out.size)⟩
      · rw [dif_neg (by omega)] at his
        have hll : ¬ (lo : Int) < (ks.length : Int) := by omega
        have HIF := Lib.hid his
        subst e2
        have HE := Lib.hid e1
        clear e1 his HIS
        go_wp2
        refine bodyPost_ret (v := .tuple #[.int .i64 hi, .bool false]) (by simp [results, Try.results171, go_sem]) rfl ⟨by rw [HIF.out, ← HE.out], HF.out⟩

theorem search_any (g c : Nat) (ks : List ByteArray) (key : ByteArray) (w : World) (hg : g < w.heap.size) (hl : ks.length ≤ 100000) (hr : RiseB ks)
    (hC : ∀ i (h : i < ks.length), ∃ v, w.cell? ⟨g, i * 2, none⟩ = some (.string ks[i]) ∧ w.cell? ⟨g, i * 2 + 1, none⟩ = some v) :
    Calls Try.prog 139 #[.slice (some ⟨g, 0, none⟩) ks.length c, .string key, .func (.func 140) #[] #[]] w fun e w' => e = .returned (.tuple #[.int .i64 (atB ks key : Nat), .bool (isB ks key)]) ∧ Below w.heap.size w w' := by
  have hA : Below w.heap.size w (w.alloc (.cells #[.func (.func 140) #[] #[]] 217)) := (Below.refl _ w).alloc (Nat.le_refl _) _
  have hcall := bsf_any w.heap.size g c ks key (w.alloc (.cells #[.func (.func 140) #[] #[]] 217)) (Nat.lt_of_lt_of_le hg hA.size) (by simp) (by simp) hl hr (fun i hi => (hC i hi).imp fun v h => ⟨(hA.cell (p := ⟨g, i * 2, none⟩) hg).trans h.1, (hA.cell (p := ⟨g, i * 2 + 1, none⟩) hg).trans h.2⟩)
  have HCALL := Lib.hid hcall
  have HA := Lib.hid hA
  clear hcall hA hC hr hg
  go_enter Try.func139, Try.ntmps139
  go_wp2_with fail
  refine HCALL.out.mono ?_
  rintro e w2 ⟨rfl, hb2⟩
  have HF := Lib.hid (HA.out.trans (hb2.mono HA.out.size))
  clear hb2 HCALL
  go_wp2
  go_ret2
  exact ⟨rfl, HF.out⟩

theorem searchR_any (g c : Nat) (ks : List ByteArray) (key : ByteArray) (w : World) (hg : g < w.heap.size) (hl : ks.length ≤ 100000) (hr : RiseB ks)
    (hC : ∀ i (h : i < ks.length), ∃ gi ni ci, w.cell? ⟨g, i, none⟩ = some (.slice (some ⟨gi, 0, none⟩) ni ci) ∧ 0 < ni ∧ w.cell? ⟨gi, 0, none⟩ = some (.string ks[i]) ∧ gi < w.heap.size) :
    Calls Try.prog 137 #[.slice (some ⟨g, 0, none⟩) ks.length c, .string key, .func (.func 138) #[] #[]] w fun e w' => e = .returned (.tuple #[.int .i64 (atB ks key : Nat), .bool (isB ks key)]) ∧ Below w.heap.size w w' := by
  have hA : Below w.heap.size w (w.alloc (.cells #[.func (.func 138) #[] #[]] 215)) := (Below.refl _ w).alloc (Nat.le_refl _) _
  have hcall := bsr_any w.heap.size g c ks key (w.alloc (.cells #[.func (.func 138) #[] #[]] 215)) (Nat.lt_of_lt_of_le hg hA.size) (by simp) (by simp) hl hr (fun i hi => by obtain ⟨gi, ni, ci, h1, h2, h3, h4⟩ := hC i hi; exact ⟨gi, ni, ci, (hA.cell (p := ⟨g, i, none⟩) hg).trans h1, h2, (hA.cell (p := ⟨gi, 0, none⟩) h4).trans h3, Nat.lt_of_lt_of_le h4 hA.size⟩)
  have HCALL := Lib.hid hcall
  have HA := Lib.hid hA
  clear hcall hA hC hr hg
  go_enter Try.func137, Try.ntmps137
  go_wp2_with fail
  refine HCALL.out.mono ?_
  rintro e w2 ⟨rfl, hb2⟩
  have HF := Lib.hid (HA.out.trans (hb2.mono HA.out.size))
  clear hb2 HCALL
  go_wp2
  go_ret2
  exact ⟨rfl, HF.out⟩

end Go.Proofs.Ytcebnoapgceodaa.tC
end

section
namespace Go.Proofs.Ytcebnoapgceodaa.tC
open Go.RowKit

/-- the two cells of the store's own that lie ahead of the tree in its block -/
structure Hd where
  x0 : Value
  x1 : Value
def hx0 [Inhabited Hd] : Value := (default : Hd).x0
def hx1 [Inhabited Hd] : Value := (default : Hd).x1

abbrev KV := ByteArray × Value
def ecells (l : List KV) : List Value := l.flatMap fun p => [.string p.1, p.2]
theorem ecells_length : ∀ l : List KV, (ecells l).length = l.length * 2
  | [] => rfl
  | p :: r => by
    have := ecells_length r
    unfold ecells at this ⊢
    rw [List.flatMap_cons, List.length_append, this]
    show 2 + _ = _
    simp; omega
theorem ecells_append (a b : List KV) : ecells (a ++ b) = ecells a ++ ecells b := by unfold ecells; rw [List.flatMap_append]
theorem ecells_at : ∀ (l : List KV) (i : Nat) (h : i < l.length), (ecells l)[i * 2]? = some (.string (l[i]).1) ∧ (ecells l)[i * 2 + 1]? = some (l[i]).2
  | [], i, h => by simp at h
  | p :: r, i, h => by
    have ih := ecells_at r
    unfold ecells at ih ⊢
    rw [List.flatMap_cons]
    match i, h with
    | 0, _ => exact ⟨rfl, rfl⟩
    | i + 1, h =>
      obtain ⟨h1, h2⟩ := ih i (by simpa using h)
      refine ⟨?_, ?_⟩
      · rw [List.getElem?_append_right (by show 2 ≤ _; omega), show (i + 1) * 2 - ([Value.string p.1, p.2] : List Value).length = i * 2 by show (i + 1) * 2 - 2 = _; omega]
        exact h1
      · rw [List.getElem?_append_right (by show 2 ≤ _; omega), show (i + 1) * 2 + 1 - ([Value.string p.1, p.2] : List Value).length = i * 2 + 1 by show (i + 1) * 2 + 1 - 2 = _; omega]
        exact h2

/-- how many keys there are -/
def total (ls : List (List KV)) : Nat := ls.flatten.length
def keysOf (l : List KV) : List ByteArray := l.map Prod.fst
def firstOf (l : List KV) : ByteArray := (l.map Prod.fst).headD ⟨#[]⟩
def firsts (ls : List (List KV)) : List ByteArray := ls.map firstOf

/-- keys that rise, in leaves none of which is empty -/
def GoodT (ls : List (List KV)) : Prop := (∀ l ∈ ls, l ≠ []) ∧ RiseB (keysOf ls.flatten)

theorem keysOf_append (a b : List KV) : keysOf (a ++ b) = keysOf a ++ keysOf b := by unfold keysOf; rw [List.map_append]

theorem GoodT.tail {l : List KV} {ls : List (List KV)} (h : GoodT (l :: ls)) : GoodT ls := by
  refine ⟨fun x hx => h.1 x (List.mem_cons_of_mem _ hx), ?_⟩
  have h2 := h.2
  unfold RiseB at h2 ⊢
  rw [List.flatten_cons, keysOf_append] at h2
  exact (List.pairwise_append.1 h2).2.1

theorem first_mem {l : List KV} (h : l ≠ []) : firstOf l ∈ keysOf l := by
  cases l with
  | nil => exact absurd rfl h
  | cons p r => simp [firstOf, keysOf]

theorem GoodT.leaf : ∀ {ls : List (List KV)}, GoodT ls → ∀ l ∈ ls, RiseB (keysOf l)
  | [], _, l, hl => by cases hl
  | x :: ls, h, l, hl => by
    have h2 := h.2
    unfold RiseB at h2
    rw [List.flatten_cons, keysOf_append] at h2
    rcases List.mem_cons.1 hl with rfl | hl
    · exact (List.pairwise_append.1 h2).1
    · exact GoodT.leaf h.tail l hl

theorem GoodT.firsts : ∀ {ls : List (List KV)}, GoodT ls → RiseB (firsts ls)
  | [], _ => List.Pairwise.nil
  | x :: ls, h => by
    have h2 := h.2
    unfold RiseB at h2
    rw [List.flatten_cons, keysOf_append] at h2
    have h3 := (List.pairwise_append.1 h2).2.2
    refine List.pairwise_cons.2 ⟨fun k hk => ?_, GoodT.firsts h.tail⟩
    obtain ⟨l, hl, rfl⟩ := List.mem_map.1 hk
    refine h3 _ (first_mem (h.1 x (List.mem_cons_self))) _ ?_
    have := first_mem (h.1 l (List.mem_cons_of_mem _ hl))
    unfold keysOf at this ⊢
    obtain ⟨p, hp, e⟩ := List.mem_map.1 this
    exact List.mem_map.2 ⟨p, List.mem_flatten.2 ⟨l, hl, hp⟩, e⟩

/-- a leaf in memory (a slice of entries that the tree owns), its block among B's -/
def LeafAt (B : Nat → Prop) (W : World) (s : Value) (l : List KV) : Prop := RowK 184 2 0 W s l.length (ecells l) ∧ ∀ q, s.ownBlock = some q → B q
def LeavesAt (B : Nat → Prop) (W : World) : List Value → List (List KV) → Prop
  | [], [] => True
  | s :: ss, l :: ls => LeafAt B W s l ∧ LeavesAt B W ss ls
  | [], _ :: _ => False
  | _ :: _, [] => False
/-- two values that share no block -/
def Ap (a b : Value) : Prop := ∀ q, a.ownBlock = some q → b.ownBlock ≠ some q
theorem Ap.symm {a b : Value} (h : Ap a b) : Ap b a := fun q hb ha => h q ha hb

theorem LeafAt.keep {B B' : Nat → Prop} {W W' : World} {s : Value} {l : List KV} (h : LeafAt B W s l) (hk : ∀ q, s.ownBlock = some q → B q → q < W.heap.size → W'.heap[q]? = W.heap[q]? ∧ B' q) : LeafAt B' W' s l :=
  ⟨h.1.keep fun q hq => ⟨(hk q hq (h.2 q hq) (h.1.lt q hq).2).1, Nat.zero_le _⟩, fun q hq => (hk q hq (h.2 q hq) (h.1.lt q hq).2).2⟩
theorem LeavesAt.keep {B B' : Nat → Prop} {W W' : World} : ∀ {ss : List Value} {ls : List (List KV)}, LeavesAt B W ss ls → (∀ s ∈ ss, ∀ q, s.ownBlock = some q → B q → q < W.heap.size → W'.heap[q]? = W.heap[q]? ∧ B' q) → LeavesAt B' W' ss ls
  | [], [], _, _ => trivial
  | _ :: _, _ :: _, h, hk => ⟨h.1.keep (hk _ List.mem_cons_self), LeavesAt.keep h.2 fun s hs => hk s (List.mem_cons_of_mem _ hs)⟩
  | [], _ :: _, h, _ => h.elim
  | _ :: _, [], h, _ => h.elim
theorem LeavesAt.len {B : Nat → Prop} {W : World} : ∀ {ss : List Value} {ls : List (List KV)}, LeavesAt B W ss ls → ss.length = ls.length
  | [], [], _ => rfl
  | _ :: _, _ :: _, h => by rw [List.length_cons, List.length_cons, LeavesAt.len h.2]
  | [], _ :: _, h => h.elim
  | _ :: _, [], h => h.elim
theorem LeavesAt.get {B : Nat → Prop} {W : World} : ∀ {ss : List Value} {ls : List (List KV)}, LeavesAt B W ss ls → ∀ i (h : i < ls.length), ∃ s, ss[i]? = some s ∧ LeafAt B W s ls[i]
  | [], [], _, i, h => by simp at h
  | s :: ss, l :: ls, hL, 0, _ => ⟨s, rfl, hL.1⟩
  | s :: ss, l :: ls, hL, i + 1, h => by
    obtain ⟨x, e, hx⟩ := LeavesAt.get hL.2 i (by simpa using h)
    exact ⟨x, by simpa using e, hx⟩
  | [], _ :: _, hL, _, _ => hL.elim
  | _ :: _, [], hL, _, _ => hL.elim
theorem LeavesAt.cut {B : Nat → Prop} {W : World} : ∀ {ss : List Value} {A C : List (List KV)}, LeavesAt B W ss (A ++ C) → ∃ a c, ss = a ++ c ∧ a.length = A.length ∧ LeavesAt B W a A ∧ LeavesAt B W c C
  | ss, [], C, h => ⟨[], ss, rfl, rfl, trivial, h⟩
  | s :: ss, l :: A, C, h => by
    obtain ⟨a, c, e, e2, h1, h2⟩ := LeavesAt.cut (ss := ss) (A := A) (C := C) h.2
    exact ⟨s :: a, c, by rw [e]; rfl, by rw [List.length_cons, List.length_cons, e2], ⟨h.1, h1⟩, h2⟩
  | [], _ :: _, _, h => h.elim
theorem LeavesAt.join {B : Nat → Prop} {W : World} : ∀ {a : List Value} {A : List (List KV)} {c : List Value} {C : List (List KV)}, LeavesAt B W a A → LeavesAt B W c C → LeavesAt B W (a ++ c) (A ++ C)
  | [], [], _, _, _, h => h
  | _ :: _, _ :: _, _, _, h1, h2 => ⟨h1.1, LeavesAt.join h1.2 h2⟩
  | [], _ :: _, _, _, h, _ => h.elim
  | _ :: _, [], _, _, h, _ => h.elim

/-- a tree in memory, whatever its keys: its box, the row of its leaves, and the leaves, no two of which share a block; all blocks among B's -/
def TreeOpen [hd : Inhabited Hd] (B : Nat → Prop) (W : World) (t : Nat) (rv : Value) (ss : List Value) (ls : List (List KV)) (sz : Nat) : Prop :=
  B t ∧ Box W t 105 #[hx0, hx1, rv, .int .i64 sz] ∧ RowK 185 1 0 W rv ls.length ss ∧ (∀ q, rv.ownBlock = some q → B q) ∧ LeavesAt B W ss ls ∧ ss.Pairwise Ap
theorem TreeOpen.keep [hd : Inhabited Hd] {B B' : Nat → Prop} {W W' : World} {t : Nat} {rv : Value} {ss : List Value} {ls : List (List KV)} {sz : Nat} (h : TreeOpen B W t rv ss ls sz) (hk : ∀ q, B q → q < W.heap.size → W'.heap[q]? = W.heap[q]? ∧ B' q) : TreeOpen B' W' t rv ss ls sz := by
  obtain ⟨h1, hb, hr, ho, hl, hd⟩ := h
  exact ⟨(hk t h1 hb.lt).2, (hk t h1 hb.lt).1.trans hb, hr.keep fun q hq => ⟨(hk q (ho q hq) (hr.lt q hq).2).1, Nat.zero_le _⟩, fun q hq => (hk q (ho q hq) (hr.lt q hq).2).2, hl.keep fun s _ q _ hB hlt => hk q hB hlt, hd⟩

/-- a tree in memory -/
def TreeAt [hd : Inhabited Hd] (B : Nat → Prop) (W : World) (t : Nat) (ls : List (List KV)) : Prop :=
  B t ∧ GoodT ls ∧ total ls ≤ 50000 ∧ ∃ rv ss, TreeOpen B W t rv ss ls (total ls)

theorem TreeAt.box [hd : Inhabited Hd] {B : Nat → Prop} {W : World} {t : Nat} {ls : List (List KV)} (h : TreeAt B W t ls) : ∃ la lc, Box W t 105 #[hx0, hx1, .slice la ls.length lc, .int .i64 (total ls)] := by
  obtain ⟨_, _, _, rv, ss, _, hb, hr, _⟩ := h
  obtain ⟨la, lc, rfl, _⟩ := hr.form
  exact ⟨la, lc, hb⟩
theorem TreeAt.lt [hd : Inhabited Hd] {B : Nat → Prop} {W : World} {t : Nat} {ls : List (List KV)} (h : TreeAt B W t ls) : t < W.heap.size := by
  obtain ⟨la, lc, hb⟩ := h.box
  exact hb.lt

/-- what keeps a tree: its blocks -/
theorem TreeAt.keep [hd : Inhabited Hd] {B B' : Nat → Prop} {W W' : World} {t : Nat} {ls : List (List KV)} (h : TreeAt B W t ls) (hk : ∀ q, B q → q < W.heap.size → W'.heap[q]? = W.heap[q]? ∧ B' q) : TreeAt B' W' t ls := by
  obtain ⟨h1, h2, h3, rv, ss, ho⟩ := h
  exact ⟨(hk t h1 ho.2.1.lt).2, h2, h3, rv, ss, ho.keep hk⟩
theorem TreeAt.below [hd : Inhabited Hd] {B : Nat → Prop} {W W' : World} {t : Nat} {ls : List (List KV)} (h : TreeAt B W t ls) (hb : Below W.heap.size W W') : TreeAt B W' t ls := h.keep fun q hq hlt => ⟨hb.block q hlt, hq⟩

theorem len_any [hd : Inhabited Hd] {B : Nat → Prop} {W : World} {t : Nat} {ls : List (List KV)} (h : TreeAt B W t ls) :
    Calls Try.prog 104 #[.pointer (some ⟨t, 2, none⟩)] W fun e w' => e = .returned (.int .i64 (total ls)) ∧ W = w' := by
  obtain ⟨la, lc, hb⟩ := h.box
  have h1 := hb.cell 3
  have hlt := hb.lt
  simp only [List.getElem?_toArray, List.getElem?_cons_succ, List.getElem?_cons_zero] at h1
  clear hb
  go_enter Try.func104, Try.ntmps104
  go_wp2
  go_ret
  exact ⟨rfl, rfl⟩

theorem len_nil (W : World) : Calls Try.prog 104 #[.pointer none] W fun e w' => e = .returned (.int .i64 0) ∧ W = w' := by
  go_enter Try.func104, Try.ntmps104
  go_wp2
  go_ret
  exact ⟨rfl, rfl⟩

/-- the leaf of a key, where it is there, and whether -/
def leafOf (ls : List (List KV)) (key : ByteArray) : Nat := if isB (firsts ls) key then atB (firsts ls) key else atB (firsts ls) key - 1
def placeT (ls : List (List KV)) (key : ByteArray) : Nat × Nat × Bool :=
  if ls = [] then (0, 0, false) else (leafOf ls key, atB (keysOf (ls.getD (leafOf ls key) [])) key, isB (keysOf (ls.getD (leafOf ls key) [])) key)

theorem total_zero {ls : List (List KV)} (h : GoodT ls) : total ls = 0 ↔ ls = [] := by
  constructor
  · intro h0
    cases ls with
    | nil => rfl
    | cons l r =>
      unfold total at h0
      rw [List.flatten_cons, List.length_append] at h0
      have := h.1 l List.mem_cons_self
      cases l with
      | nil => exact absurd rfl this
      | cons p q => simp at h0
  · intro h0
    rw [h0]
    rfl

theorem leafOf_lt {ls : List (List KV)} (hr : GoodT ls) (hne : ls ≠ []) (key : ByteArray) : leafOf ls key < ls.length := by
  have h1 := atB_le (firsts ls) key
  have h2 : (firsts ls).length = ls.length := by unfold firsts; simp
  have h3 : 0 < ls.length := List.length_pos_iff.2 hne
  unfold leafOf
  split
  · rename_i h
    rw [isB_at hr.firsts] at h
    split at h
    · omega
    · cases h
  · omega

theorem ls_le {ls : List (List KV)} (h : ∀ l ∈ ls, l ≠ []) : ls.length ≤ total ls := by
  unfold total
  induction ls with
  | nil => exact Nat.zero_le _
  | cons l r ih =>
    have := ih (fun x hx => h x (List.mem_cons_of_mem _ hx))
    have h1 := h l List.mem_cons_self
    have : 0 < l.length := List.length_pos_iff.2 h1
    rw [List.flatten_cons, List.length_append, List.length_cons]
    omega
theorem leaf_le {ls : List (List KV)} {l : List KV} (h : l ∈ ls) : l.length ≤ total ls := by
  unfold total
  induction ls with
  | nil => cases h
  | cons x r ih =>
    rw [List.flatten_cons, List.length_append]
    rcases List.mem_cons.1 h with rfl | h
    · omega
    · have := ih h
      omega

/-- what is read of a tree -/
theorem TreeAt.reads [hd : Inhabited Hd] {B : Nat → Prop} {W : World} {t : Nat} {ls : List (List KV)} (h : TreeAt B W t ls) (hne : ls ≠ []) :
    ∃ rg lc, Box W t 105 #[hx0, hx1, .slice (some ⟨rg, 0, none⟩) ls.length lc, .int .i64 (total ls)] ∧ rg < W.heap.size ∧ ls.length ≤ lc ∧ lc ≤ maxLen ∧ ∀ i (h : i < ls.length), ∃ g c, W.cell? ⟨rg, i, none⟩ = some (.slice (some ⟨g, 0, none⟩) (ls[i]).length c) ∧ g < W.heap.size ∧ ((ls[i]).length ≤ c ∧ c ≤ maxLen) ∧
      ∀ j (hj : j < (ls[i]).length), W.cell? ⟨g, j * 2, none⟩ = some (.string ((ls[i])[j]).1) ∧ W.cell? ⟨g, j * 2 + 1, none⟩ = some ((ls[i])[j]).2 := by
  obtain ⟨_, hg, _, rv, ss, _, hb, hr, _, hl, _⟩ := h
  obtain ⟨la, lc, rfl, hc1, hc2⟩ := hr.form
  obtain ⟨rg, rfl, hB, hlt, hcells⟩ := hr.at_ (List.length_pos_iff.2 hne)
  refine ⟨rg, lc, hb, hlt, hc1, hc2, fun i hi => ?_⟩
  obtain ⟨s, e, hrow, _⟩ := hl.get i hi
  obtain ⟨a, c, rfl, hc3, hc4⟩ := hrow.form
  obtain ⟨g, rfl, hB2, hlt2, hcells2⟩ := hrow.at_ (List.length_pos_iff.2 (hg.1 _ (List.getElem_mem hi)))
  exact ⟨g, c, hcells _ _ e, hlt2, ⟨hc3, hc4⟩, fun j hj => ⟨hcells2 _ _ (ecells_at _ j hj).1, hcells2 _ _ (ecells_at _ j hj).2⟩⟩

theorem firstOf_get : ∀ {l : List KV} (h : 0 < l.length), firstOf l = (l[0]).1
  | [], h => by simp at h
  | _ :: _, _ => rfl

theorem firsts_at {ls : List (List KV)} (hg : GoodT ls) (i : Nat) (h : i < ls.length) (h2 : i < (firsts ls).length) : ∃ hj : 0 < (ls[i]).length, (firsts ls)[i] = ((ls[i])[0]).1 := by
  have hne := hg.1 _ (List.getElem_mem h)
  refine ⟨List.length_pos_iff.2 hne, ?_⟩
  simp only [firsts, List.getElem_map]
  exact firstOf_get _

/-- which leaf -/
theorem rows_any [hd : Inhabited Hd] {B : Nat → Prop} {W : World} {t : Nat} {ls : List (List KV)} (h : TreeAt B W t ls) (key : ByteArray) {rg lc : Nat} (hrg : rg < W.heap.size) (hel : ∀ i (h : i < ls.length), ∃ g c, W.cell? ⟨rg, i, none⟩ = some (.slice (some ⟨g, 0, none⟩) (ls[i]).length c) ∧ g < W.heap.size ∧ ((ls[i]).length ≤ c ∧ c ≤ maxLen) ∧
      ∀ j (hj : j < (ls[i]).length), W.cell? ⟨g, j * 2, none⟩ = some (.string ((ls[i])[j]).1) ∧ W.cell? ⟨g, j * 2 + 1, none⟩ = some ((ls[i])[j]).2) :
    Calls Try.prog 137 #[.slice (some ⟨rg, 0, none⟩) ls.length lc, .string key, .func (.func 138) #[] #[]] W fun e w' => e = .returned (.tuple #[.int .i64 (atB (firsts ls) key : Nat), .bool (isB (firsts ls) key)]) ∧ Below W.heap.size W w' := by
  have hfl : (firsts ls).length = ls.length := by unfold firsts; simp
  have h1 := ls_le h.2.1.1
  have h2 := h.2.2.1
  have hs := searchR_any rg lc (firsts ls) key W hrg (by omega) h.2.1.firsts (fun i hi => by
    obtain ⟨g, c, e, hlt, _, hc⟩ := hel i (by omega)
    obtain ⟨hj, e2⟩ := firsts_at h.2.1 i (by omega) hi
    exact ⟨g, _, c, e, hj, by rw [e2]; have := (hc 0 hj).1; rwa [Nat.zero_mul] at this, hlt⟩)
  rw [hfl] at hs
  exact hs

/-- where in the leaf -/
theorem leaf_any [hd : Inhabited Hd] {B : Nat → Prop} {W : World} {t : Nat} {ls : List (List KV)} (h : TreeAt B W t ls) (key : ByteArray) {i g c : Nat} (hi : i < ls.length) (hg : g < W.heap.size) (hc : ∀ j (hj : j < (ls[i]).length), W.cell? ⟨g, j * 2, none⟩ = some (.string ((ls[i])[j]).1) ∧ W.cell? ⟨g, j * 2 + 1, none⟩ = some ((ls[i])[j]).2) :
    Calls Try.prog 139 #[.slice (some ⟨g, 0, none⟩) (ls[i]).length c, .string key, .func (.func 140) #[] #[]] W fun e w' => e = .returned (.tuple #[.int .i64 (atB (keysOf ls[i]) key : Nat), .bool (isB (keysOf ls[i]) key)]) ∧ Below W.heap.size W w' := by
  have hfl : (keysOf ls[i]).length = (ls[i]).length := by unfold keysOf; simp
  have h1 := leaf_le (List.getElem_mem hi)
  have h2 := h.2.2.1
  have hs := search_any g c (keysOf ls[i]) key W hg (by omega) (h.2.1.leaf _ (List.getElem_mem hi)) (fun j hj => by
    obtain ⟨e1, e2⟩ := hc j (by omega)
    refine ⟨_, ?_, e2⟩
    rw [e1]
    simp only [keysOf, List.getElem_map])
  rw [hfl] at hs
  exact hs

set_option maxHeartbeats 4000000 in
set_option maxRecDepth 100000 in
theorem place_any [hd : Inhabited Hd] {B : Nat → Prop} {W : World} {t : Nat} {ls : List (List KV)} (h : TreeAt B W t ls) (key : ByteArray) :
    Calls Try.prog 105 #[.pointer (some ⟨t, 2, none⟩), .string key] W fun e w' => e = .returned (.tuple #[.int .i64 ((placeT ls key).1 : Nat), .int .i64 ((placeT ls key).2.1 : Nat), .bool (placeT ls key).2.2]) ∧ Below W.heap.size W w' := by
  have hlen := len_any h
  by_cases h0 : ls = []
  · subst h0
    have hz : (total ([] : List (List KV)) : Int) = 0 := rfl
    rw [hz] at hlen
    clear hz h
    go_enter Try.func105, Try.ntmps105
    go_wp2_with fail
    refine hlen.mono ?_
    rintro e w1 ⟨rfl, rfl⟩
    go_wp2
    refine bodyPost_ret (v := .tuple #[.int .i64 0, .int .i64 0, .bool false]) (by simp [results, Try.results105, go_sem]) rfl ⟨rfl, Below.refl _ _⟩
  · have hz : ¬ (total ls : Int) = 0 := by
      intro e
      exact h0 ((total_zero h.2.1).1 (by omega))
    obtain ⟨rg, lc, hbx, hrg, hn1, hn2, hel⟩ := h.reads h0
    have hrows := rows_any h key hrg (lc := lc) hel
    have hlt := leafOf_lt h.2.1 h0 key
    have hlf : leafOf ls key = if isB (firsts ls) key then atB (firsts ls) key else atB (firsts ls) key - 1 := rfl
    obtain ⟨l, hl⟩ : ∃ l, ls[leafOf ls key]? = some l := ⟨_, List.getElem?_eq_getElem hlt⟩
    have hpl : placeT ls key = (leafOf ls key, atB (keysOf l) key, isB (keysOf l) key) := by
      unfold placeT
      rw [if_neg h0, List.getD_eq_getElem?_getD, hl]
      rfl
    obtain ⟨i, hi⟩ : ∃ i, i = leafOf ls key := ⟨_, rfl⟩
    obtain ⟨A, hA⟩ : ∃ A, A = atB (firsts ls) key := ⟨_, rfl⟩
    obtain ⟨D, hD⟩ : ∃ D, D = isB (firsts ls) key := ⟨_, rfl⟩
    rw [← hA, ← hD] at hrows hlf
    rw [← hi] at hlt hpl hlf hl
    have hAB : A ≤ 50000 := by
      have h1 := atB_le (firsts ls) key
      have h2 : (firsts ls).length = ls.length := by unfold firsts; simp
      have h3 := ls_le h.2.1.1
      have h4 := h.2.2.1
      omega
    have HAB := Lib.hid hAB
    have hc0 := hbx.cell 2
    simp only [List.getElem?_toArray, List.getElem?_cons_zero, List.getElem?_cons_succ] at hc0
    have hbl := hbx.lt
    have HT := Lib.hid h
    have HROWS := Lib.hid hrows
    have HX := Lib.hid (And.intro hbx (And.intro hrg (And.intro hel (And.intro hpl (And.intro hlf (And.intro hlt hl))))))
    have hlnI : (i : Int) < (ls.length : Int) := by omega
    clear hbx hrows hel hpl hlf h hi hA hD hlt h0 hl hAB
    go_enter Try.func105, Try.ntmps105
    go_wp2_with fail
    refine hlen.mono ?_
    rintro e w1 ⟨rfl, rfl⟩
    go_wp2_with fail
    refine HROWS.out.mono ?_
    rintro e w2 ⟨rfl, hb2⟩
    obtain ⟨hbx, hrg2, hel, hpl, hlf, hlt, hl⟩ := HX.out
    obtain ⟨g, c, hcell, hg, hcc, hcs⟩ := hel i hlt
    have hc0' : w2.cell? ⟨t, 2, none⟩ = some (.slice (some ⟨rg, 0, none⟩) ls.length lc) := (hb2.cell (p := ⟨t, 2, none⟩) hbl).trans hc0
    have hcell' : w2.cell? ⟨rg, i, none⟩ = some (.slice (some ⟨g, 0, none⟩) (ls[i]).length c) := (hb2.cell (p := ⟨rg, i, none⟩) hrg2).trans hcell
    have hleaf := leaf_any (HT.out.below hb2) key (c := c) hlt (Nat.lt_of_lt_of_le hg hb2.size) (fun j hj => ⟨(hb2.cell (p := ⟨g, j * 2, none⟩) hg).trans (hcs j hj).1, (hb2.cell (p := ⟨g, j * 2 + 1, none⟩) hg).trans (hcs j hj).2⟩)
    have hl2 : ls[i] = l := by have h9 := List.getElem?_eq_getElem hlt; rw [hl] at h9; exact (Option.some.inj h9).symm
    rw [hl2] at hcell' hleaf
    have HLEAF := Lib.hid hleaf
    have HB2 := Lib.hid hb2
    have HPL := Lib.hid hpl
    have hln : i < ls.length := hlt
    have hbl2 : t < w2.heap.size := Nat.lt_of_lt_of_le hbl hb2.size
    have hrgl : rg < w2.heap.size := Nat.lt_of_lt_of_le hrg2 hb2.size
    cases D with
    | true =>
      have hiA : i = A := by simpa using hlf
      subst hiA
      clear hbx hel hlf hlt hcell hg hcc hcs hleaf hl hl2 hb2 hpl hc0 hbl hrg hrg2 hlen HROWS HX HT
      go_wp2_with fail
      refine HLEAF.out.mono ?_
      rintro e w3 ⟨rfl, hb3⟩
      have HF := Lib.hid (HB2.out.trans (hb3.mono HB2.out.size))
      clear hb3 HLEAF
      go_wp2
      exact bodyPost_ret (v := .tuple #[.int .i64 i, .int .i64 (atB (keysOf l) key : Nat), .bool (isB (keysOf l) key)]) (by simp [results, Try.results105, go_sem]) rfl ⟨by rw [HPL.out], HF.out⟩
    | false =>
      have hw : wrap64 ((A : Int) - 1) = (A : Int) - 1 := by have := HAB.out; unfold wrap64; omega
      have hiA : max ((A : Int) - 1) 0 = (i : Int) := by have : i = A - 1 := by simpa using hlf
                                                         omega
      clear hbx hel hlf hlt hcell hg hcc hcs hleaf hl hl2 hb2 hpl hc0 hbl hrg hrg2 hlen HROWS HX HT
      go_wp2_with fail
      refine HLEAF.out.mono ?_
      rintro e w3 ⟨rfl, hb3⟩
      have HF := Lib.hid (HB2.out.trans (hb3.mono HB2.out.size))
      clear hb3 HLEAF
      go_wp2
      exact bodyPost_ret (v := .tuple #[.int .i64 i, .int .i64 (atB (keysOf l) key : Nat), .bool (isB (keysOf l) key)]) (by simp [results, Try.results105, go_sem]) rfl ⟨by rw [HPL.out], HF.out⟩

end Go.Proofs.Ytcebnoapgceodaa.tC
end

section
namespace Go.Proofs.Ytcebnoapgceodaa.tC
open Go.RowKit

theorem GoodT.right : ∀ {A B : List (List KV)}, GoodT (A ++ B) → GoodT B
  | [], _, h => h
  | _ :: A, _, h => GoodT.right (A := A) h.tail

theorem first_least {l : List KV} {C : List (List KV)} (h : GoodT (l :: C)) : ∀ p ∈ (l :: C).flatten, firstOf l = p.1 ∨ Lt (firstOf l) p.1 := by
  intro p hp
  have hne := h.1 l List.mem_cons_self
  cases l with
  | nil => exact absurd rfl hne
  | cons x r =>
    have h2 := h.2
    unfold RiseB keysOf at h2
    rw [List.flatten_cons, List.cons_append, List.map_cons] at h2
    rw [List.flatten_cons, List.cons_append] at hp
    rcases List.mem_cons.1 hp with rfl | hp
    · exact .inl rfl
    · exact .inr ((List.pairwise_cons.1 h2).1 _ (List.mem_map.2 ⟨p, hp, rfl⟩))

theorem first_below {l : List KV} {C : List (List KV)} (h : GoodT (l :: C)) : ∀ p ∈ C.flatten, Lt (firstOf l) p.1 := by
  intro p hp
  have h2 := h.2
  unfold RiseB at h2
  rw [List.flatten_cons, keysOf_append] at h2
  exact (List.pairwise_append.1 h2).2.2 _ (first_mem (h.1 l List.mem_cons_self)) _ (List.mem_map.2 ⟨p, hp, rfl⟩)

theorem first_above {A : List (List KV)} {l : List KV} {C : List (List KV)} (h : GoodT (A ++ l :: C)) : ∀ p ∈ A.flatten, Lt p.1 (firstOf l) := by
  intro p hp
  have h2 := h.2
  unfold RiseB at h2
  rw [List.flatten_append, keysOf_append] at h2
  refine (List.pairwise_append.1 h2).2.2 _ (List.mem_map.2 ⟨p, hp, rfl⟩) _ ?_
  rw [List.flatten_cons, keysOf_append]
  exact List.mem_append_left _ (first_mem (h.1 l (by simp)))

theorem place_spec {ls : List (List KV)} (hg : GoodT ls) (hne : ls ≠ []) (key : ByteArray) :
    ∃ A l C, ls = A ++ l :: C ∧ placeT ls key = (A.length, atB (keysOf l) key, isB (keysOf l) key) ∧ (∀ p ∈ A.flatten, Lt p.1 key) ∧ (∀ p ∈ C.flatten, Lt key p.1) := by
  have hlt := leafOf_lt hg hne key
  have hfl : (firsts ls).length = ls.length := by unfold firsts; simp
  have hfi : ∀ m (h : m < ls.length) (h2 : m < (firsts ls).length), (firsts ls)[m] = firstOf ls[m] := fun m h h2 => by simp [firsts]
  have hle := atB_le (firsts ls) key
  have hdef : leafOf ls key = if isB (firsts ls) key then atB (firsts ls) key else atB (firsts ls) key - 1 := rfl
  have hpl : placeT ls key = (leafOf ls key, atB (keysOf (ls[leafOf ls key])) key, isB (keysOf (ls[leafOf ls key])) key) := by
    unfold placeT
    rw [if_neg hne, List.getD_eq_getElem?_getD, List.getElem?_eq_getElem hlt]
    rfl
  obtain ⟨i, hi⟩ : ∃ i, i = leafOf ls key := ⟨_, rfl⟩
  simp only [← hi] at hlt hpl hdef
  have hls : ls = ls.take i ++ ls[i] :: ls.drop (i + 1) := by rw [← List.drop_eq_getElem_cons hlt, List.take_append_drop]
  have hg2 : GoodT (ls.take i ++ ls[i] :: ls.drop (i + 1)) := by rw [← hls]; exact hg
  have hal : (ls.take i).length = i := by rw [List.length_take]; omega
  refine ⟨ls.take i, ls[i], ls.drop (i + 1), hls, by rw [hal]; exact hpl, ?_, ?_⟩
  · intro p hp
    have h1 := first_above hg2 p hp
    by_cases hb : isB (firsts ls) key = true
    · rw [if_pos hb] at hdef
      have hx := isB_at (k := key) hg.firsts
      rw [hb] at hx
      split at hx
      · rename_i h
        have h2 : ∀ m (hm : m < (firsts ls).length), m = i → (firsts ls)[m] = firstOf ls[i] := fun m hm e => by subst e; exact hfi _ _ _
        have h3 := of_decide_eq_true hx.symm
        rw [h2 _ h hdef.symm] at h3
        rw [← h3]
        exact h1
      · cases hx
    · rw [if_neg hb] at hdef
      by_cases h0 : atB (firsts ls) key = 0
      · have : i = 0 := by omega
        subst this
        simp at hp
      · have h2 := (atB_lt (k := key) hg.firsts i (by omega)).2 (by omega)
        rw [hfi i hlt] at h2
        exact h1.trans h2
  · intro p hp
    have hgr := hg2.right
    by_cases hb : isB (firsts ls) key = true
    · have h1 := first_below hgr p hp
      rw [if_pos hb] at hdef
      have hx := isB_at (k := key) hg.firsts
      rw [hb] at hx
      split at hx
      · rename_i h
        have h2 : ∀ m (hm : m < (firsts ls).length), m = i → (firsts ls)[m] = firstOf ls[i] := fun m hm e => by subst e; exact hfi _ _ _
        have h3 := of_decide_eq_true hx.symm
        rw [h2 _ h hdef.symm] at h3
        rw [← h3]
        exact h1
      · cases hx
    · rw [if_neg hb] at hdef
      have hno : ∀ m (hm : m < ls.length), ¬ m < atB (firsts ls) key → Lt key (firstOf ls[m]) := fun m hm h => by
        have h2 := hfi m hm (by omega)
        rcases key_tri key (firstOf ls[m]) with k | k | k
        · exact k
        · exfalso
          refine hb (isB_iff.2 ?_)
          rw [k, ← h2]
          exact List.getElem_mem _
        · exfalso
          rw [← h2] at k
          exact h ((atB_lt (k := key) hg.firsts m (by omega)).1 k)
      by_cases h0 : atB (firsts ls) key = 0
      · exact (hno i hlt (by omega)).trans (first_below hgr p hp)
      · have hne2 : i + 1 < ls.length := by
          rcases Nat.lt_or_ge (i + 1) ls.length with h | h
          · exact h
          · rw [List.drop_of_length_le h] at hp
            simp at hp
        have hd := List.drop_eq_getElem_cons hne2
        rw [hd] at hp hgr
        have h4 := hno (i + 1) hne2 (by omega)
        rcases first_least hgr.tail p hp with e | e
        · rw [← e]; exact h4
        · exact h4.trans e

theorem leaf_split {l : List KV} (hr : RiseB (keysOf l)) (key : ByteArray) :
    atB (keysOf l) key ≤ l.length ∧ (∀ p ∈ l.take (atB (keysOf l) key), Lt p.1 key) ∧
    (isB (keysOf l) key = true → ∃ (h : atB (keysOf l) key < l.length), (l[atB (keysOf l) key]).1 = key ∧ ∀ p ∈ l.drop (atB (keysOf l) key + 1), Lt key p.1) ∧
    (isB (keysOf l) key = false → ∀ p ∈ l.drop (atB (keysOf l) key), Lt key p.1) := by
  have hkl : (keysOf l).length = l.length := by unfold keysOf; simp
  have hk : ∀ m (h : m < l.length) (h2 : m < (keysOf l).length), (keysOf l)[m] = (l[m]).1 := fun m h h2 => by simp [keysOf]
  have hle := atB_le (keysOf l) key
  refine ⟨by omega, fun p hp => ?_, fun hb => ?_, fun hb p hp => ?_⟩
  · obtain ⟨m, hm, rfl⟩ := List.getElem_of_mem hp
    rw [List.length_take] at hm
    rw [List.getElem_take, ← hk m (by omega) (by omega)]
    exact (atB_lt hr m (by omega)).2 (by omega)
  · have hx := isB_at (k := key) hr
    rw [hb] at hx
    split at hx
    · rename_i h
      have h3 := of_decide_eq_true hx.symm
      have h4 := h3
      rw [hk _ (by omega)] at h3
      refine ⟨by omega, h3, fun p hp => ?_⟩
      obtain ⟨m, hm, rfl⟩ := List.getElem_of_mem hp
      rw [List.length_drop] at hm
      rw [List.getElem_drop, ← hk _ (by omega) (by omega)]
      have := List.pairwise_iff_getElem.1 hr (atB (keysOf l) key) (atB (keysOf l) key + 1 + m) h (by omega) (by omega)
      rw [h4] at this
      exact this
    · cases hx
  · obtain ⟨m, hm, rfl⟩ := List.getElem_of_mem hp
    rw [List.length_drop] at hm
    rw [List.getElem_drop]
    have h2 := hk (atB (keysOf l) key + m) (by omega) (by omega)
    rcases key_tri key (l[atB (keysOf l) key + m]).1 with k | k | k
    · exact k
    · exfalso
      have : isB (keysOf l) key = true := isB_iff.2 (by rw [k, ← h2]; exact List.getElem_mem _)
      rw [hb] at this
      cases this
    · exfalso
      rw [← h2] at k
      have := (atB_lt (k := key) hr _ (by omega)).1 k
      omega

/-! the operations on all keys as one list -/
def getK (m : List KV) (key : ByteArray) : Option Value := (m.find? fun p => decide (p.1 = key)).map Prod.snd
def putK (m : List KV) (key : ByteArray) (v : Value) : List KV := m.filter (fun p => decide (Lt p.1 key)) ++ (key, v) :: m.filter (fun p => decide (Lt key p.1))
def dropK (m : List KV) (key : ByteArray) : List KV := m.filter fun p => decide (p.1 ≠ key)

theorem lt_ne {a b : ByteArray} (h : Lt a b) : a ≠ b := fun e => Lt.irrefl a (by rw [← e] at h; exact h)

/-- all keys, cut at one that is there -/
theorem ops_is {X Y : List KV} {key : ByteArray} {v : Value} (hX : ∀ p ∈ X, Lt p.1 key) (hY : ∀ p ∈ Y, Lt key p.1) :
    getK (X ++ (key, v) :: Y) key = some v ∧ (∀ u, putK (X ++ (key, v) :: Y) key u = X ++ (key, u) :: Y) ∧ dropK (X ++ (key, v) :: Y) key = X ++ Y := by
  refine ⟨?_, fun u => ?_, ?_⟩
  · unfold getK
    rw [List.find?_append, List.find?_eq_none.2 (fun p hp => by simp [lt_ne (hX p hp)])]
    simp
  · unfold putK
    rw [List.filter_append, List.filter_append, List.filter_cons_of_neg (by simp [Lt.irrefl]), List.filter_cons_of_neg (by simp [Lt.irrefl]),
      List.filter_eq_self.2 (fun p hp => decide_eq_true (hX p hp)), List.filter_eq_nil_iff.2 (fun p hp => by simp [not_lt_of (hY p hp)]),
      List.filter_eq_nil_iff.2 (fun p hp => by simp [not_lt_of (hX p hp)]), List.filter_eq_self.2 (fun p hp => decide_eq_true (hY p hp))]
    simp
  · unfold dropK
    rw [List.filter_append, List.filter_cons_of_neg (by simp), List.filter_eq_self.2 (fun p hp => decide_eq_true (lt_ne (hX p hp))), List.filter_eq_self.2 (fun p hp => decide_eq_true (Ne.symm (lt_ne (hY p hp))))]

/-- all keys, cut where one would come to be -/
theorem ops_no {X Y : List KV} {key : ByteArray} (hX : ∀ p ∈ X, Lt p.1 key) (hY : ∀ p ∈ Y, Lt key p.1) :
    getK (X ++ Y) key = none ∧ (∀ u, putK (X ++ Y) key u = X ++ (key, u) :: Y) ∧ dropK (X ++ Y) key = X ++ Y := by
  refine ⟨?_, fun u => ?_, ?_⟩
  · unfold getK
    rw [List.find?_eq_none.2 (fun p hp => ?_)]
    · rfl
    · rcases List.mem_append.1 hp with hp | hp
      · simp [lt_ne (hX p hp)]
      · simp [Ne.symm (lt_ne (hY p hp))]
  · unfold putK
    rw [List.filter_append, List.filter_append,
      List.filter_eq_self.2 (fun p hp => decide_eq_true (hX p hp)), List.filter_eq_nil_iff.2 (fun p hp => by simp [not_lt_of (hY p hp)]),
      List.filter_eq_nil_iff.2 (fun p hp => by simp [not_lt_of (hX p hp)]), List.filter_eq_self.2 (fun p hp => decide_eq_true (hY p hp))]
    simp
  · unfold dropK
    rw [List.filter_append, List.filter_eq_self.2 (fun p hp => decide_eq_true (lt_ne (hX p hp))), List.filter_eq_self.2 (fun p hp => decide_eq_true (Ne.symm (lt_ne (hY p hp))))]

end Go.Proofs.Ytcebnoapgceodaa.tC
end

section
namespace Go.Proofs.Ytcebnoapgceodaa.tC
open Go.RowKit

def GetP (W : World) (o : Option Value) (e : Ending) (w' : World) : Prop := e = .returned (.tuple #[o.getD (.slice none 0 0), .bool o.isSome]) ∧ Below W.heap.size W w'

set_option maxHeartbeats 1000000 in
set_option maxRecDepth 100000 in
theorem get_no [hd : Inhabited Hd] {B : Nat → Prop} {W : World} {t : Nat} {ls : List (List KV)} (h : TreeAt B W t ls) (key : ByteArray) (hb : (placeT ls key).2.2 = false) :
    Calls Try.prog 56 #[.pointer (some ⟨t, 2, none⟩), .string key] W (GetP W none) := by
  have hp := place_any h key
  rw [hb] at hp
  obtain ⟨i, hi⟩ : ∃ i, i = (placeT ls key).1 := ⟨_, rfl⟩
  obtain ⟨j, hj⟩ : ∃ j, j = (placeT ls key).2.1 := ⟨_, rfl⟩
  rw [← hi, ← hj] at hp
  clear hi hj h hb
  go_enter Try.func56, Try.ntmps56
  go_wp2_with fail
  refine hp.mono ?_
  rintro e w1 ⟨rfl, hb1⟩
  have HB := Lib.hid hb1
  clear hb1 hp
  go_wp2
  exact bodyPost_ret (v := .tuple #[.slice none 0 0, .bool false]) (by simp [results, Try.results56, go_sem]) rfl ⟨rfl, HB.out⟩

set_option maxHeartbeats 1000000 in
set_option maxRecDepth 100000 in
theorem get_is [hd : Inhabited Hd] {B : Nat → Prop} {W : World} {t : Nat} {ls : List (List KV)} (h : TreeAt B W t ls) (key : ByteArray) (i j : Nat) (hi : i < ls.length) (hj : j < (ls[i]).length) (hp3 : placeT ls key = (i, j, true)) :
    Calls Try.prog 56 #[.pointer (some ⟨t, 2, none⟩), .string key] W (GetP W (some ((ls[i])[j]).2)) := by
  have hp := place_any h key
  rw [hp3] at hp
  dsimp only at hp
  have hne : ls ≠ [] := fun e => by rw [e] at hi; simp at hi
  obtain ⟨rg, lc, hbx, hrg, hn1, hn2, hel⟩ := h.reads hne
  obtain ⟨g, c, hcell, hg, hcc, hcs⟩ := hel i hi
  have hc0 := hbx.cell 2
  simp only [List.getElem?_toArray, List.getElem?_cons_zero, List.getElem?_cons_succ] at hc0
  have hbl := hbx.lt
  have hcv := (hcs j hj).2
  obtain ⟨u, hu⟩ : ∃ u, u = ((ls[i])[j]).2 := ⟨_, rfl⟩
  rw [← hu] at hcv ⊢
  obtain ⟨m, hm⟩ : ∃ m, m = (ls[i]).length := ⟨_, rfl⟩
  rw [← hm] at hcell hcc hj
  have hjc : j < c := by omega
  have hic : i < lc := by omega
  have HX := Lib.hid (And.intro hc0 (And.intro hcell hcv))
  clear hu hm hel hcs hcv hcell hc0 hbx h hp3 hne
  go_enter Try.func56, Try.ntmps56
  go_wp2_with fail
  refine hp.mono ?_
  rintro e w1 ⟨rfl, hb1⟩
  have hc0' : w1.cell? ⟨t, 2, none⟩ = some (.slice (some ⟨rg, 0, none⟩) ls.length lc) := (hb1.cell (p := ⟨t, 2, none⟩) hbl).trans HX.out.1
  have hc1' : w1.cell? ⟨rg, i, none⟩ = some (.slice (some ⟨g, 0, none⟩) m c) := (hb1.cell (p := ⟨rg, i, none⟩) hrg).trans HX.out.2.1
  have hc2' : w1.cell? ⟨g, j * 2 + 1, none⟩ = some u := (hb1.cell (p := ⟨g, j * 2 + 1, none⟩) hg).trans HX.out.2.2
  have HB := Lib.hid hb1
  clear hb1 hp HX
  go_wp2
  exact bodyPost_ret (v := .tuple #[u, .bool true]) (by simp [results, Try.results56, go_sem]) rfl ⟨rfl, HB.out⟩

/-- all keys, cut at a place -/
theorem cut_spec {ls : List (List KV)} (hg : GoodT ls) (hne : ls ≠ []) (key : ByteArray) :
    ∃ A l C, ls = A ++ l :: C ∧ placeT ls key = (A.length, atB (keysOf l) key, isB (keysOf l) key) ∧ atB (keysOf l) key ≤ l.length ∧
      (∀ p ∈ A.flatten ++ l.take (atB (keysOf l) key), Lt p.1 key) ∧
      (isB (keysOf l) key = true → ∃ (h : atB (keysOf l) key < l.length), (l[atB (keysOf l) key]).1 = key ∧ ∀ p ∈ l.drop (atB (keysOf l) key + 1) ++ C.flatten, Lt key p.1) ∧
      (isB (keysOf l) key = false → ∀ p ∈ l.drop (atB (keysOf l) key) ++ C.flatten, Lt key p.1) := by
  obtain ⟨A, l, C, e, hp, hA, hC⟩ := place_spec hg hne key
  obtain ⟨h1, h2, h3, h4⟩ := leaf_split (hg.leaf l (by rw [e]; simp)) key
  refine ⟨A, l, C, e, hp, h1, fun p hp => ?_, fun hb => ?_, fun hb p hp => ?_⟩
  · rcases List.mem_append.1 hp with hp | hp
    · exact hA p hp
    · exact h2 p hp
  · obtain ⟨hj, e2, h5⟩ := h3 hb
    refine ⟨hj, e2, fun p hp => ?_⟩
    rcases List.mem_append.1 hp with hp | hp
    · exact h5 p hp
    · exact hC p hp
  · rcases List.mem_append.1 hp with hp | hp
    · exact h4 hb p hp
    · exact hC p hp

theorem flat_is {A : List (List KV)} {l : List KV} {C : List (List KV)} {j : Nat} (h : j < l.length) : (A ++ l :: C).flatten = (A.flatten ++ l.take j) ++ l[j] :: (l.drop (j + 1) ++ C.flatten) := by
  rw [List.flatten_append, List.flatten_cons, List.append_assoc]
  congr 1
  rw [← List.cons_append, ← List.drop_eq_getElem_cons h, ← List.append_assoc, List.take_append_drop]
theorem flat_no {A : List (List KV)} {l : List KV} {C : List (List KV)} (j : Nat) : (A ++ l :: C).flatten = (A.flatten ++ l.take j) ++ (l.drop j ++ C.flatten) := by
  rw [List.flatten_append, List.flatten_cons, List.append_assoc]
  congr 1
  rw [← List.append_assoc, List.take_append_drop]

theorem get_any [hd : Inhabited Hd] {B : Nat → Prop} {W : World} {t : Nat} {ls : List (List KV)} (h : TreeAt B W t ls) (key : ByteArray) :
    Calls Try.prog 56 #[.pointer (some ⟨t, 2, none⟩), .string key] W (GetP W (getK ls.flatten key)) := by
  by_cases hne : ls = []
  · subst hne
    exact get_no h key rfl
  · obtain ⟨A, l, C, e, hp, h1, h2, h3, h4⟩ := cut_spec h.2.1 hne key
    obtain ⟨j, hj⟩ : ∃ j, j = atB (keysOf l) key := ⟨_, rfl⟩
    rw [← hj] at hp h1 h2 h4
    cases hb : isB (keysOf l) key with
    | true =>
      obtain ⟨hjl, hk, h5⟩ := h3 hb
      simp only [← hj] at hjl hk h5
      rw [hb] at hp
      subst e
      have hget : (A ++ l :: C)[A.length]? = some l := by simp
      have hlt : A.length < (A ++ l :: C).length := by simp
      have hel : (A ++ l :: C)[A.length] = l := by simp
      have hv : getK (A ++ l :: C).flatten key = some ((A ++ l :: C)[A.length][j]'(by rw [hel]; exact hjl)).2 := by
        rw [flat_is hjl]
        have h6 : l[j] = (key, (l[j]).2) := by rw [← hk]
        rw [h6, (ops_is (v := (l[j]).2) h2 h5).1]
        congr 2
        simp only [hel]
      rw [hv]
      exact get_is h key A.length j hlt (by rw [hel]; exact hjl) hp
    | false =>
      have h5 := h4 hb
      have hv : getK ls.flatten key = none := by
        rw [e, flat_no j, (ops_no h2 h5).1]
      rw [hv]
      exact get_no h key (by rw [hp, hb])

end Go.Proofs.Ytcebnoapgceodaa.tC
end

section
namespace Go.Proofs.Ytcebnoapgceodaa.tC
open Go.RowKit

/-- what is no block of B's is as it was -/
def Ext (B : Nat → Prop) (W W' : World) : Prop := W'.os = W.os ∧ W'.tape = W.tape ∧ W'.output = W.output ∧ W.heap.size ≤ W'.heap.size ∧ ∀ q, q < W.heap.size → ¬ B q → W'.heap[q]? = W.heap[q]?
/-- B's blocks, and the new ones -/
def Nu (B : Nat → Prop) (n : Nat) : Nat → Prop := fun q => B q ∨ n ≤ q
theorem Ext.refl (B : Nat → Prop) (W : World) : Ext B W W := ⟨rfl, rfl, rfl, Nat.le_refl _, fun _ _ _ => rfl⟩
theorem Ext.trans {B : Nat → Prop} {W W1 W2 : World} (h : Ext B W W1) (k : Ext (Nu B W.heap.size) W1 W2) : Ext B W W2 := by
  obtain ⟨h1, h2, h3, h4, h5⟩ := h
  obtain ⟨k1, k2, k3, k4, k5⟩ := k
  refine ⟨k1.trans h1, k2.trans h2, k3.trans h3, Nat.le_trans h4 k4, fun q hq hB => (k5 q (Nat.lt_of_lt_of_le hq h4) ?_).trans (h5 q hq hB)⟩
  rintro (h | h)
  · exact hB h
  · omega
theorem Ext.below {B : Nat → Prop} {W W' : World} (h : Below W.heap.size W W') : Ext B W W' := ⟨h.os, h.tape, h.output, h.size, fun q hq _ => h.block q hq⟩

theorem rowk_box {E K B n : Nat} {w : World} {v : Value} {cs : List Value} (h : RowK E K B w v n cs) {g : Nat} (hg : v.ownBlock = some g) : ∃ arr, Box w g E arr := by
  rcases h.1.2 with ⟨rfl, _⟩ | ⟨g', cap, cur, rfl, _, e3, _⟩
  · cases hg
  · have : g' = g := by simpa [Value.ownBlock] using hg
    subst this
    exact ⟨cur, e3⟩
theorem box_ne {w : World} {g g' t t' : Nat} {a a' : Array Value} (h : Box w g t a) (h' : Box w g' t' a') (ht : t ≠ t') : g ≠ g' := by
  rintro rfl
  unfold Box at h h'
  rw [h] at h'
  injection h' with h'
  injection h' with _ h2 _
  exact ht h2
theorem rowk_one {E K B n : Nat} {w : World} {v : Value} {cs : List Value} (h : RowK E K B w v n cs) : v.oneCell' = true := by
  obtain ⟨a, c, rfl, _⟩ := h.form
  rfl

theorem leaf_types {B : Nat → Prop} {W : World} : ∀ {ss : List Value} {ls : List (List KV)}, LeavesAt B W ss ls → ∀ s ∈ ss, ∀ q, s.ownBlock = some q → (∃ arr, Box W q 184 arr) ∧ B q
  | [], [], _, _, hs => by cases hs
  | _ :: _, _ :: _, h, s, hs => by
    rcases List.mem_cons.1 hs with rfl | hs
    · exact fun q hq => ⟨rowk_box h.1.1 hq, h.1.2 q hq⟩
    · exact leaf_types h.2 s hs
  | [], _ :: _, h, _, _ => h.elim
  | _ :: _, [], h, _, _ => h.elim

/-- one leaf turned, and stored in the row -/
theorem TreeOpen.setLeaf [hd : Inhabited Hd] {B : Nat → Prop} {W : World} {t rg lc sz : Nat} {a c : List Value} {s : Value} {A C : List (List KV)} {l : List KV} (h : TreeOpen B W t (.slice (some ⟨rg, 0, none⟩) (A ++ l :: C).length lc) (a ++ s :: c) (A ++ l :: C) sz) (ha : a.length = A.length)
    {w' : World} {s' : Value} {l' : List KV} (hrow : RowK 184 2 0 w' s' l'.length (ecells l')) (hu : Up W s w' s') :
    TreeOpen (Nu B W.heap.size) (w'.setCell ⟨rg, A.length, none⟩ s') t (.slice (some ⟨rg, 0, none⟩) (A ++ l :: C).length lc) (a ++ s' :: c) (A ++ l' :: C) sz ∧ Ext B W (w'.setCell ⟨rg, A.length, none⟩ s') := by
  obtain ⟨h1, hb, hr, ho, hl, hd⟩ := h
  obtain ⟨cur, hbx, hcz, _, hn, hm, hcq⟩ := hr.parts
  obtain ⟨a', c', e, e2, hla, hlc⟩ := hl.cut
  obtain ⟨rfl, rfl⟩ : a' = a ∧ c' = s :: c := by
    have := List.append_inj e (by omega)
    exact ⟨this.1.symm, this.2.symm⟩
  obtain ⟨hs, hlc⟩ := hlc
  have hB : B rg := ho rg rfl
  have hrt : rg ≠ t := box_ne hbx hb (by decide)
  have hty : ∀ x ∈ a' ++ s :: c, ∀ q, x.ownBlock = some q → q ≠ rg ∧ q ≠ t := fun x hx q hq => by
    obtain ⟨⟨arr, hbq⟩, _⟩ := leaf_types hl x hx q hq
    exact ⟨box_ne hbq hbx (by decide), box_ne hbq hb (by decide)⟩
  have hsr : s.ownBlock ≠ some rg := fun e => (hty s (by simp) rg e).1 rfl
  have hblk : ∀ q, q < W.heap.size → s.ownBlock ≠ some q → q ≠ rg → (w'.setCell ⟨rg, A.length, none⟩ s').heap[q]? = W.heap[q]? := fun q hq h2 h3 =>
    (Below.heap_setCell w' ⟨rg, A.length, none⟩ s' q h3).trans (hu.1.block q hq fun e => h2 e.symm)
  have hrl := hbx.lt
  have hbr : Box w' rg 185 cur := (hu.1.block rg hrl fun e => hsr e.symm).trans hbx
  have hd2 := (List.pairwise_middle (fun h => Ap.symm h)).1 hd
  have hd3 := List.pairwise_cons.1 hd2
  have hs' : ∀ q, s'.ownBlock = some q → q ≠ rg ∧ (Nu B W.heap.size q) ∧ (s.ownBlock = some q ∨ W.heap.size ≤ q) := fun q hq => by
    rcases hu.2 with k | k
    · rw [hq] at k
      exact ⟨(hty s (by simp) q k.symm).1, .inl (hs.2 q k.symm), .inl k.symm⟩
    · have := k q hq
      exact ⟨by omega, .inr this, .inr this⟩
  have hlen : (A ++ l :: C).length = A.length + 1 + C.length := by simp; omega
  have hlen2 : (A ++ l' :: C).length = (A ++ l :: C).length := by simp
  refine ⟨⟨.inl h1, ?_, ?_, fun q hq => .inl (ho q hq), ?_, ?_⟩, ?_⟩
  · exact (hblk t hb.lt (fun e => (hty s (by simp) t e).2 rfl) (Ne.symm hrt)).trans hb
  · rw [hlen2]
    refine RowK.mk (hbr.setSame A.length s') (by simpa using hcz) (Nat.zero_le _) hn hm (by have := hr.len; simp at this ⊢; omega) (fun q hq => ?_) (fun u hu2 => ?_)
    · by_cases hqa : q = A.length
      · subst hqa
        rw [Array.getElem?_setIfInBounds_self_of_lt (by omega), List.getElem?_append_right (by omega), e2, Nat.sub_self]
        rfl
      · rw [Array.getElem?_setIfInBounds_ne (Ne.symm hqa), hcq q hq]
        by_cases hqb : q < a'.length
        · rw [List.getElem?_append_left hqb, List.getElem?_append_left hqb]
        · rw [List.getElem?_append_right (by omega), List.getElem?_append_right (by omega)]
          obtain ⟨m, hm⟩ : ∃ m, q - a'.length = m + 1 := ⟨q - a'.length - 1, by omega⟩
          rw [hm]
          rfl
    · rcases List.mem_append.1 hu2 with h | h
      · exact hr.2 u (List.mem_append_left _ h)
      · rcases List.mem_cons.1 h with rfl | h
        · exact rowk_one hrow
        · exact hr.2 u (by simp [h])
  · refine LeavesAt.join (hla.keep fun x hx q hq hB hlt => ⟨hblk q hlt (fun e => (hd3.1 x (List.mem_append_left _ hx)) q e hq) (hty x (by simp [hx]) q hq).1, .inl hB⟩) ⟨⟨?_, fun q hq => (hs' q hq).2.1⟩, hlc.keep fun x hx q hq hB hlt => ⟨hblk q hlt (fun e => (hd3.1 x (List.mem_append_right _ hx)) q e hq) (hty x (by simp [hx]) q hq).1, .inl hB⟩⟩
    exact hrow.keep fun q hq => ⟨Below.heap_setCell w' ⟨rg, A.length, none⟩ s' q (hs' q hq).1, Nat.zero_le _⟩
  · refine (List.pairwise_middle (fun h => Ap.symm h)).2 (List.pairwise_cons.2 ⟨fun x hx q hq hq2 => ?_, hd3.2⟩)
    have hxm : x ∈ a' ++ s :: c := by
      rcases List.mem_append.1 hx with h | h
      · exact List.mem_append_left _ h
      · exact List.mem_append_right _ (List.mem_cons_of_mem _ h)
    rcases (hs' q hq).2.2 with k | k
    · exact hd3.1 x hx q k hq2
    · obtain ⟨⟨arr, hbq⟩, _⟩ := leaf_types hl x hxm q hq2
      have := hbq.lt
      omega
  · have hbel := Below.setCell (B := 0) (Below.refl 0 w') (p := ⟨rg, A.length, none⟩) (Nat.zero_le _) s'
    refine ⟨hbel.os.trans hu.1.os, hbel.tape.trans hu.1.tape, hbel.output.trans hu.1.output, Nat.le_trans hu.1.size hbel.size, fun q hq hnB => hblk q hq (fun e => hnB (hs.2 q e)) (fun e => hnB (by rw [e]; exact hB))⟩

/-- the size -/
theorem TreeOpen.setSize [hd : Inhabited Hd] {B : Nat → Prop} {W : World} {t sz : Nat} {rv : Value} {ss : List Value} {ls : List (List KV)} (h : TreeOpen B W t rv ss ls sz) (sz' : Nat) :
    TreeOpen B (W.setCell ⟨t, 3, none⟩ (.int .i64 sz')) t rv ss ls sz' ∧ Ext B W (W.setCell ⟨t, 3, none⟩ (.int .i64 sz')) := by
  obtain ⟨h1, hb, hr, ho, hl, hd⟩ := h
  have hblk : ∀ q, q ≠ t → (W.setCell ⟨t, 3, none⟩ (.int .i64 sz')).heap[q]? = W.heap[q]? := fun q hq => Below.heap_setCell W ⟨t, 3, none⟩ _ q hq
  have hbel := Below.setCell (B := 0) (Below.refl 0 W) (p := ⟨t, 3, none⟩) (Nat.zero_le _) (.int .i64 sz')
  refine ⟨⟨h1, ?_, hr.keep fun q hq => ⟨hblk q ?_, Nat.zero_le _⟩, ho, hl.keep fun s hs q hq hB _ => ⟨hblk q ?_, hB⟩, hd⟩, hbel.os, hbel.tape, hbel.output, hbel.size, fun q hq hnB => hblk q fun e => hnB (by rw [e]; exact h1)⟩
  · have := hb.setSame 3 (.int .i64 sz')
    simpa using this
  · obtain ⟨arr, hq2⟩ := rowk_box hr hq
    exact box_ne hq2 hb (by decide)
  · obtain ⟨⟨arr, hq2⟩, _⟩ := leaf_types hl s hs q hq
    exact box_ne hq2 hb (by decide)

/-- another row of leaves -/
theorem TreeOpen.setRow [hd : Inhabited Hd] {B : Nat → Prop} {W : World} {t sz : Nat} {rv : Value} {ss : List Value} {ls : List (List KV)} (h : TreeOpen B W t rv ss ls sz)
    {w' : World} {rv' : Value} {ss' : List Value} {ls' : List (List KV)} (hrow : RowK 185 1 0 w' rv' ls'.length ss') (hu : Up W rv w' rv') (hl' : LeavesAt B W ss' ls') (hd' : ss'.Pairwise Ap) :
    TreeOpen (Nu B W.heap.size) (w'.setCell ⟨t, 2, none⟩ rv') t rv' ss' ls' sz ∧ Ext B W (w'.setCell ⟨t, 2, none⟩ rv') := by
  obtain ⟨h1, hb, hr, ho, hl, hd⟩ := h
  have hrt : rv.ownBlock ≠ some t := fun e => by
    obtain ⟨arr, hq2⟩ := rowk_box hr e
    exact box_ne hq2 hb (by decide) rfl
  have hbt : Box w' t 105 #[hx0, hx1, rv, .int .i64 sz] := (hu.1.block t hb.lt fun e => hrt e.symm).trans hb
  have hblk : ∀ q, q < W.heap.size → rv.ownBlock ≠ some q → q ≠ t → (w'.setCell ⟨t, 2, none⟩ rv').heap[q]? = W.heap[q]? := fun q hq h2 h3 =>
    (Below.heap_setCell w' ⟨t, 2, none⟩ rv' q h3).trans (hu.1.block q hq fun e => h2 e.symm)
  have hbel := Below.setCell (B := 0) (Below.refl 0 w') (p := ⟨t, 2, none⟩) (Nat.zero_le _) rv'
  refine ⟨⟨.inl h1, ?_, hrow.keep fun q hq => ⟨Below.heap_setCell w' ⟨t, 2, none⟩ rv' q ?_, Nat.zero_le _⟩, fun q hq => ?_, hl'.keep fun s hs q hq hB hlt => ⟨hblk q hlt (fun e => ?_) ?_, .inl hB⟩, hd'⟩, hbel.os.trans hu.1.os, hbel.tape.trans hu.1.tape, hbel.output.trans hu.1.output, Nat.le_trans hu.1.size hbel.size, fun q hq hnB => hblk q hq (fun e => hnB (ho q e)) (fun e => hnB (by rw [e]; exact h1))⟩
  · have := hbt.setSame 2 rv'
    simpa using this
  · obtain ⟨arr, hq2⟩ := rowk_box hrow hq
    exact box_ne hq2 hbt (by decide)
  · rcases hu.2 with k | k
    · rw [hq] at k
      exact .inl (ho q k.symm)
    · exact .inr (k q hq)
  · obtain ⟨⟨arr, hq2⟩, _⟩ := leaf_types hl' s hs q hq
    obtain ⟨arr2, hq3⟩ := rowk_box hr e
    exact box_ne hq2 hq3 (by decide) rfl
  · obtain ⟨⟨arr, hq2⟩, _⟩ := leaf_types hl' s hs q hq
    exact box_ne hq2 hb (by decide)

end Go.Proofs.Ytcebnoapgceodaa.tC
end

section
namespace Go.Proofs.Ytcebnoapgceodaa.tCR
open Go.RowKit Go.Lib

set_option linter.unusedVariables false

theorem infoE : (Try.prog.info? 185).map (fun i => (i.zero, i.size, i.bytes)) = some (some (.slice none 0 0), 1, 24) := by kernel_rfl

def insC (cs : List Value) (i : Nat) (es : List Value) : List Value := cs.take (i * 1) ++ (es ++ cs.drop (i * 1))

def InsP (w : World) (B : Nat) (v : Value) (n : Nat) (cs : List Value) (e : Ending) (w' : World) : Prop := ∃ v', e = .returned v' ∧ RowK 185 1 B w' v' n cs ∧ Up w v w' v'

/-- a row behind an insert, by its block -/
theorem inserted {w' : World} {B n i G C : Nat} {cs es : List Value} {arr : Array Value} (hi : i ≤ n) (hcs : cs.length = n * 1) (hes : es.length = 1) (h1c : ∀ u ∈ cs, u.oneCell' = true) (h1e : ∀ u ∈ es, u.oneCell' = true)
    (hbox : Box w' G 185 arr) (hsz : arr.size = C * 1) (hC : n + 1 ≤ C) (hC2 : C ≤ maxLen) (hG : B ≤ G)
    (h1 : ∀ q, q < i * 1 → arr[q]? = cs[q]?) (h2 : ∀ q, q < 1 → arr[i * 1 + q]? = es[q]?) (h3 : ∀ q, q < (n - i) * 1 → arr[(i + 1) * 1 + q]? = cs[i * 1 + q]?) :
    RowK 185 1 B w' (.slice (some ⟨G, 0, none⟩) (n + 1) C) (n + 1) (insC cs i es) := by
  have htl : (cs.take (i * 1)).length = i * 1 := by rw [List.length_take]; omega
  refine RowK.mk hbox hsz hG hC hC2 ?_ (fun q hq => ?_) (fun u hu => ?_)
  · unfold insC
    rw [List.length_append, List.length_append, htl, hes, List.length_drop]
    omega
  · unfold insC
    by_cases a : q < i * 1
    · rw [List.getElem?_append_left (by omega), List.getElem?_take, if_pos a, h1 q a]
    · rw [List.getElem?_append_right (by omega), htl]
      by_cases b : q - i * 1 < 1
      · rw [List.getElem?_append_left (by omega), ← h2 _ b]
        congr 1
        omega
      · rw [List.getElem?_append_right (by omega), hes, List.getElem?_drop, ← h3 (q - i * 1 - 1) (by omega)]
        congr 1
        omega
  · unfold insC at hu
    rcases List.mem_append.1 hu with hu | hu
    · exact h1c u (List.mem_of_mem_take hu)
    · rcases List.mem_append.1 hu with hu | hu
      · exact h1e u hu
      · exact h1c u (List.mem_of_mem_drop hu)

abbrev TT := 101

set_option maxHeartbeats 4000000 in
set_option maxRecDepth 100000 in
/-- at the end -/
theorem ins_end {w : World} {B n vb : Nat} {vv : Value} {cs es : List Value} (hrow : RowK 185 1 B w vv n cs) (hn9 : n ≤ 100000) (hB : B ≤ w.heap.size) (hes : es.length = 1) (h1e : ∀ u ∈ es, u.oneCell' = true) (hv : Box w vb 185 es.toArray) :
    Calls Try.prog 179 #[vv, .int .i64 n, .slice (some ⟨vb, 0, none⟩) 1 1] w (InsP w B vv (n + 1) (insC cs n es)) := by
  obtain ⟨a, c, rfl, hc1, hc2⟩ := hrow.form
  obtain ⟨i, hi, hz, hi1, hi2⟩ := info_parts infoE
  have hcl := hrow.len
  have hnews : ∀ j u, es[j]? = some u → w.cell? ((⟨vb, 0, none⟩ : Addr).add j) = some u := by
    intro j u hj
    rw [addr_at, hv.cell]
    simpa using hj
  obtain ⟨v', w', hr, ho', hu⟩ := run_app (P := Try.prog) w B TT TT 185 i _ 1 24 Try.underlying101 hi hz hi1 hi2 rfl (by decide) _ n cs hrow.1 ⟨vb, 0, none⟩ 1 1 es (by omega) hnews h1e (by unfold maxLen; omega) (by omega) hB
  have hfin : RowK 185 1 B w' v' (n + 1) (insC cs n es) := by
    have e : insC cs n es = cs ++ es := by
      unfold insC
      rw [List.take_of_length_le (by omega), List.drop_of_length_le (by omega), List.append_nil]
    rw [e]
    refine ⟨ho', fun u hu => ?_⟩
    rcases List.mem_append.1 hu with hu | hu
    · exact hrow.2 u hu
    · exact h1e u hu
  have HF : Hid (InsP w B (.slice a n c) (n + 1) (insC cs n es) (.returned v') w') := Lib.hid ⟨v', rfl, hfin, hu⟩
  obtain ⟨va, vc, rfl, _, _⟩ := hfin.form
  have h48 : (n : Int) ≤ (c : Int) := by omega
  have hc63 : (c : Int) ≤ 9223372036854775807 := by unfold maxLen at hc2; omega
  have h01 : ¬ ((1 : Int) = 0) := by omega
  clear hfin hu hcl hnews ho' hv hrow
  go_enter Try.func179, Try.ntmps179
  cases a with
  | none =>
    go_wp2_with (at_builtin; refine Lib.wpList_append_run _ rfl _ _ _ _ rfl _ _ rfl rfl _ _ hr ?_)
    go_ret
    exact HF.out
  | some ad =>
    obtain ⟨ab, ao, asp⟩ := ad
    go_wp2_with (at_builtin; refine Lib.wpList_append_run _ rfl _ _ _ _ rfl _ _ rfl rfl _ _ hr ?_)
    all_goals (go_ret; exact HF.out)

set_option maxHeartbeats 4000000 in
set_option maxRecDepth 100000 in
/-- there is room -/
theorem ins_shift {w : World} {B n i c g vb : Nat} {cs fc : List Value} (hrow : RowK 185 1 B w (.slice (some ⟨g, 0, none⟩) n c) n cs) (hn9 : n ≤ 100000) (hi : i < n) (hroom : n + 1 ≤ c) (hvb : vb ≠ g)
    (hfl : fc.length = 1) (hone : ∀ u ∈ fc, u.oneCell' = true) (hv : Box w vb 185 fc.toArray) :
    Calls Try.prog 179 #[.slice (some ⟨g, 0, none⟩) n c, .int .i64 i, .slice (some ⟨vb, 0, none⟩) 1 1] w (InsP w B (.slice (some ⟨g, 0, none⟩) n c) (n + 1) (insC cs i fc)) := by
  obtain ⟨ti, hti, hz, hi1, hi2⟩ := info_parts infoE
  have hsz : (Try.prog.info? 185).map (·.size) = some 1 := by rw [hti]; simp [hi1]
  obtain ⟨cur, hbox, hcz, hgB, _, hcm, hcq⟩ := hrow.parts
  have hcl := hrow.len
  have honc := hrow.2
  have hc63 : c ≤ 9223372036854775807 := by unfold maxLen at hcm; omega
  obtain ⟨c1, hc1⟩ : ∃ c1, c1 = cs.drop (i * 1) := ⟨_, rfl⟩
  have hc1l : c1.length = (n - i) * 1 := by rw [hc1, List.length_drop, hcl]; omega
  have hov : ∀ lb cb, (callFunc 206 #[.slice (some ⟨vb, 0, none⟩) 1 1, .slice (some ⟨g, (i + 1) * 1, none⟩) lb cb]).run Try.prog w = .ok (.value (.bool false)) w := fun lb cb => by
    rw [run_callFunc_extern Try.func206 (by kernel_rfl) (by kernel_rfl) (by kernel_rfl) (e := Extern.SlicesOverlaps.overlaps #[101, 101] #[4]) (by kernel_rfl),
      Lib.run_overlaps_apart w 101 4 185 Try.underlying101 1 (fun w => by simp [Go.sizeOf, typeInfo, hti, hi1]) ⟨vb, 0, none⟩ ⟨g, (i + 1) * 1, none⟩ 1 1 lb cb hvb 185 185 1 (c * 1) (by unfold Box at hv; simp [World.shape?, hv, hfl]) (by unfold Box at hbox; simp [World.shape?, hbox, hcz]) (by omega) (hv.free 0) (hv.free 1)]
    rfl
  have hcell : ∀ q, q < c * 1 → (w.cell? ⟨g, q, none⟩).isSome = true := fun q hq => by rw [hbox.cell, Array.getElem?_eq_getElem (by omega)]; rfl
  have hcp1 : ∀ ty dc sc, (Builtin.copy_ #[TT, TT] ty #[.slice (some ⟨g, (i + 1) * 1, none⟩) (n - i) dc, .slice (some ⟨g, i * 1, none⟩) (n + 1 - i) sc]).run Try.prog w.drew = .ok (goInt ((n - i : Nat) : Int)) (w.drew.setCells g ((i + 1) * 1) c1) := fun ty dc sc =>
    run_copy_cellsK w.drew _ _ ty 185 1 g ((i + 1) * 1) (n - i) dc ⟨g, i * 1, none⟩ (n + 1 - i) sc (n - i) c1 Try.underlying101 hsz (by simp only [Nat.min_def]; split <;> omega) hc1l
      (fun j v hj => by
        have e : ((⟨g, i * 1, none⟩ : Addr).add j) = ⟨g, i * 1 + j, none⟩ := by unfold Addr.add; by_cases h0 : j = 0 <;> simp [h0]
        rw [e]
        show w.cell? ⟨g, i * 1 + j, none⟩ = some v
        rw [hc1, List.getElem?_drop] at hj
        rw [hbox.cell, hcq _ (by have := (List.getElem?_eq_some_iff.1 hj).1; omega)]
        exact hj)
      (fun j hj => hcell _ (by omega)) (fun j hj => hbox.free _) (fun u hu => honc u (by rw [hc1] at hu; exact List.mem_of_mem_drop hu))
  obtain ⟨W1, hW1⟩ : ∃ W1, W1 = w.drew.setCells g ((i + 1) * 1) c1 := ⟨_, rfl⟩
  have hboxD : Box w.drew g 185 cur := hbox
  have hvD : Box w.drew vb 185 fc.toArray := hv
  have hb1 : Box W1 g 185 (aset cur ((i + 1) * 1) c1) := by rw [hW1, setCells_sets]; exact hboxD.sets c1 _
  have hv1 : Box W1 vb 185 fc.toArray := by rw [hW1, setCells_sets]; exact (sets_far c1 w.drew _ vb hvb).trans hvD
  have hcp2 : ∀ (W : World), (∀ x, W.cell? x = W1.cell? x) → (∀ x, W.frozen? x = W1.frozen? x) → ∀ ty dc, (Builtin.copy_ #[TT, TT] ty #[.slice (some ⟨g, i * 1, none⟩) (n + 1 - i) dc, .slice (some ⟨vb, 0, none⟩) 1 1]).run Try.prog W = .ok (goInt ((1 : Nat) : Int)) (W.setCells g (i * 1) fc) := fun W hWc hWf ty dc =>
    run_copy_cellsK W _ _ ty 185 1 g (i * 1) (n + 1 - i) dc ⟨vb, 0, none⟩ 1 1 1 fc Try.underlying101 hsz (by simp only [Nat.min_def]; split <;> omega) (by omega)
      (fun j v hj => by
        have e : ((⟨vb, 0, none⟩ : Addr).add j) = ⟨vb, j, none⟩ := by unfold Addr.add; by_cases h0 : j = 0 <;> simp [h0]
        rw [e, hWc, hv1.cell]
        simpa using hj)
      (fun j hj => by rw [hWc, hb1.cell, Array.getElem?_eq_getElem (by rw [aset_size]; omega)]; rfl) (fun j hj => by rw [hWf]; exact hb1.free _) hone
  have hfin : Hid (∀ W : World, W.heap = W1.heap → W.os = w.os → W.tape = w.tape → W.output = w.output → InsP w B (.slice (some ⟨g, 0, none⟩) n c) (n + 1) (insC cs i fc) (.returned (.slice (some ⟨g, 0, none⟩) (n + 1) c)) (W.setCells g (i * 1) fc)) := Lib.hid fun W hh ho ht hp => by
    rw [setCells_sets]
    have hbW : Box W g 185 (aset cur ((i + 1) * 1) c1) := by unfold Box; rw [hh]; exact hb1
    have hb2 := hbW.sets fc (i * 1)
    have hfar : ∀ q, q ≠ g → (sets W g (i * 1) fc).heap[q]? = w.heap[q]? := fun q hq => by
      rw [sets_far _ _ _ _ hq, hh, hW1, setCells_sets, sets_far _ _ _ _ hq]; rfl
    have hsize : (sets W g (i * 1) fc).heap.size = w.heap.size := by rw [sets_size, hh, hW1, setCells_sets, sets_size]; rfl
    have hbel := Below.sets fc (i * 1) (Below.refl 0 W) (g := g) (Nat.zero_le _)
    refine ⟨_, rfl, ?_, ⟨hbel.os.trans ho, hbel.tape.trans ht, hbel.output.trans hp, by rw [hsize]; exact Nat.le_refl _, fun q _ hne => hfar q fun e => hne (by rw [e]; rfl)⟩, .inl rfl⟩
    refine inserted (by omega) hcl hfl honc hone hb2 (by rw [aset_size, aset_size, hcz]) hroom hcm hgB ?_ ?_ ?_
    · intro q hq
      rw [aset_far _ _ _ _ (by omega), aset_far _ _ _ _ (by omega)]
      exact hcq q (by omega)
    · intro q hq
      rw [List.getElem?_eq_getElem (by omega)]
      exact aset_get fc _ (i * 1) (by rw [aset_size]; omega) q _ (List.getElem?_eq_getElem (by omega))
    · intro q hq
      rw [aset_far _ _ _ _ (by omega)]
      have h9 : q < c1.length := by omega
      have := aset_get c1 cur ((i + 1) * 1) (by omega) q _ (List.getElem?_eq_getElem h9)
      rw [this, ← List.getElem?_eq_getElem h9, hc1, List.getElem?_drop]
  have hww : Hid (W1.os = w.os ∧ W1.tape = w.tape ∧ W1.output = w.output) := Lib.hid (by
    have hbel := Below.sets c1 ((i + 1) * 1) (Below.refl 0 w.drew) (g := g) (Nat.zero_le _)
    rw [hW1, setCells_sets]
    exact ⟨hbel.os, hbel.tape, hbel.output⟩)
  have mixed : Try.prog.follows Departure.mixedOrders = true := by kernel_rfl
  have hw1 : IntKind.i64.wrap ((i : Int) + (1 : Int)) = (i : Int) + (1 : Int) := by rw [IntKind.wrap_i64]; omega
  have hz1 : ¬ ((1 : Int) = 0) := by omega
  have hz2 : ¬ ((i : Int) = (n : Int)) := by omega
  have hb1' : (0 : Int) ≤ (i : Int) + (1 : Int) := by omega
  have hin : i ≤ n := by omega
  have htn : ((i : Int) + (1 : Int)).toNat = i + 1 := by omega
  have hb2' : ¬ (c = i + 1) := by omega
  have hb3 : (i : Int) ≤ (n : Int) + (1 : Int) := by omega
  have hb4 : ¬ (c = i) := by omega
  rw [← hW1] at hcp1
  clear hcq honc hone hcell hboxD hvD hb1 hv1 hc1l hbox hcz hW1 hc1 hv hrow hfl hcl hgB hcm hti hz hi1 hi2 hsz
  simp only [Nat.mul_one] at hov hcp1 hcp2 hfin
  go_enter Try.func179, Try.ntmps179
  go_wp2_with (simp only [hov])
  go_region_law_o (refine Go.Proofs.step_copy_runI rfl _ _ TT TT rfl _ _ (by simp [Act.eval, Act.put]) (by simp [Act.eval, Act.put]) (hcp1 _ _ _) ?_)
  have HD0 := Lib.hid (hfin.out W1 rfl hww.out.1 hww.out.2.1 hww.out.2.2)
  clear hfin hww hcp1 hov
  go_wp2_with (at_builtin; refine Go.Proofs.wpList_copy_runI _ rfl _ _ TT TT rfl _ _ rfl rfl (hcp2 _ (fun _ => rfl) (fun _ => rfl) _ _) ?_)
  go_ret
  exact HD0.out

set_option maxHeartbeats 4000000 in
set_option maxRecDepth 100000 in
/-- there is no room -/
theorem ins_grow {w : World} {B n i c g vb : Nat} {cs fc : List Value} (hrow : RowK 185 1 B w (.slice (some ⟨g, 0, none⟩) n c) n cs) (hn9 : n ≤ 100000) (hi : i < n) (hroom : c < n + 1) (hB : B ≤ w.heap.size)
    (hfl : fc.length = 1) (hone : ∀ u ∈ fc, u.oneCell' = true) (hv : Box w vb 185 fc.toArray) :
    Calls Try.prog 179 #[.slice (some ⟨g, 0, none⟩) n c, .int .i64 i, .slice (some ⟨vb, 0, none⟩) 1 1] w (InsP w B (.slice (some ⟨g, 0, none⟩) n c) (n + 1) (insC cs i fc)) := by
  obtain ⟨ti, hti, hz, hi1, hi2⟩ := info_parts infoE
  have hsz : (Try.prog.info? 185).map (·.size) = some 1 := by rw [hti]; simp [hi1]
  obtain ⟨cur, hbox, hcz, hgB, hnc, hcm, hcq⟩ := hrow.parts
  have hcl := hrow.len
  have honc := hrow.2
  have hc63 : c ≤ 9223372036854775807 := by unfold maxLen at hcm; omega
  obtain ⟨c1, hc1⟩ : ∃ c1, c1 = cs.drop (i * 1) := ⟨_, rfl⟩
  have hc1l : c1.length = (n - i) * 1 := by rw [hc1, List.length_drop, hcl]; omega
  have hgw := hbox.lt
  have hvw := hv.lt
  obtain ⟨zz, hzz⟩ : ∃ zz : Value, zz = .slice none 0 0 := ⟨_, rfl⟩
  rw [← hzz] at hz
  have hzc : zz.cells.size = 1 := by rw [hzz]; rfl
  have hold0 : (Builtin.firstCells ti.size i (.slice (some ⟨g, 0, none⟩) i c)).run Try.prog w.drew = .ok (cs.take (i * 1)).toArray w.drew := by
    rw [hi1]
    exact run_firstCells_some w.drew 1 i ⟨g, 0, none⟩ i c (cs.take (i * 1)) (by rw [List.length_take, hcl]; omega) (fun j v hj => by
      have e : ((⟨g, 0, none⟩ : Addr).add j) = ⟨g, j, none⟩ := by unfold Addr.add; by_cases h0 : j = 0 <;> simp [h0]
      rw [e]
      show w.cell? ⟨g, j, none⟩ = some v
      rw [List.getElem?_take] at hj
      split at hj
      · rw [hbox.cell, hcq _ (by omega)]; exact hj
      · cases hj)
  have hkk : (n : Int) + (1 : Int) - (i : Int) = ((n + 1 - i : Nat) : Int) := by omega
  have hik : i + (n + 1 - i) = n + 1 := by omega
  obtain ⟨G, hG⟩ : ∃ G, G = grownCap w (n + 1) c 185 := ⟨_, rfl⟩
  have hGn : n + 1 ≤ G := by rw [hG]; exact grownCap_ge w _ _ _
  have hGm : G ≤ maxLen := by rw [hG]; exact grownCap_le_maxLen w (n + 1) c 185 (by unfold maxLen; omega)
  obtain ⟨ROW, hROW⟩ : ∃ ROW : Array Value, ROW = (cs.take (i * 1)).toArray ++ Builtin.zeroCells zz.cells (n + 1 - i) ++ Builtin.zeroCells zz.cells (G - (n + 1)) := ⟨_, rfl⟩
  have hrz : ∀ ty, (Builtin.append_ #[TT, 3] ty #[.slice (some ⟨g, 0, none⟩) i c, .int .i64 ((n : Int) + (1 : Int) - (i : Int))]).run Try.prog w =
      .ok (.slice (some ⟨w.heap.size, 0, none⟩) (n + 1) G) (w.drew.alloc (.cells ROW 185)) := fun ty => by
    have h := Lib.run_append_grow_zeros (P := Try.prog) w TT 3 ty 185 ti zz .i64 .i64 Try.underlying101 Try.underlying3 hti hz (some ⟨g, 0, none⟩) i c (cs.take (i * 1)) hold0 (n + 1 - i) (by omega) (by omega) (by omega) (by omega) (by rw [hi2]; omega) (by rw [hi2, hik]; exact growslice_fits hroom (by omega))
    rw [hik] at h
    rw [hkk, hROW, hG]
    exact h
  have hRsz : ROW.size = G * 1 := by
    rw [hROW]
    simp only [Array.size_append, List.size_toArray, List.length_take, hcl]
    rw [size_zeroCells, size_zeroCells, hzc]
    omega
  have hR1 : ∀ q, q < i * 1 → ROW[q]? = cs[q]? := fun q hq => by
    rw [hROW, Array.append_assoc, Array.getElem?_append_left (by simp [hcl]; omega), List.getElem?_toArray, List.getElem?_take, if_pos hq]
  obtain ⟨W1, hW1⟩ : ∃ W1, W1 = w.drew.alloc (.cells ROW 185) := ⟨_, rfl⟩
  rw [← hW1] at hrz
  have hN : Box W1 w.heap.size 185 ROW := by rw [hW1]; exact Box.new w.drew _ _
  have hfar1 : ∀ q, q < w.heap.size → W1.heap[q]? = w.heap[q]? := fun q hq => by rw [hW1]; exact Below.heap_alloc w.drew _ q hq
  have hsz1 : W1.heap.size = w.heap.size + 1 := by
    rw [hW1]
    generalize hd : w.drew = wd
    have : wd.heap.size = w.heap.size := by rw [← hd]; rfl
    rw [← this]
    simp
  have hv1 : Box W1 vb 185 fc.toArray := (hfar1 vb hvw).trans hv
  have hcpA : ∀ (W : World), (∀ x, W.cell? x = W1.cell? x) → (∀ x, W.frozen? x = W1.frozen? x) → ∀ ty dc, (Builtin.copy_ #[TT, TT] ty #[.slice (some ⟨w.heap.size, i * 1, none⟩) (n + 1 - i) dc, .slice (some ⟨vb, 0, none⟩) 1 1]).run Try.prog W = .ok (goInt ((1 : Nat) : Int)) (W.setCells w.heap.size (i * 1) fc) := fun W hWc hWf ty dc =>
    run_copy_cellsK W _ _ ty 185 1 w.heap.size (i * 1) (n + 1 - i) dc ⟨vb, 0, none⟩ 1 1 1 fc Try.underlying101 hsz (by simp only [Nat.min_def]; split <;> omega) (by omega)
      (fun j v hj => by
        have e : ((⟨vb, 0, none⟩ : Addr).add j) = ⟨vb, j, none⟩ := by unfold Addr.add; by_cases h0 : j = 0 <;> simp [h0]
        rw [e, hWc, hv1.cell]
        simpa using hj)
      (fun j hj => by rw [hWc, hN.cell, Array.getElem?_eq_getElem (by omega)]; rfl) (fun j hj => by rw [hWf]; exact hN.free _) hone
  obtain ⟨W2, hW2⟩ : ∃ W2, W2 = W1.setCells w.heap.size (i * 1) fc := ⟨_, rfl⟩
  have hN2 : Box W2 w.heap.size 185 (aset ROW (i * 1) fc) := by rw [hW2, setCells_sets]; exact hN.sets fc _
  have hg2 : Box W2 g 185 cur := by rw [hW2, setCells_sets]; exact (sets_far fc W1 _ g (by omega)).trans ((hfar1 g hgw).trans hbox)
  have hcpB : ∀ (W : World), (∀ x, W.cell? x = W2.cell? x) → (∀ x, W.frozen? x = W2.frozen? x) → ∀ ty dc sc, (Builtin.copy_ #[TT, TT] ty #[.slice (some ⟨w.heap.size, (i + 1) * 1, none⟩) (n - i) dc, .slice (some ⟨g, i * 1, none⟩) (n - i) sc]).run Try.prog W = .ok (goInt ((n - i : Nat) : Int)) (W.setCells w.heap.size ((i + 1) * 1) c1) := fun W hWc hWf ty dc sc =>
    run_copy_cellsK W _ _ ty 185 1 w.heap.size ((i + 1) * 1) (n - i) dc ⟨g, i * 1, none⟩ (n - i) sc (n - i) c1 Try.underlying101 hsz (by simp only [Nat.min_def]; split <;> omega) hc1l
      (fun j v hj => by
        have e : ((⟨g, i * 1, none⟩ : Addr).add j) = ⟨g, i * 1 + j, none⟩ := by unfold Addr.add; by_cases h0 : j = 0 <;> simp [h0]
        rw [e, hWc, hg2.cell]
        rw [hc1, List.getElem?_drop] at hj
        rw [hcq _ (by have := (List.getElem?_eq_some_iff.1 hj).1; omega)]
        exact hj)
      (fun j hj => by rw [hWc, hN2.cell, Array.getElem?_eq_getElem (by rw [aset_size]; omega)]; rfl) (fun j hj => by rw [hWf]; exact hN2.free _) (fun u hu => honc u (by rw [hc1] at hu; exact List.mem_of_mem_drop hu))
  have hfin : Hid (∀ W : World, W.heap = W2.heap → W.os = w.os → W.tape = w.tape → W.output = w.output → InsP w B (.slice (some ⟨g, 0, none⟩) n c) (n + 1) (insC cs i fc) (.returned (.slice (some ⟨w.heap.size, 0, none⟩) (n + 1) G)) (W.setCells w.heap.size ((i + 1) * 1) c1)) := Lib.hid fun W hh ho ht hp => by
    rw [setCells_sets]
    have hbW : Box W w.heap.size 185 (aset ROW (i * 1) fc) := by unfold Box; rw [hh]; exact hN2
    have hb2 := hbW.sets c1 ((i + 1) * 1)
    have hfar : ∀ q, q < w.heap.size → (sets W w.heap.size ((i + 1) * 1) c1).heap[q]? = w.heap[q]? := fun q hq => by
      rw [sets_far _ _ _ _ (by omega), hh, hW2, setCells_sets, sets_far _ _ _ _ (by omega)]; exact hfar1 q hq
    have hsize : (sets W w.heap.size ((i + 1) * 1) c1).heap.size = w.heap.size + 1 := by rw [sets_size, hh, hW2, setCells_sets, sets_size]; exact hsz1
    have hbel := Below.sets c1 ((i + 1) * 1) (Below.refl 0 W) (g := w.heap.size) (Nat.zero_le _)
    refine ⟨_, rfl, ?_, ⟨hbel.os.trans ho, hbel.tape.trans ht, hbel.output.trans hp, by rw [hsize]; omega, fun q hq _ => hfar q hq⟩, .inr fun k hk => by
      have : w.heap.size = k := by simpa [Value.ownBlock] using hk
      omega⟩
    refine inserted (by omega) hcl hfl honc hone hb2 (by rw [aset_size, aset_size, hRsz]) hGn hGm hB ?_ ?_ ?_
    · intro q hq
      rw [aset_far _ _ _ _ (by omega), aset_far _ _ _ _ (by omega)]
      exact hR1 q hq
    · intro q hq
      rw [aset_far _ _ _ _ (by omega), List.getElem?_eq_getElem (by omega)]
      exact aset_get fc _ (i * 1) (by omega) q _ (List.getElem?_eq_getElem (by omega))
    · intro q hq
      have h9 : q < c1.length := by omega
      have := aset_get c1 (aset ROW (i * 1) fc) ((i + 1) * 1) (by rw [aset_size]; omega) q _ (List.getElem?_eq_getElem h9)
      rw [this, ← List.getElem?_eq_getElem h9, hc1, List.getElem?_drop]
  have hww : Hid (W2.os = w.os ∧ W2.tape = w.tape ∧ W2.output = w.output) := Lib.hid (by
    have hbel := Below.sets fc (i * 1) (Below.refl 0 W1) (g := w.heap.size) (Nat.zero_le _)
    rw [hW2, setCells_sets]
    rw [hW1] at hbel ⊢
    exact ⟨hbel.os, hbel.tape, hbel.output⟩)
  have mixed : Try.prog.follows Departure.mixedOrders = true := by kernel_rfl
  have hw1 : IntKind.i64.wrap ((i : Int) + (1 : Int)) = (i : Int) + (1 : Int) := by rw [IntKind.wrap_i64]; omega
  have hz1 : ¬ ((1 : Int) = 0) := by omega
  have hz2 : ¬ ((i : Int) = (n : Int)) := by omega
  have hz3 : (c : Int) < (n : Int) + (1 : Int) := by omega
  have hb1' : (0 : Int) ≤ (i : Int) + (1 : Int) := by omega
  have hin : i ≤ n := by omega
  have htn : ((i : Int) + (1 : Int)).toNat = i + 1 := by omega
  have hb3 : (i : Int) ≤ (n : Int) := by omega
  have hG63 : G ≤ 9223372036854775807 := by unfold maxLen at hGm; omega
  have hGi : ¬ (G = i) := by omega
  have hGim : ¬ (G = i + 1) := by omega
  have hci : ¬ (c = i) := by omega
  have hE1 : ∀ x, ((w.alloc (.cells ROW 185)).drew).cell? x = W1.cell? x := by rw [hW1]; exact fun x => rfl
  have hE2 : ∀ x, ((w.alloc (.cells ROW 185)).drew).frozen? x = W1.frozen? x := by rw [hW1]; exact fun x => rfl
  have hF1 : ∀ x, (((w.alloc (.cells ROW 185)).drew.setCells w.heap.size (i * 1) fc).drew).cell? x = W2.cell? x := by rw [hW2, hW1]; exact fun x => rfl
  have hF2 : ∀ x, (((w.alloc (.cells ROW 185)).drew.setCells w.heap.size (i * 1) fc).drew).frozen? x = W2.frozen? x := by rw [hW2, hW1]; exact fun x => rfl
  have hEW : W2.heap = (((w.alloc (.cells ROW 185)).drew.setCells w.heap.size (i * 1) fc).drew).heap := by rw [hW2, hW1]; rfl
  have HD1 : Hid (InsP w B (.slice (some ⟨g, 0, none⟩) n c) (n + 1) (insC cs i fc) (.returned (.slice (some ⟨w.heap.size, 0, none⟩) (n + 1) G)) ((((w.alloc (.cells ROW 185)).drew.setCells w.heap.size (i * 1) fc).drew).setCells w.heap.size ((i + 1) * 1) c1)) := Lib.hid (hfin.out _ hEW.symm (by rw [← hww.out.1, hW2, hW1]; rfl) (by rw [← hww.out.2.1, hW2, hW1]; rfl) (by rw [← hww.out.2.2, hW2, hW1]; rfl))
  subst hW2
  subst hW1
  clear hfin hww hEW hcq honc hone hv1 hc1l hbox hcz hc1 hv hrow hfl hcl hgB hcm hti hz hi1 hi2 hsz hN hN2 hg2 hfar1 hsz1 hR1 hRsz hROW hG hzz hzc hold0 hkk hik hGm
  simp only [Nat.mul_one] at hrz hcpA hcpB hE1 hE2 hF1 hF2 HD1
  go_enter Try.func179, Try.ntmps179
  go_wp2_with (first
    | (at_builtin; refine Lib.wpList_append_run _ rfl _ _ _ _ rfl _ _ rfl rfl _ _ (hrz _) ?_)
    | (at_builtin; refine Go.Proofs.wpList_copy_runI _ rfl _ _ TT TT rfl _ _ rfl rfl (hcpA _ hE1 hE2 _ _) ?_)
    | (at_builtin; refine Go.Proofs.wpList_copy_runI _ rfl _ _ TT TT rfl _ _ rfl rfl (hcpB _ (fun _ => rfl) (fun _ => rfl) _ _ _) ?_))
  go_region_law_o (refine Go.Proofs.step_copy_runI rfl _ _ TT TT rfl (.slice (some ⟨w.heap.size, i + 1, none⟩) (n - i) (G - (i + 1))) (.slice (some ⟨g, i, none⟩) (n - i) (c - i)) (by simp [Act.eval, Act.put]) (by simp [Act.eval, Act.put]) (hcpB _ hF1 hF2 _ _ _) ?_)
  clear hcpA hcpB hrz hE1 hE2 hF1 hF2
  go_wp2
  go_ret
  exact HD1.out

/-- of whatever row -/
theorem ins_any {w : World} {B n i vb : Nat} {vv : Value} {cs es : List Value} (hrow : RowK 185 1 B w vv n cs) (hn9 : n ≤ 100000) (hi : i ≤ n) (hB : B ≤ w.heap.size) (hvb : vv.ownBlock ≠ some vb) (hes : es.length = 1) (h1e : ∀ u ∈ es, u.oneCell' = true) (hv : Box w vb 185 es.toArray) :
    Calls Try.prog 179 #[vv, .int .i64 i, .slice (some ⟨vb, 0, none⟩) 1 1] w (InsP w B vv (n + 1) (insC cs i es)) := by
  by_cases he : i = n
  · subst he
    exact ins_end hrow hn9 hB hes h1e hv
  · obtain ⟨a, c, rfl, hc1, hc2⟩ := hrow.form
    obtain ⟨g, rfl, _⟩ := hrow.at_ (by omega)
    by_cases hr : n + 1 ≤ c
    · exact ins_shift hrow hn9 (by omega) hr (fun e => hvb (by rw [e]; rfl)) hes h1e hv
    · exact ins_grow hrow hn9 (by omega) (by omega) hB hes h1e hv

end Go.Proofs.Ytcebnoapgceodaa.tCR
end

section
namespace Go.Proofs.Ytcebnoapgceodaa.tCEd
open Go.RowKit Go.Lib

set_option linter.unusedVariables false

theorem infoE : (Try.prog.info? 184).map (fun i => (i.zero, i.size, i.bytes)) = some (some (.agg #[.string ⟨#[]⟩, .slice none 0 0]), 2, 40) := by kernel_rfl

theorem run_clearK {P : Program} (w : World) (t e ty : TypeId) (z : Value) (ht : P.underlying t = some (.slice e)) (hv : ∀ w, (zeroValue e).run P w = .ok z w) (h1 : ∀ u ∈ z.cells, u.oneCell' = true) (b o n c : Nat) (hn : 0 < n)
    (hc : ∀ j, j < n * z.cells.size → (w.cell? ⟨b, o + j, none⟩).isSome = true) (hf : ∀ j, j < n * z.cells.size → w.frozen? ⟨b, o + j, none⟩ = false) :
    (Builtin.clear_ #[t] ty #[.slice (some ⟨b, o, none⟩) n c]).run P w = .ok (.tuple #[]) (w.setCells b o (Builtin.zeroCells z.cells n).toList) := by
  have hl : (Builtin.zeroCells z.cells n).toList.length = n * z.cells.size := by rw [Array.length_toList, size_zeroCells]
  have hst := run_storeCells_cells (P := P) b o (Builtin.zeroCells z.cells n).toList 0 w (by rw [hl]; simpa using hc) (by rw [hl]; simpa using hf) (by
    intro v hv'
    unfold Builtin.zeroCells at hv'
    simp only [Array.toList_map, List.mem_map] at hv'
    obtain ⟨q, hq, rfl⟩ := hv'
    rw [Array.mem_toList_iff, Array.mem_range] at hq
    have h0 : 0 < z.cells.size := by
      rcases Nat.eq_zero_or_pos z.cells.size with h | h
      · rw [h, Nat.mul_zero] at hq; omega
      · exact h
    have hlt := Nat.mod_lt q h0
    rw [getElem!_pos z.cells _ hlt]
    exact h1 _ (Array.getElem_mem hlt))
  simp only [Nat.add_zero] at hst
  obtain ⟨m, rfl⟩ : ∃ m, n = m + 1 := ⟨n - 1, by omega⟩
  simp [Builtin.clear_, run_underlying ht, hv, hst]

def delC (cs : List Value) (i j : Nat) : List Value := cs.take (i * 2) ++ cs.drop (j * 2)

def DelP (w : World) (B : Nat) (v : Value) (n : Nat) (cs : List Value) (e : Ending) (w' : World) : Prop := ∃ v', e = .returned v' ∧ RowK 184 2 B w' v' n cs ∧ Up w v w' v'

abbrev TT := 185

set_option maxHeartbeats 4000000 in
set_option maxRecDepth 100000 in
theorem del_any {w : World} {B n i j g c : Nat} {cs : List Value} (hrow : RowK 184 2 B w (.slice (some ⟨g, 0, none⟩) n c) n cs) (hn9 : n ≤ 100000) (hij : i < j) (hj : j ≤ n) :
    Calls Try.prog 159 #[.slice (some ⟨g, 0, none⟩) n c, .int .i64 i, .int .i64 j] w (DelP w B (.slice (some ⟨g, 0, none⟩) n c) (i + (n - j)) (delC cs i j)) := by
  obtain ⟨ti, hti, hz, hi1, hi2⟩ := info_parts infoE
  obtain ⟨cur, hbox, hcz, hgB, hnc, hcm, hcq⟩ := hrow.parts
  have hcl' := hrow.len
  have hone := hrow.2
  have hm : c ≤ 9223372036854775807 := by unfold maxLen at hcm; omega
  have hbD : Box w.drew g 184 cur := hbox
  obtain ⟨news, hnews⟩ : ∃ news, news = cs.drop (j * 2) := ⟨_, rfl⟩
  have hlen : news.length = (n - j) * 2 := by rw [hnews, List.length_drop, hcl']; omega
  obtain ⟨A, hA, hsrc⟩ : ∃ A : Addr, (if c = j then some (⟨g, 0, none⟩ : Addr) else some ⟨g, j * 2, none⟩) = some A ∧ Hid (∀ t u, news[t]? = some u → w.drew.cell? (A.add t) = some u) := by
    by_cases h : c = j
    · refine ⟨⟨g, 0, none⟩, by simp [h], Lib.hid fun t u hu => ?_⟩
      have h0 : news.length = 0 := by omega
      rw [List.length_eq_zero_iff.1 h0] at hu
      simp at hu
    · refine ⟨⟨g, j * 2, none⟩, by simp [h], Lib.hid fun t u hu => ?_⟩
      rw [hnews, List.getElem?_drop] at hu
      have hl := (List.getElem?_eq_some_iff.1 hu).1
      rw [addr_off]
      show w.cell? _ = some u
      rw [hbox.cell, show j * 2 + t = j * 2 + t by omega, hcq _ (by omega)]
      exact hu
  have s1 : Hid (news.length = (n - j) * 2) := Lib.hid hlen
  have s2 : Hid (∀ u ∈ news, u.oneCell' = true) := Lib.hid fun u hu => hone u (by rw [hnews] at hu; exact List.mem_of_mem_drop hu)
  have s3 : Hid (∀ t, t < news.length → (w.drew.cell? ⟨g, 0 + i * 2 + t, none⟩).isSome = true ∧ w.drew.frozen? ⟨g, 0 + i * 2 + t, none⟩ = false) := Lib.hid fun t ht =>
    ⟨by rw [hbD.cell, Array.getElem?_eq_getElem (by omega)]; rfl, hbD.free _⟩
  obtain ⟨W1, hW1⟩ : ∃ W1, W1 = w.drew.setCells g (0 + i * 2) news := ⟨_, rfl⟩
  have hb1 : Box W1 g 184 (aset cur (0 + i * 2) news) := by rw [hW1, setCells_sets]; exact hbD.sets news _
  obtain ⟨zs, hzs⟩ : ∃ zs, zs = (Builtin.zeroCells (Value.cells (.agg #[.string ⟨#[]⟩, .slice none 0 0])) (n - (i + (n - j)))).toList := ⟨_, rfl⟩
  have hK : (Value.cells (.agg #[.string ⟨#[]⟩, .slice none 0 0])).size = 2 := rfl
  have hzl : zs.length = (n - (i + (n - j))) * 2 := by rw [hzs, Array.length_toList, size_zeroCells, hK]
  have hcl : ∀ ty, (Builtin.clear_ #[TT] ty #[.slice (some ⟨g, (i + (n - j)) * 2, none⟩) (n - (i + (n - j))) (c - (i + (n - j)))]).run Try.prog W1 = .ok (.tuple #[]) (W1.setCells g ((i + (n - j)) * 2) zs) := fun ty => by
    rw [hzs]
    refine run_clearK W1 _ _ ty _ Try.underlying185 Try.zeroValue184 (by decide) g _ _ _ (by omega) (fun t ht => ?_) (fun t ht => hb1.free _)
    rw [hK] at ht
    rw [hb1.cell, Array.getElem?_eq_getElem (by rw [aset_size]; omega)]
    rfl
  have hfin : Hid (DelP w B (.slice (some ⟨g, 0, none⟩) n c) (i + (n - j)) (delC cs i j) (.returned (.slice (some ⟨g, 0, none⟩) (i + (n - j)) c)) (W1.setCells g ((i + (n - j)) * 2) zs)) := Lib.hid (by
    rw [setCells_sets]
    have hb2 := hb1.sets zs ((i + (n - j)) * 2)
    have hfar : ∀ q, q ≠ g → (sets W1 g ((i + (n - j)) * 2) zs).heap[q]? = w.heap[q]? := fun q hq => by
      rw [sets_far _ _ _ _ hq, hW1, setCells_sets, sets_far _ _ _ _ hq]; rfl
    have hsize : (sets W1 g ((i + (n - j)) * 2) zs).heap.size = w.heap.size := by rw [sets_size, hW1, setCells_sets, sets_size]; rfl
    have hbel := Below.sets zs ((i + (n - j)) * 2) (Below.sets news (0 + i * 2) (Below.refl 0 w.drew) (g := g) (Nat.zero_le _)) (g := g) (Nat.zero_le _)
    rw [← setCells_sets g news, ← hW1] at hbel
    refine ⟨_, rfl, ?_, ⟨hbel.os, hbel.tape, hbel.output, by rw [hsize]; exact Nat.le_refl _, fun q _ hne => hfar q fun e => hne (by rw [e]; rfl)⟩, .inl rfl⟩
    have htl : (cs.take (i * 2)).length = i * 2 := by rw [List.length_take]; omega
    refine RowK.mk hb2 (by rw [aset_size, aset_size, hcz]) hgB (by omega) hcm ?_ (fun q hq => ?_) (fun u hu => ?_)
    · unfold delC
      rw [List.length_append, htl, List.length_drop]
      omega
    · rw [aset_far _ _ _ _ (by omega)]
      unfold delC
      by_cases a : q < i * 2
      · rw [aset_far _ _ _ _ (by omega), List.getElem?_append_left (by omega), List.getElem?_take, if_pos a]
        exact hcq q (by omega)
      · rw [List.getElem?_append_right (by omega), htl, ← hnews]
        have h9 : q - i * 2 < news.length := by omega
        have := aset_get news cur (0 + i * 2) (by omega) (q - i * 2) _ (List.getElem?_eq_getElem h9)
        rw [show 0 + i * 2 + (q - i * 2) = q by omega] at this
        rw [this, ← List.getElem?_eq_getElem h9]
    · unfold delC at hu
      rcases List.mem_append.1 hu with hu | hu
      · exact hone u (List.mem_of_mem_take hu)
      · exact hone u (List.mem_of_mem_drop hu))
  have hW : Hid (W1 = w.drew.setCells g (0 + i * 2) news) := Lib.hid hW1
  have mixed : Try.prog.follows Departure.mixedOrders = true := by kernel_rfl
  have hic : i ≤ c := by omega
  have hjc : j ≤ c := by omega
  have hin : i ≤ n := by omega
  have hij2 : i ≤ j := by omega
  have hie : ¬ (c = i + (n - j)) := by omega
  have hle : i + (n - j) ≤ n := by omega
  have hle2 : i + (n - j) ≤ c := by omega
  clear hW1 hb1 hzs hzl hK hbD hlen hnews hone hcl' hrow hbox hcz hgB hcm hcq
  go_enter Try.func159, Try.ntmps159
  go_wp2_with fail
  go_region_law_o (refine step_append_room rfl (.tmp 22) (.tmp 25) TT rfl 184 ti 2 Try.underlying185 hti hi1 g 0 i c (by simp [Act.eval, Act.put]) A (n - j) (c - j) news (by simp [Act.eval, Act.put]) s1.out hsrc.out s2.out (by omega) s3.out ?_; rw [← hW.out])
  go_wp2
  go_ret
  exact hfin.out

end Go.Proofs.Ytcebnoapgceodaa.tCEd
end

section
namespace Go.Proofs.Ytcebnoapgceodaa.tCc
open Go.RowKit Go.Lib

set_option linter.unusedVariables false

def ClnP (w : World) (n : Nat) (cs : List Value) (e : Ending) (w' : World) : Prop := ∃ v', e = .returned v' ∧ RowK 184 2 w.heap.size w' v' n cs ∧ Below w.heap.size w w'

abbrev TT := 185

set_option maxHeartbeats 1000000 in
set_option maxRecDepth 100000 in
theorem clone_any {w : World} {b off n c : Nat} {cs : List Value} (hn0 : 0 < n) (hn : n ≤ 100000) (hb : b < w.heap.size) (hl : cs.length = n * 2) (hin : InAt w b off cs) (hone : ∀ u ∈ cs, u.oneCell' = true) :
    Calls Try.prog 178 #[.slice (some ⟨b, off, none⟩) n c] w (ClnP w n cs) := by
  obtain ⟨i, hi, hz, hi1, hi2⟩ := info_parts tCEd.infoE
  have hown := World.ownsRow_lit (base := w.heap.size) (e := 184) (size := 2) w #[] 0 (Nat.le_refl _) (by unfold maxLen; omega) rfl
  have hb0 : Below w.heap.size w (w.alloc (.cells #[] 184)) := (Below.refl _ w).alloc (Nat.le_refl _) _
  obtain ⟨W0, hW0⟩ : ∃ W0, W0 = w.alloc (.cells #[] 184) := ⟨_, rfl⟩
  have hin0 : InAt W0 b off cs := by rw [hW0]; exact hin.keep (Below.heap_alloc w _ b hb)
  rw [← hW0] at hown hb0
  obtain ⟨v', w', hr, ho', hu⟩ := run_app (P := Try.prog) W0 w.heap.size TT TT 184 i _ 2 40 Try.underlying185 hi hz hi1 hi2 rfl (by decide) _ 0 [] hown ⟨b, off, none⟩ n c cs (by omega)
    (fun j u hj => by rw [addr_off]; exact hin0 j u hj) hone (by unfold maxLen; omega) (by omega) hb0.size
  have hbb : Below w.heap.size W0 w' := (Below.refl _ W0).grown hu.1 hb0.size fun k hk => (World.ownsRow.lt hown k hk).1
  have hfin : RowK 184 2 w.heap.size w' v' n cs := by
    rw [Nat.zero_add, List.nil_append] at ho'
    exact ⟨ho', hone⟩
  have HF : Hid (ClnP w n cs (.returned v') w') := Lib.hid ⟨v', rfl, hfin, hb0.trans hbb⟩
  obtain ⟨va, vc, rfl, _, _⟩ := hfin.form
  have heq := fun w' => Lib.run_eql_slice_nil (P := Try.prog) w' TT 184 (some ⟨b, off, none⟩) n c 0 0 Try.underlying185
  subst hW0
  clear hin hown hb0 hin0 ho' hu hbb hfin hone hl
  go_enter Try.func178, Try.ntmps178
  go_wp2_with (at_builtin; refine Lib.wpList_append_run _ rfl _ _ _ _ rfl _ _ rfl rfl _ _ hr ?_)
  go_ret
  exact HF.out

end Go.Proofs.Ytcebnoapgceodaa.tCc
end

section
namespace Go.Proofs.Ytcebnoapgceodaa.tC
open Go.RowKit

set_option linter.unusedVariables false

theorem TreeOpen.mono [hd : Inhabited Hd] {B B' : Nat → Prop} {W : World} {t sz : Nat} {rv : Value} {ss : List Value} {ls : List (List KV)} (h : TreeOpen B W t rv ss ls sz) (hk : ∀ q, B q → B' q) : TreeOpen B' W t rv ss ls sz := h.keep fun q hq _ => ⟨rfl, hk q hq⟩

def SplitP [hd : Inhabited Hd] (B : Nat → Prop) (W : World) (t : Nat) (ls : List (List KV)) (sz : Nat) (e : Ending) (W' : World) : Prop :=
  e = .returned (.tuple #[]) ∧ Ext B W W' ∧ ∃ rv ss ls', TreeOpen (Nu B W.heap.size) W' t rv ss ls' sz ∧ ls'.flatten = ls.flatten ∧ ∀ x ∈ ls', x ≠ []

/-- what is read of an open tree -/
theorem TreeOpen.at_ [hd : Inhabited Hd] {B : Nat → Prop} {W : World} {t rg lc sz : Nat} {a c : List Value} {s : Value} {A C : List (List KV)} {l : List KV} (h : TreeOpen B W t (.slice (some ⟨rg, 0, none⟩) (A ++ l :: C).length lc) (a ++ s :: c) (A ++ l :: C) sz) (ha : a.length = A.length) :
    W.cell? ⟨t, 2, none⟩ = some (.slice (some ⟨rg, 0, none⟩) (A ++ l :: C).length lc) ∧ W.cell? ⟨t, 3, none⟩ = some (.int .i64 sz) ∧ W.cell? ⟨rg, A.length, none⟩ = some s ∧ LeafAt B W s l ∧ (A ++ l :: C).length ≤ lc ∧ lc ≤ maxLen ∧ rg < W.heap.size ∧ t < W.heap.size := by
  obtain ⟨h1, hb, hr, ho, hl, hd⟩ := h
  obtain ⟨_, _, e, hc1, hc2⟩ := hr.form
  injection e with _ _ e
  subst e
  obtain ⟨g, e, _, hlt, hcells⟩ := hr.at_ (by simp; omega)
  injection e with e
  injection e with e
  subst e
  refine ⟨by have := hb.cell 2; simpa using this, by have := hb.cell 3; simpa using this, hcells _ _ ?_, ?_, hc1, hc2, hlt, hb.lt⟩
  · rw [← ha, List.getElem?_append_right (Nat.le_refl _), Nat.sub_self]
    rfl
  · obtain ⟨a', c', e, e2, hla, hlc⟩ := hl.cut
    obtain ⟨rfl, rfl⟩ : a' = a ∧ c' = s :: c := by
      have := List.append_inj e (by omega)
      exact ⟨this.1.symm, this.2.symm⟩
    exact hlc.1

theorem ecells_take (l : List KV) (i : Nat) : (ecells l).take (i * 2) = ecells (l.take i) := by
  conv => lhs; rw [← List.take_append_drop i l, ecells_append]
  by_cases h : i ≤ l.length
  · rw [List.take_append_of_le_length (by rw [ecells_length, List.length_take]; omega), List.take_of_length_le (by rw [ecells_length, List.length_take]; omega)]
  · rw [List.drop_of_length_le (by omega)]
    rw [show ecells ([] : List KV) = [] from rfl, List.append_nil, List.take_of_length_le (by rw [ecells_length, List.length_take]; omega)]
theorem ecells_drop (l : List KV) (i : Nat) : (ecells l).drop (i * 2) = ecells (l.drop i) := by
  conv => lhs; rw [← List.take_append_drop i l, ecells_append]
  by_cases h : i ≤ l.length
  · rw [List.drop_append_of_le_length (by rw [ecells_length, List.length_take]; omega), List.drop_of_length_le (by rw [ecells_length, List.length_take]; omega), List.nil_append]
  · rw [List.drop_of_length_le (i := i) (by omega)]
    rw [show ecells ([] : List KV) = [] from rfl, List.append_nil, List.drop_of_length_le (by rw [ecells_length, List.length_take]; omega)]

set_option maxHeartbeats 1000000 in
set_option maxRecDepth 100000 in
theorem split_no [hd : Inhabited Hd] {B : Nat → Prop} {W : World} {t rg lc sz g k : Nat} {a c : List Value} {A C : List (List KV)} {l : List KV} (h : TreeOpen B W t (.slice (some ⟨rg, 0, none⟩) (A ++ l :: C).length lc) (a ++ .slice (some ⟨g, 0, none⟩) l.length k :: c) (A ++ l :: C) sz) (ha : a.length = A.length) (hne : ∀ x ∈ A ++ l :: C, x ≠ []) (hn9 : (A ++ l :: C).length ≤ 100000) (hs : l.length ≤ 64) :
    Calls Try.prog 148 #[.pointer (some ⟨t, 2, none⟩), .int .i64 A.length] W (SplitP B W t (A ++ l :: C) sz) := by
  obtain ⟨h1, _, h2, _, h4, h5, h6, h7⟩ := h.at_ ha
  have HF := Lib.hid (show SplitP B W t (A ++ l :: C) sz (.returned (.tuple #[])) W from ⟨rfl, Ext.refl _ _, _, _, _, h.mono fun q hq => .inl hq, rfl, hne⟩)
  have hi : A.length < (A ++ l :: C).length := by simp
  obtain ⟨i, hi2⟩ : ∃ i, i = A.length := ⟨_, rfl⟩
  obtain ⟨n, hn⟩ : ∃ n, n = (A ++ l :: C).length := ⟨_, rfl⟩
  obtain ⟨m, hm⟩ : ∃ m, m = l.length := ⟨_, rfl⟩
  rw [← hm] at h2 hs
  rw [← hn] at h1 h4 hn9 hi
  rw [← hi2] at h2 hi ⊢

  clear hm hn hi2 h ha hne
  go_enter Try.func148, Try.ntmps148
  go_wp2
  go_end0
  exact HF.out

theorem ap_mid {a c : List Value} {s s2 : Value} (h : (a ++ s :: c).Pairwise Ap) (h2 : ∀ x ∈ a ++ s :: c, Ap s2 x) : (a ++ s :: s2 :: c).Pairwise Ap := by
  have e : a ++ s :: s2 :: c = (a ++ [s]) ++ s2 :: c := by simp
  rw [e]
  refine (List.pairwise_middle (fun h => Ap.symm h)).2 (List.pairwise_cons.2 ⟨fun x hx => h2 x (by simpa using hx), ?_⟩)
  have e2 : a ++ [s] ++ c = a ++ s :: c := by simp
  rw [e2]
  exact h

theorem Ext.mono {B B' : Nat → Prop} {W W' : World} (h : Ext B W W') (hk : ∀ q, B q → B' q) : Ext B' W W' := ⟨h.1, h.2.1, h.2.2.1, h.2.2.2.1, fun q hq hn => h.2.2.2.2 q hq fun e => hn (hk q e)⟩

/-- behind the clone of the upper half -/
theorem split_one [hd : Inhabited Hd] {B : Nat → Prop} {W W1 : World} {t rg lc sz g k q : Nat} {a c : List Value} {A C : List (List KV)} {l : List KV} (h : TreeOpen B W t (.slice (some ⟨rg, 0, none⟩) (A ++ l :: C).length lc) (a ++ .slice (some ⟨g, 0, none⟩) l.length k :: c) (A ++ l :: C) sz) (ha : a.length = A.length) (hl9 : l.length ≤ 100000) (hq : q < l.length)
    (hb2 : Below W.heap.size W W1) :
    TreeOpen B W1.drew t (.slice (some ⟨rg, 0, none⟩) (A ++ l :: C).length lc) (a ++ .slice (some ⟨g, 0, none⟩) l.length k :: c) (A ++ l :: C) sz ∧
    Calls Try.prog 159 #[.slice (some ⟨g, 0, none⟩) l.length k, .int .i64 q, .int .i64 l.length] W1.drew (tCEd.DelP W1.drew 0 (.slice (some ⟨g, 0, none⟩) l.length k) q (ecells (l.take q))) := by
  have h1 : TreeOpen B W1.drew t (.slice (some ⟨rg, 0, none⟩) (A ++ l :: C).length lc) (a ++ .slice (some ⟨g, 0, none⟩) l.length k :: c) (A ++ l :: C) sz := h.keep fun q hq hlt => ⟨hb2.block q hlt, hq⟩
  refine ⟨h1, ?_⟩
  obtain ⟨_, _, _, hL, _⟩ := h1.at_ ha
  have hd := tCEd.del_any (i := q) (j := l.length) hL.1 hl9 hq (Nat.le_refl _)
  rw [Nat.sub_self, Nat.add_zero] at hd
  have e : tCEd.delC (ecells l) q l.length = ecells (l.take q) := by
    unfold tCEd.delC
    rw [List.drop_of_length_le (by rw [ecells_length]; omega), List.append_nil, ecells_take]
  rw [e] at hd
  exact hd

/-- behind the lower half's -/
theorem split_two [hd : Inhabited Hd] {B : Nat → Prop} {W W1 w2 : World} {t rg lc sz g k q : Nat} {a c : List Value} {A C : List (List KV)} {l : List KV} {s' v2 : Value} (h : TreeOpen B W t (.slice (some ⟨rg, 0, none⟩) (A ++ l :: C).length lc) (a ++ .slice (some ⟨g, 0, none⟩) l.length k :: c) (A ++ l :: C) sz) (ha : a.length = A.length) (hne : ∀ x ∈ A ++ l :: C, x ≠ []) (hn9 : (A ++ l :: C).length ≤ 90000)
    (hb2 : Below W.heap.size W W1) (hr2 : RowK 184 2 W.heap.size W1 v2 (l.length - q) (ecells (l.drop q))) (hq0 : 0 < q) (hq : q < l.length)
    (hrow : RowK 184 2 0 w2 s' q (ecells (l.take q))) (hu : Up W1.drew (.slice (some ⟨g, 0, none⟩) l.length k) w2 s') :
    (w2.cell? ⟨t, 2, none⟩ = some (.slice (some ⟨rg, 0, none⟩) (A ++ l :: C).length lc) ∧ w2.cell? ⟨rg, A.length, none⟩ = some (.slice (some ⟨g, 0, none⟩) l.length k) ∧ w2.frozen? ⟨rg, A.length, none⟩ = false) ∧
    (w2.setCell ⟨rg, A.length, none⟩ s').cell? ⟨t, 2, none⟩ = some (.slice (some ⟨rg, 0, none⟩) (A ++ l :: C).length lc) ∧
    Calls Try.prog 179 #[.slice (some ⟨rg, 0, none⟩) (A ++ l :: C).length lc, .int .i64 ((A.length + 1 : Nat)), .slice (some ⟨w2.heap.size, 0, none⟩) 1 1] ((w2.setCell ⟨rg, A.length, none⟩ s').alloc (.cells #[v2] 185)) fun e w5 =>
      ∃ va n vc, e = .returned (.slice va n vc) ∧ (w5.cell? ⟨t, 2, none⟩).isSome = true ∧ w5.frozen? ⟨t, 2, none⟩ = false ∧ SplitP B W t (A ++ l :: C) sz (.returned (.tuple #[])) (w5.setCell ⟨t, 2, none⟩ (.slice va n vc)) := by
  have h1 : TreeOpen B W1.drew t (.slice (some ⟨rg, 0, none⟩) (A ++ l :: C).length lc) (a ++ .slice (some ⟨g, 0, none⟩) l.length k :: c) (A ++ l :: C) sz := h.keep fun q hq hlt => ⟨hb2.block q hlt, hq⟩
  have hss : ∀ x ∈ a ++ .slice (some ⟨g, 0, none⟩) l.length k :: c, ∀ b, x.ownBlock = some b → (∃ arr, Box W b 184 arr) ∧ b < W.heap.size := fun x hx b hb => by
    obtain ⟨⟨arr, h⟩, _⟩ := leaf_types h.2.2.2.2.1 x hx b hb
    exact ⟨⟨arr, h⟩, h.lt⟩
  obtain ⟨_, _, _, _, _, _, hrg, htl⟩ := h.at_ ha
  have hgl := (hss (.slice (some ⟨g, 0, none⟩) l.length k) (by simp) g rfl).2
  obtain ⟨ag, hbg⟩ := (hss (.slice (some ⟨g, 0, none⟩) l.length k) (by simp) g rfl).1
  obtain ⟨ar, hbr⟩ := rowk_box h.2.2.1 (g := rg) rfl
  have hbt := h.2.1
  have hgr : g ≠ rg := box_ne hbg hbr (by decide)
  have hgt : g ≠ t := box_ne hbg hbt (by decide)
  have hrt : rg ≠ t := box_ne hbr hbt (by decide)
  have hblk : ∀ b, b < W1.heap.size → b ≠ g → w2.heap[b]? = W1.heap[b]? := fun b hb hne => hu.1.block b hb fun e => hne (by simpa [Value.ownBlock] using e)
  have hs1 := hb2.size
  have hs2 : W1.heap.size ≤ w2.heap.size := hu.1.size
  have hkeep : ∀ b, b < W.heap.size → b ≠ g → w2.heap[b]? = W.heap[b]? := fun b hb hne => (hblk b (by omega) hne).trans (hb2.block b hb)
  obtain ⟨c1, _, c2, _⟩ := h.at_ ha
  obtain ⟨hT3, hE3⟩ := h1.setLeaf ha (l' := l.take q) (by rw [List.length_take, Nat.min_eq_left (by omega)]; exact hrow) hu
  have hx : w2.cell? ⟨t, 2, none⟩ = some (.slice (some ⟨rg, 0, none⟩) (A ++ l :: C).length lc) := (World.cell?_of_block (a := ⟨t, 2, none⟩) (hkeep t htl (Ne.symm hgt))).trans c1
  have hy : w2.cell? ⟨rg, A.length, none⟩ = some (.slice (some ⟨g, 0, none⟩) l.length k) := (World.cell?_of_block (a := ⟨rg, A.length, none⟩) (hkeep rg hrg (Ne.symm hgr))).trans c2
  have hz : w2.frozen? ⟨rg, A.length, none⟩ = false := (World.frozen?_of_block (a := ⟨rg, A.length, none⟩) (hkeep rg hrg (Ne.symm hgr))).trans (hbr.free _)
  obtain ⟨W3, hW3⟩ : ∃ W3, W3 = w2.setCell ⟨rg, A.length, none⟩ s' := ⟨_, rfl⟩
  rw [← hW3] at hT3 hE3 ⊢
  have hz3 : W3.heap.size = w2.heap.size := by rw [hW3]; simp [World.setCell]
  have hf3 : ∀ b, b ≠ rg → W3.heap[b]? = w2.heap[b]? := fun b hb => by rw [hW3]; exact Below.heap_setCell w2 ⟨rg, A.length, none⟩ s' b hb
  refine ⟨⟨hx, hy, hz⟩, (World.cell?_of_block (a := ⟨t, 2, none⟩) (hf3 t (Ne.symm hrt))).trans hx, ?_⟩
  obtain ⟨D, hD⟩ : ∃ D : Nat → Prop, D = Nu B W.heap.size := ⟨_, rfl⟩
  have hDD : ∀ n q, W.heap.size ≤ n → Nu D n q → D q := fun n q hn h => by
    rw [hD] at h ⊢
    rcases h with h | h
    · exact h
    · exact .inr (by omega)
  have hBD : ∀ n q, W.heap.size ≤ n → Nu B n q → D q := fun n q hn h => by
    rw [hD]
    rcases h with h | h
    · exact .inl h
    · exact .inr (by omega)
  obtain ⟨W4, hW4⟩ : ∃ W4, W4 = W3.alloc (.cells #[v2] 185) := ⟨_, rfl⟩
  have hb4 : Below W3.heap.size W3 W4 := by rw [hW4]; exact (Below.refl _ W3).alloc (Nat.le_refl _) _
  have hbx4 : Box W4 w2.heap.size 185 [v2].toArray := by rw [hW4, ← hz3]; exact Box.new W3 _ _
  rw [← hW4]
  have hT4 : TreeOpen D W4 t (.slice (some ⟨rg, 0, none⟩) (A ++ l :: C).length lc) (a ++ s' :: c) (A ++ l.take q :: C) sz := hT3.keep fun q hq hlt => ⟨hb4.block q hlt, hBD _ q hs1 hq⟩
  have hv2 : LeafAt D W4 v2 (l.drop q) := by
    refine ⟨?_, fun b hb => ?_⟩
    · rw [List.length_drop]
      refine hr2.keep fun b hb => ⟨?_, Nat.zero_le _⟩
      obtain ⟨hb1, hb3⟩ := hr2.lt b hb
      exact (hb4.block b (by omega)).trans ((hf3 b (by omega)).trans (hblk b hb3 (by omega)))
    · rw [hD]
      exact .inr (hr2.lt b hb).1
  have hins := tCR.ins_any (i := A.length + 1) (vb := w2.heap.size) (es := [v2]) hT4.2.2.1 (by simp at hn9 ⊢; omega) (by simp) (Nat.zero_le _) (fun e => by
    have : rg = w2.heap.size := by simpa [Value.ownBlock] using e
    omega) rfl (fun u hu => by obtain rfl : u = v2 := by simpa using hu
                               exact rowk_one hr2) hbx4
  refine hins.mono ?_
  rintro e w5 ⟨v', rfl, hr5, hu5⟩
  have hal := ha
  have eC : tCR.insC (a ++ s' :: c) (A.length + 1) [v2] = a ++ s' :: v2 :: c := by
    unfold tCR.insC
    have e1 : a ++ s' :: c = (a ++ [s']) ++ c := by simp
    have e2 : (A.length + 1) * 1 = (a ++ [s']).length := by simp [ha]
    rw [e1, e2, List.take_left', List.drop_left']
    · simp
    · rfl
    · rfl
  rw [eC] at hr5
  obtain ⟨a', c', e, e2, hla, hlc⟩ := hT4.2.2.2.2.1.cut
  obtain ⟨rfl, rfl⟩ : a' = a ∧ c' = s' :: c := by
    have := List.append_inj e (by omega)
    exact ⟨this.1.symm, this.2.symm⟩
  have hss4 : ∀ x ∈ a' ++ s' :: c, Ap v2 x := fun x hx b hb hxb => by
    obtain ⟨hb1, hb3⟩ := hr2.lt b hb
    have hcase : x ∈ a' ++ .slice (some ⟨g, 0, none⟩) l.length k :: c ∨ x = s' := by
      simp at hx ⊢
      rcases hx with hx | hx | hx
      · exact .inl (.inl hx)
      · exact .inr hx
      · exact .inl (.inr (.inr hx))
    rcases hcase with hx | rfl
    · have := (hss x hx b hxb).2
      omega
    · rcases hu.2 with h9 | h9
      · rw [hxb] at h9
        have : b = g := by simpa [Value.ownBlock] using h9
        omega
      · have : W1.heap.size ≤ b := h9 b hxb
        omega
  obtain ⟨hT5, hE5⟩ := hT4.setRow (ss' := a' ++ s' :: v2 :: c) (ls' := A ++ l.take q :: l.drop q :: C) (by
    have e3 : (A ++ l.take q :: l.drop q :: C).length = (A ++ l.take q :: C).length + 1 := by simp; omega
    rw [e3]
    exact hr5) hu5 (hla.join ⟨hlc.1, hv2, hlc.2⟩) (ap_mid hT4.2.2.2.2.2 hss4)
  obtain ⟨va, vc, rfl, _⟩ := hr5.form
  have hbt4 := hT4.2.1
  have htr5 : some t ≠ (Value.slice (some ⟨rg, 0, none⟩) (A ++ l :: C).length lc).ownBlock := fun e => hrt (by simpa [Value.ownBlock] using e.symm)
  have hbt5 : Box w5 t 105 #[hx0, hx1, .slice (some ⟨rg, 0, none⟩) (A ++ l :: C).length lc, .int .i64 sz] := (hu5.1.block t hbt4.lt htr5).trans hbt4
  refine ⟨va, _, vc, rfl, by rw [hbt5.cell]; rfl, hbt5.free _, rfl, ?_, _, _, _, hT5.mono fun q hq => ?_, ?_, fun x hx => ?_⟩
  · have x1 : Ext B W W1.drew := Ext.below hb2.drew
    have x2 : Ext D W1.drew W3 := hE3.mono fun q hq => by rw [hD]; exact .inl hq
    have x3 : Ext D W3 W4 := Ext.below hb4
    have x5 := (x2.trans (x3.mono fun q hq => .inl hq)).trans (hE5.mono fun q hq => .inl hq)
    rw [hD] at x5
    exact x1.trans x5
  · have := hDD _ q (by have := hb4.size; omega) hq
    rw [hD] at this
    exact this
  · rw [List.flatten_append, List.flatten_append, List.flatten_cons, List.flatten_cons, List.flatten_cons, ← List.append_assoc (l.take q), List.take_append_drop]
  · rcases List.mem_append.1 hx with hx | hx
    · exact hne x (List.mem_append_left _ hx)
    · rcases List.mem_cons.1 hx with rfl | hx
      · intro e
        have := congrArg List.length e
        rw [List.length_take, Nat.min_eq_left (by omega), List.length_nil] at this
        omega
      · rcases List.mem_cons.1 hx with rfl | hx
        · intro e
          have := congrArg List.length e
          rw [List.length_drop, List.length_nil] at this
          omega
        · exact hne x (by simp [hx])

set_option maxHeartbeats 4000000 in
set_option maxRecDepth 100000 in
theorem split_yes [hd : Inhabited Hd] {B : Nat → Prop} {W : World} {t rg lc sz g k : Nat} {a c : List Value} {A C : List (List KV)} {l : List KV} (h : TreeOpen B W t (.slice (some ⟨rg, 0, none⟩) (A ++ l :: C).length lc) (a ++ .slice (some ⟨g, 0, none⟩) l.length k :: c) (A ++ l :: C) sz) (ha : a.length = A.length) (hne : ∀ x ∈ A ++ l :: C, x ≠ []) (hn9 : (A ++ l :: C).length ≤ 90000) (hl9 : l.length ≤ 90000) (hs : 64 < l.length) :
    Calls Try.prog 148 #[.pointer (some ⟨t, 2, none⟩), .int .i64 A.length] W (SplitP B W t (A ++ l :: C) sz) := by
  obtain ⟨h1, _, h2, hLf, h4, h5, h6, h8⟩ := h.at_ ha
  have hi : A.length < (A ++ l :: C).length := by simp
  obtain ⟨q, hq⟩ : ∃ q, q = l.length / 2 := ⟨_, rfl⟩
  have hq0 : 0 < q := by omega
  have hql : q < l.length := by omega
  have hqI : (l.length : Int) / 2 = (q : Int) := by omega
  obtain ⟨_, _, e, hk1, hk2⟩ := hLf.1.form
  injection e with e0 _ e
  subst e0
  subst e
  obtain ⟨g', e, _, hgl, hcells⟩ := hLf.1.at_ (by omega)
  injection e with e
  injection e with e
  subst e
  have hC : Hid (Calls Try.prog 178 #[.slice (some ⟨g, q * 2, none⟩) (l.length - q) (k - q)] W (tCc.ClnP W (l.length - q) (ecells (l.drop q)))) := Lib.hid (tCc.clone_any (by omega) (by omega) hgl (by rw [ecells_length, List.length_drop]) (fun j u hj => by
    rw [← ecells_drop, List.getElem?_drop] at hj
    exact hcells _ _ hj) (fun u hu => by
    rw [← ecells_drop] at hu
    exact hLf.1.2 u (List.mem_of_mem_drop hu)))
  have hc1 : Hid (∀ W1, Below W.heap.size W W1 → W1.cell? ⟨t, 2, none⟩ = some (.slice (some ⟨rg, 0, none⟩) (A ++ l :: C).length lc)) := Lib.hid fun W1 hb => (hb.cell (p := ⟨t, 2, none⟩) h8).trans h1
  have hD : Hid (∀ W1 v2, Below W.heap.size W W1 → RowK 184 2 W.heap.size W1 v2 (l.length - q) (ecells (l.drop q)) → Calls Try.prog 159 #[.slice (some ⟨g, 0, none⟩) l.length k, .int .i64 q, .int .i64 l.length] W1.drew fun e w2 =>
      ∃ sa sn sc, e = .returned (.slice sa sn sc) ∧ (w2.cell? ⟨t, 2, none⟩ = some (.slice (some ⟨rg, 0, none⟩) (A ++ l :: C).length lc) ∧ w2.cell? ⟨rg, A.length, none⟩ = some (.slice (some ⟨g, 0, none⟩) l.length k) ∧ w2.frozen? ⟨rg, A.length, none⟩ = false) ∧
        (w2.setCell ⟨rg, A.length, none⟩ (.slice sa sn sc)).cell? ⟨t, 2, none⟩ = some (.slice (some ⟨rg, 0, none⟩) (A ++ l :: C).length lc) ∧
        Hid (Calls Try.prog 179 #[.slice (some ⟨rg, 0, none⟩) (A ++ l :: C).length lc, .int .i64 ((A.length : Int) + 1), .slice (some ⟨w2.heap.size, 0, none⟩) 1 1] ((w2.setCell ⟨rg, A.length, none⟩ (.slice sa sn sc)).alloc (.cells #[v2] 185)) fun e w5 =>
          ∃ va n vc, e = .returned (.slice va n vc) ∧ (w5.cell? ⟨t, 2, none⟩).isSome = true ∧ w5.frozen? ⟨t, 2, none⟩ = false ∧ SplitP B W t (A ++ l :: C) sz (.returned (.tuple #[])) (w5.setCell ⟨t, 2, none⟩ (.slice va n vc)))) := Lib.hid fun W1 v2 hb hr2 => by
    refine (split_one h ha (by omega) hql hb).2.mono ?_
    rintro e w2 ⟨s', rfl, hrow, hu⟩
    obtain ⟨x1, x2, x3⟩ := split_two h ha hne hn9 hb hr2 hq0 hql hrow hu
    obtain ⟨sa, sc, rfl, _⟩ := hrow.form
    exact ⟨sa, _, sc, rfl, x1, x2, Lib.hid x3⟩
  obtain ⟨P, hP⟩ : ∃ P, P = SplitP B W t (A ++ l :: C) sz := ⟨_, rfl⟩
  rw [← hP] at hD ⊢
  obtain ⟨E, hE⟩ : ∃ E, E = ecells (l.drop q) := ⟨_, rfl⟩
  rw [← hE] at hC hD
  obtain ⟨i, hi2⟩ : ∃ i, i = A.length := ⟨_, rfl⟩
  obtain ⟨n, hn⟩ : ∃ n, n = (A ++ l :: C).length := ⟨_, rfl⟩
  obtain ⟨m, hm⟩ : ∃ m, m = l.length := ⟨_, rfl⟩
  rw [← hi2, ← hn, ← hm] at hD
  rw [← hm] at hC
  rw [← hn] at hc1
  rw [← hn] at h1 h4 hn9 hi
  rw [← hi2] at h2 hi ⊢
  rw [← hm] at h2 hs hql hqI hl9 hk1
  have hkq : ¬ (k = q) := by omega
  have hk63 : k ≤ 9223372036854775807 := by unfold maxLen at hk2; omega
  have hw1 : IntKind.i64.wrap ((i : Int) + 1) = (i : Int) + 1 := by rw [IntKind.wrap_i64]; omega
  have hil : i < lc := by omega
  have hqm : q ≤ m := by omega
  have hmk : m ≤ k := by omega
  clear hm hn hi2 hP hE hq h ha hne hcells hLf
  go_enter Try.func148, Try.ntmps148
  go_wp2_with fail
  refine hC.out.mono ?_
  rintro e W1 ⟨v2, rfl, hr2, hb2⟩
  have hc0 := hc1.out W1 hb2
  have HD := Lib.hid (hD.out W1 v2 hb2 hr2)
  obtain ⟨va, vc, rfl, _, _⟩ := hr2.form
  clear hr2 hb2 hC hc1 hD
  go_wp2_with fail
  go_region_with ((go_at_call 159; refine HD.out.mono ?_; rintro e w2 ⟨sa, sn, sc, rfl, ⟨y0, y1, y2⟩, y3, hI⟩))
  all_goals
    go_wp2_with fail
    refine hI.out.mono ?_
    rintro e w5 ⟨wa, wn, wc, rfl, z1, z2, hF⟩
    obtain ⟨zz, hz⟩ := Option.isSome_iff_exists.1 z1
    have HF := Lib.hid hF
    clear hF hI HD z1
    go_wp2
    go_end0
    exact HF.out



end Go.Proofs.Ytcebnoapgceodaa.tC
end

section
namespace Go.Proofs.Ytcebnoapgceodaa.tCE
open Go.RowKit Go.Lib

set_option linter.unusedVariables false

theorem infoE : (Try.prog.info? 184).map (fun i => (i.zero, i.size, i.bytes)) = some (some (.agg #[.string ⟨#[]⟩, .slice none 0 0]), 2, 40) := by kernel_rfl

def insC (cs : List Value) (i : Nat) (es : List Value) : List Value := cs.take (i * 2) ++ (es ++ cs.drop (i * 2))

def InsP (w : World) (B : Nat) (v : Value) (n : Nat) (cs : List Value) (e : Ending) (w' : World) : Prop := ∃ v', e = .returned v' ∧ RowK 184 2 B w' v' n cs ∧ Up w v w' v'

/-- a row behind an insert, by its block -/
theorem inserted {w' : World} {B n i G C : Nat} {cs es : List Value} {arr : Array Value} (hi : i ≤ n) (hcs : cs.length = n * 2) (hes : es.length = 2) (h1c : ∀ u ∈ cs, u.oneCell' = true) (h1e : ∀ u ∈ es, u.oneCell' = true)
    (hbox : Box w' G 184 arr) (hsz : arr.size = C * 2) (hC : n + 1 ≤ C) (hC2 : C ≤ maxLen) (hG : B ≤ G)
    (h1 : ∀ q, q < i * 2 → arr[q]? = cs[q]?) (h2 : ∀ q, q < 2 → arr[i * 2 + q]? = es[q]?) (h3 : ∀ q, q < (n - i) * 2 → arr[(i + 1) * 2 + q]? = cs[i * 2 + q]?) :
    RowK 184 2 B w' (.slice (some ⟨G, 0, none⟩) (n + 1) C) (n + 1) (insC cs i es) := by
  have htl : (cs.take (i * 2)).length = i * 2 := by rw [List.length_take]; omega
  refine RowK.mk hbox hsz hG hC hC2 ?_ (fun q hq => ?_) (fun u hu => ?_)
  · unfold insC
    rw [List.length_append, List.length_append, htl, hes, List.length_drop]
    omega
  · unfold insC
    by_cases a : q < i * 2
    · rw [List.getElem?_append_left (by omega), List.getElem?_take, if_pos a, h1 q a]
    · rw [List.getElem?_append_right (by omega), htl]
      by_cases b : q - i * 2 < 2
      · rw [List.getElem?_append_left (by omega), ← h2 _ b]
        congr 1
        omega
      · rw [List.getElem?_append_right (by omega), hes, List.getElem?_drop, ← h3 (q - i * 2 - 2) (by omega)]
        congr 1
        omega
  · unfold insC at hu
    rcases List.mem_append.1 hu with hu | hu
    · exact h1c u (List.mem_of_mem_take hu)
    · rcases List.mem_append.1 hu with hu | hu
      · exact h1e u hu
      · exact h1c u (List.mem_of_mem_drop hu)

abbrev TT := 185

set_option maxHeartbeats 4000000 in
set_option maxRecDepth 100000 in
/-- at the end -/
theorem ins_end {w : World} {B n vb : Nat} {vv : Value} {cs es : List Value} (hrow : RowK 184 2 B w vv n cs) (hn9 : n ≤ 100000) (hB : B ≤ w.heap.size) (hes : es.length = 2) (h1e : ∀ u ∈ es, u.oneCell' = true) (hv : Box w vb 184 es.toArray) :
    Calls Try.prog 147 #[vv, .int .i64 n, .slice (some ⟨vb, 0, none⟩) 1 1] w (InsP w B vv (n + 1) (insC cs n es)) := by
  obtain ⟨a, c, rfl, hc1, hc2⟩ := hrow.form
  obtain ⟨i, hi, hz, hi1, hi2⟩ := info_parts infoE
  have hcl := hrow.len
  have hnews : ∀ j u, es[j]? = some u → w.cell? ((⟨vb, 0, none⟩ : Addr).add j) = some u := by
    intro j u hj
    rw [addr_at, hv.cell]
    simpa using hj
  obtain ⟨v', w', hr, ho', hu⟩ := run_app (P := Try.prog) w B TT TT 184 i _ 2 40 Try.underlying185 hi hz hi1 hi2 rfl (by decide) _ n cs hrow.1 ⟨vb, 0, none⟩ 1 1 es (by omega) hnews h1e (by unfold maxLen; omega) (by omega) hB
  have hfin : RowK 184 2 B w' v' (n + 1) (insC cs n es) := by
    have e : insC cs n es = cs ++ es := by
      unfold insC
      rw [List.take_of_length_le (by omega), List.drop_of_length_le (by omega), List.append_nil]
    rw [e]
    refine ⟨ho', fun u hu => ?_⟩
    rcases List.mem_append.1 hu with hu | hu
    · exact hrow.2 u hu
    · exact h1e u hu
  have HF : Hid (InsP w B (.slice a n c) (n + 1) (insC cs n es) (.returned v') w') := Lib.hid ⟨v', rfl, hfin, hu⟩
  obtain ⟨va, vc, rfl, _, _⟩ := hfin.form
  have h48 : (n : Int) ≤ (c : Int) := by omega
  have hc63 : (c : Int) ≤ 9223372036854775807 := by unfold maxLen at hc2; omega
  have h01 : ¬ ((1 : Int) = 0) := by omega
  clear hfin hu hcl hnews ho' hv hrow
  go_enter Try.func147, Try.ntmps147
  cases a with
  | none =>
    go_wp2_with (at_builtin; refine Lib.wpList_append_run _ rfl _ _ _ _ rfl _ _ rfl rfl _ _ hr ?_)
    go_ret
    exact HF.out
  | some ad =>
    obtain ⟨ab, ao, asp⟩ := ad
    go_wp2_with (at_builtin; refine Lib.wpList_append_run _ rfl _ _ _ _ rfl _ _ rfl rfl _ _ hr ?_)
    all_goals (go_ret; exact HF.out)

set_option maxHeartbeats 4000000 in
set_option maxRecDepth 100000 in
/-- there is room -/
theorem ins_shift {w : World} {B n i c g vb : Nat} {cs fc : List Value} (hrow : RowK 184 2 B w (.slice (some ⟨g, 0, none⟩) n c) n cs) (hn9 : n ≤ 100000) (hi : i < n) (hroom : n + 1 ≤ c) (hvb : vb ≠ g)
    (hfl : fc.length = 2) (hone : ∀ u ∈ fc, u.oneCell' = true) (hv : Box w vb 184 fc.toArray) :
    Calls Try.prog 147 #[.slice (some ⟨g, 0, none⟩) n c, .int .i64 i, .slice (some ⟨vb, 0, none⟩) 1 1] w (InsP w B (.slice (some ⟨g, 0, none⟩) n c) (n + 1) (insC cs i fc)) := by
  obtain ⟨ti, hti, hz, hi1, hi2⟩ := info_parts infoE
  have hsz : (Try.prog.info? 184).map (·.size) = some 2 := by rw [hti]; simp [hi1]
  obtain ⟨cur, hbox, hcz, hgB, _, hcm, hcq⟩ := hrow.parts
  have hcl := hrow.len
  have honc := hrow.2
  have hc63 : c ≤ 9223372036854775807 := by unfold maxLen at hcm; omega
  obtain ⟨c1, hc1⟩ : ∃ c1, c1 = cs.drop (i * 2) := ⟨_, rfl⟩
  have hc1l : c1.length = (n - i) * 2 := by rw [hc1, List.length_drop, hcl]; omega
  have hov : ∀ lb cb, (callFunc 176 #[.slice (some ⟨vb, 0, none⟩) 1 1, .slice (some ⟨g, (i + 1) * 2, none⟩) lb cb]).run Try.prog w = .ok (.value (.bool false)) w := fun lb cb => by
    rw [run_callFunc_extern Try.func176 (by kernel_rfl) (by kernel_rfl) (by kernel_rfl) (e := Extern.SlicesOverlaps.overlaps #[185, 185] #[4]) (by kernel_rfl),
      Lib.run_overlaps_apart w 185 4 184 Try.underlying185 2 (fun w => by simp [Go.sizeOf, typeInfo, hti, hi1]) ⟨vb, 0, none⟩ ⟨g, (i + 1) * 2, none⟩ 1 1 lb cb hvb 184 184 2 (c * 2) (by unfold Box at hv; simp [World.shape?, hv, hfl]) (by unfold Box at hbox; simp [World.shape?, hbox, hcz]) (by omega) (hv.free 0) (hv.free 2)]
    rfl
  have hcell : ∀ q, q < c * 2 → (w.cell? ⟨g, q, none⟩).isSome = true := fun q hq => by rw [hbox.cell, Array.getElem?_eq_getElem (by omega)]; rfl
  have hcp1 : ∀ ty dc sc, (Builtin.copy_ #[TT, TT] ty #[.slice (some ⟨g, (i + 1) * 2, none⟩) (n - i) dc, .slice (some ⟨g, i * 2, none⟩) (n + 1 - i) sc]).run Try.prog w.drew = .ok (goInt ((n - i : Nat) : Int)) (w.drew.setCells g ((i + 1) * 2) c1) := fun ty dc sc =>
    run_copy_cellsK w.drew _ _ ty 184 2 g ((i + 1) * 2) (n - i) dc ⟨g, i * 2, none⟩ (n + 1 - i) sc (n - i) c1 Try.underlying185 hsz (by simp only [Nat.min_def]; split <;> omega) hc1l
      (fun j v hj => by
        have e : ((⟨g, i * 2, none⟩ : Addr).add j) = ⟨g, i * 2 + j, none⟩ := by unfold Addr.add; by_cases h0 : j = 0 <;> simp [h0]
        rw [e]
        show w.cell? ⟨g, i * 2 + j, none⟩ = some v
        rw [hc1, List.getElem?_drop] at hj
        rw [hbox.cell, hcq _ (by have := (List.getElem?_eq_some_iff.1 hj).1; omega)]
        exact hj)
      (fun j hj => hcell _ (by omega)) (fun j hj => hbox.free _) (fun u hu => honc u (by rw [hc1] at hu; exact List.mem_of_mem_drop hu))
  obtain ⟨W1, hW1⟩ : ∃ W1, W1 = w.drew.setCells g ((i + 1) * 2) c1 := ⟨_, rfl⟩
  have hboxD : Box w.drew g 184 cur := hbox
  have hvD : Box w.drew vb 184 fc.toArray := hv
  have hb1 : Box W1 g 184 (aset cur ((i + 1) * 2) c1) := by rw [hW1, setCells_sets]; exact hboxD.sets c1 _
  have hv1 : Box W1 vb 184 fc.toArray := by rw [hW1, setCells_sets]; exact (sets_far c1 w.drew _ vb hvb).trans hvD
  have hcp2 : ∀ (W : World), (∀ x, W.cell? x = W1.cell? x) → (∀ x, W.frozen? x = W1.frozen? x) → ∀ ty dc, (Builtin.copy_ #[TT, TT] ty #[.slice (some ⟨g, i * 2, none⟩) (n + 1 - i) dc, .slice (some ⟨vb, 0, none⟩) 1 1]).run Try.prog W = .ok (goInt ((1 : Nat) : Int)) (W.setCells g (i * 2) fc) := fun W hWc hWf ty dc =>
    run_copy_cellsK W _ _ ty 184 2 g (i * 2) (n + 1 - i) dc ⟨vb, 0, none⟩ 1 1 1 fc Try.underlying185 hsz (by simp only [Nat.min_def]; split <;> omega) (by omega)
      (fun j v hj => by
        have e : ((⟨vb, 0, none⟩ : Addr).add j) = ⟨vb, j, none⟩ := by unfold Addr.add; by_cases h0 : j = 0 <;> simp [h0]
        rw [e, hWc, hv1.cell]
        simpa using hj)
      (fun j hj => by rw [hWc, hb1.cell, Array.getElem?_eq_getElem (by rw [aset_size]; omega)]; rfl) (fun j hj => by rw [hWf]; exact hb1.free _) hone
  have hfin : Hid (∀ W : World, W.heap = W1.heap → W.os = w.os → W.tape = w.tape → W.output = w.output → InsP w B (.slice (some ⟨g, 0, none⟩) n c) (n + 1) (insC cs i fc) (.returned (.slice (some ⟨g, 0, none⟩) (n + 1) c)) (W.setCells g (i * 2) fc)) := Lib.hid fun W hh ho ht hp => by
    rw [setCells_sets]
    have hbW : Box W g 184 (aset cur ((i + 1) * 2) c1) := by unfold Box; rw [hh]; exact hb1
    have hb2 := hbW.sets fc (i * 2)
    have hfar : ∀ q, q ≠ g → (sets W g (i * 2) fc).heap[q]? = w.heap[q]? := fun q hq => by
      rw [sets_far _ _ _ _ hq, hh, hW1, setCells_sets, sets_far _ _ _ _ hq]; rfl
    have hsize : (sets W g (i * 2) fc).heap.size = w.heap.size := by rw [sets_size, hh, hW1, setCells_sets, sets_size]; rfl
    have hbel := Below.sets fc (i * 2) (Below.refl 0 W) (g := g) (Nat.zero_le _)
    refine ⟨_, rfl, ?_, ⟨hbel.os.trans ho, hbel.tape.trans ht, hbel.output.trans hp, by rw [hsize]; exact Nat.le_refl _, fun q _ hne => hfar q fun e => hne (by rw [e]; rfl)⟩, .inl rfl⟩
    refine inserted (by omega) hcl hfl honc hone hb2 (by rw [aset_size, aset_size, hcz]) hroom hcm hgB ?_ ?_ ?_
    · intro q hq
      rw [aset_far _ _ _ _ (by omega), aset_far _ _ _ _ (by omega)]
      exact hcq q (by omega)
    · intro q hq
      rw [List.getElem?_eq_getElem (by omega)]
      exact aset_get fc _ (i * 2) (by rw [aset_size]; omega) q _ (List.getElem?_eq_getElem (by omega))
    · intro q hq
      rw [aset_far _ _ _ _ (by omega)]
      have h9 : q < c1.length := by omega
      have := aset_get c1 cur ((i + 1) * 2) (by omega) q _ (List.getElem?_eq_getElem h9)
      rw [this, ← List.getElem?_eq_getElem h9, hc1, List.getElem?_drop]
  have hww : Hid (W1.os = w.os ∧ W1.tape = w.tape ∧ W1.output = w.output) := Lib.hid (by
    have hbel := Below.sets c1 ((i + 1) * 2) (Below.refl 0 w.drew) (g := g) (Nat.zero_le _)
    rw [hW1, setCells_sets]
    exact ⟨hbel.os, hbel.tape, hbel.output⟩)
  have mixed : Try.prog.follows Departure.mixedOrders = true := by kernel_rfl
  have hw1 : IntKind.i64.wrap ((i : Int) + (1 : Int)) = (i : Int) + (1 : Int) := by rw [IntKind.wrap_i64]; omega
  have hz1 : ¬ ((1 : Int) = 0) := by omega
  have hz2 : ¬ ((i : Int) = (n : Int)) := by omega
  have hb1' : (0 : Int) ≤ (i : Int) + (1 : Int) := by omega
  have hin : i ≤ n := by omega
  have htn : ((i : Int) + (1 : Int)).toNat = i + 1 := by omega
  have hb2' : ¬ (c = i + 1) := by omega
  have hb3 : (i : Int) ≤ (n : Int) + (1 : Int) := by omega
  have hb4 : ¬ (c = i) := by omega
  rw [← hW1] at hcp1
  clear hcq honc hone hcell hboxD hvD hb1 hv1 hc1l hbox hcz hW1 hc1 hv hrow hfl hcl hgB hcm hti hz hi1 hi2 hsz
  go_enter Try.func147, Try.ntmps147
  go_wp2_with (simp only [hov])
  go_region_law_o (refine Go.Proofs.step_copy_runI rfl _ _ TT TT rfl _ _ (by simp [Act.eval, Act.put]) (by simp [Act.eval, Act.put]) (hcp1 _ _ _) ?_)
  have HD0 := Lib.hid (hfin.out W1 rfl hww.out.1 hww.out.2.1 hww.out.2.2)
  clear hfin hww hcp1 hov
  go_wp2_with (at_builtin; refine Go.Proofs.wpList_copy_runI _ rfl _ _ TT TT rfl _ _ rfl rfl (hcp2 _ (fun _ => rfl) (fun _ => rfl) _ _) ?_)
  go_ret
  exact HD0.out

set_option maxHeartbeats 4000000 in
set_option maxRecDepth 100000 in
/-- there is no room -/
theorem ins_grow {w : World} {B n i c g vb : Nat} {cs fc : List Value} (hrow : RowK 184 2 B w (.slice (some ⟨g, 0, none⟩) n c) n cs) (hn9 : n ≤ 100000) (hi : i < n) (hroom : c < n + 1) (hB : B ≤ w.heap.size)
    (hfl : fc.length = 2) (hone : ∀ u ∈ fc, u.oneCell' = true) (hv : Box w vb 184 fc.toArray) :
    Calls Try.prog 147 #[.slice (some ⟨g, 0, none⟩) n c, .int .i64 i, .slice (some ⟨vb, 0, none⟩) 1 1] w (InsP w B (.slice (some ⟨g, 0, none⟩) n c) (n + 1) (insC cs i fc)) := by
  obtain ⟨ti, hti, hz, hi1, hi2⟩ := info_parts infoE
  have hsz : (Try.prog.info? 184).map (·.size) = some 2 := by rw [hti]; simp [hi1]
  obtain ⟨cur, hbox, hcz, hgB, hnc, hcm, hcq⟩ := hrow.parts
  have hcl := hrow.len
  have honc := hrow.2
  have hc63 : c ≤ 9223372036854775807 := by unfold maxLen at hcm; omega
  obtain ⟨c1, hc1⟩ : ∃ c1, c1 = cs.drop (i * 2) := ⟨_, rfl⟩
  have hc1l : c1.length = (n - i) * 2 := by rw [hc1, List.length_drop, hcl]; omega
  have hgw := hbox.lt
  have hvw := hv.lt
  obtain ⟨zz, hzz⟩ : ∃ zz : Value, zz = .agg #[.string ⟨#[]⟩, .slice none 0 0] := ⟨_, rfl⟩
  rw [← hzz] at hz
  have hzc : zz.cells.size = 2 := by rw [hzz]; rfl
  have hold0 : (Builtin.firstCells ti.size i (.slice (some ⟨g, 0, none⟩) i c)).run Try.prog w.drew = .ok (cs.take (i * 2)).toArray w.drew := by
    rw [hi1]
    exact run_firstCells_some w.drew 2 i ⟨g, 0, none⟩ i c (cs.take (i * 2)) (by rw [List.length_take, hcl]; omega) (fun j v hj => by
      have e : ((⟨g, 0, none⟩ : Addr).add j) = ⟨g, j, none⟩ := by unfold Addr.add; by_cases h0 : j = 0 <;> simp [h0]
      rw [e]
      show w.cell? ⟨g, j, none⟩ = some v
      rw [List.getElem?_take] at hj
      split at hj
      · rw [hbox.cell, hcq _ (by omega)]; exact hj
      · cases hj)
  have hkk : (n : Int) + (1 : Int) - (i : Int) = ((n + 1 - i : Nat) : Int) := by omega
  have hik : i + (n + 1 - i) = n + 1 := by omega
  obtain ⟨G, hG⟩ : ∃ G, G = grownCap w (n + 1) c 184 := ⟨_, rfl⟩
  have hGn : n + 1 ≤ G := by rw [hG]; exact grownCap_ge w _ _ _
  have hGm : G ≤ maxLen := by rw [hG]; exact grownCap_le_maxLen w (n + 1) c 184 (by unfold maxLen; omega)
  obtain ⟨ROW, hROW⟩ : ∃ ROW : Array Value, ROW = (cs.take (i * 2)).toArray ++ Builtin.zeroCells zz.cells (n + 1 - i) ++ Builtin.zeroCells zz.cells (G - (n + 1)) := ⟨_, rfl⟩
  have hrz : ∀ ty, (Builtin.append_ #[TT, 3] ty #[.slice (some ⟨g, 0, none⟩) i c, .int .i64 ((n : Int) + (1 : Int) - (i : Int))]).run Try.prog w =
      .ok (.slice (some ⟨w.heap.size, 0, none⟩) (n + 1) G) (w.drew.alloc (.cells ROW 184)) := fun ty => by
    have h := Lib.run_append_grow_zeros (P := Try.prog) w TT 3 ty 184 ti zz .i64 .i64 Try.underlying185 Try.underlying3 hti hz (some ⟨g, 0, none⟩) i c (cs.take (i * 2)) hold0 (n + 1 - i) (by omega) (by omega) (by omega) (by omega) (by rw [hi2]; omega) (by rw [hi2, hik]; exact growslice_fits hroom (by omega))
    rw [hik] at h
    rw [hkk, hROW, hG]
    exact h
  have hRsz : ROW.size = G * 2 := by
    rw [hROW]
    simp only [Array.size_append, List.size_toArray, List.length_take, hcl]
    rw [size_zeroCells, size_zeroCells, hzc]
    omega
  have hR1 : ∀ q, q < i * 2 → ROW[q]? = cs[q]? := fun q hq => by
    rw [hROW, Array.append_assoc, Array.getElem?_append_left (by simp [hcl]; omega), List.getElem?_toArray, List.getElem?_take, if_pos hq]
  obtain ⟨W1, hW1⟩ : ∃ W1, W1 = w.drew.alloc (.cells ROW 184) := ⟨_, rfl⟩
  rw [← hW1] at hrz
  have hN : Box W1 w.heap.size 184 ROW := by rw [hW1]; exact Box.new w.drew _ _
  have hfar1 : ∀ q, q < w.heap.size → W1.heap[q]? = w.heap[q]? := fun q hq => by rw [hW1]; exact Below.heap_alloc w.drew _ q hq
  have hsz1 : W1.heap.size = w.heap.size + 1 := by
    rw [hW1]
    generalize hd : w.drew = wd
    have : wd.heap.size = w.heap.size := by rw [← hd]; rfl
    rw [← this]
    simp
  have hv1 : Box W1 vb 184 fc.toArray := (hfar1 vb hvw).trans hv
  have hcpA : ∀ (W : World), (∀ x, W.cell? x = W1.cell? x) → (∀ x, W.frozen? x = W1.frozen? x) → ∀ ty dc, (Builtin.copy_ #[TT, TT] ty #[.slice (some ⟨w.heap.size, i * 2, none⟩) (n + 1 - i) dc, .slice (some ⟨vb, 0, none⟩) 1 1]).run Try.prog W = .ok (goInt ((1 : Nat) : Int)) (W.setCells w.heap.size (i * 2) fc) := fun W hWc hWf ty dc =>
    run_copy_cellsK W _ _ ty 184 2 w.heap.size (i * 2) (n + 1 - i) dc ⟨vb, 0, none⟩ 1 1 1 fc Try.underlying185 hsz (by simp only [Nat.min_def]; split <;> omega) (by omega)
      (fun j v hj => by
        have e : ((⟨vb, 0, none⟩ : Addr).add j) = ⟨vb, j, none⟩ := by unfold Addr.add; by_cases h0 : j = 0 <;> simp [h0]
        rw [e, hWc, hv1.cell]
        simpa using hj)
      (fun j hj => by rw [hWc, hN.cell, Array.getElem?_eq_getElem (by omega)]; rfl) (fun j hj => by rw [hWf]; exact hN.free _) hone
  obtain ⟨W2, hW2⟩ : ∃ W2, W2 = W1.setCells w.heap.size (i * 2) fc := ⟨_, rfl⟩
  have hN2 : Box W2 w.heap.size 184 (aset ROW (i * 2) fc) := by rw [hW2, setCells_sets]; exact hN.sets fc _
  have hg2 : Box W2 g 184 cur := by rw [hW2, setCells_sets]; exact (sets_far fc W1 _ g (by omega)).trans ((hfar1 g hgw).trans hbox)
  have hcpB : ∀ (W : World), (∀ x, W.cell? x = W2.cell? x) → (∀ x, W.frozen? x = W2.frozen? x) → ∀ ty dc sc, (Builtin.copy_ #[TT, TT] ty #[.slice (some ⟨w.heap.size, (i + 1) * 2, none⟩) (n - i) dc, .slice (some ⟨g, i * 2, none⟩) (n - i) sc]).run Try.prog W = .ok (goInt ((n - i : Nat) : Int)) (W.setCells w.heap.size ((i + 1) * 2) c1) := fun W hWc hWf ty dc sc =>
    run_copy_cellsK W _ _ ty 184 2 w.heap.size ((i + 1) * 2) (n - i) dc ⟨g, i * 2, none⟩ (n - i) sc (n - i) c1 Try.underlying185 hsz (by simp only [Nat.min_def]; split <;> omega) hc1l
      (fun j v hj => by
        have e : ((⟨g, i * 2, none⟩ : Addr).add j) = ⟨g, i * 2 + j, none⟩ := by unfold Addr.add; by_cases h0 : j = 0 <;> simp [h0]
        rw [e, hWc, hg2.cell]
        rw [hc1, List.getElem?_drop] at hj
        rw [hcq _ (by have := (List.getElem?_eq_some_iff.1 hj).1; omega)]
        exact hj)
      (fun j hj => by rw [hWc, hN2.cell, Array.getElem?_eq_getElem (by rw [aset_size]; omega)]; rfl) (fun j hj => by rw [hWf]; exact hN2.free _) (fun u hu => honc u (by rw [hc1] at hu; exact List.mem_of_mem_drop hu))
  have hfin : Hid (∀ W : World, W.heap = W2.heap → W.os = w.os → W.tape = w.tape → W.output = w.output → InsP w B (.slice (some ⟨g, 0, none⟩) n c) (n + 1) (insC cs i fc) (.returned (.slice (some ⟨w.heap.size, 0, none⟩) (n + 1) G)) (W.setCells w.heap.size ((i + 1) * 2) c1)) := Lib.hid fun W hh ho ht hp => by
    rw [setCells_sets]
    have hbW : Box W w.heap.size 184 (aset ROW (i * 2) fc) := by unfold Box; rw [hh]; exact hN2
    have hb2 := hbW.sets c1 ((i + 1) * 2)
    have hfar : ∀ q, q < w.heap.size → (sets W w.heap.size ((i + 1) * 2) c1).heap[q]? = w.heap[q]? := fun q hq => by
      rw [sets_far _ _ _ _ (by omega), hh, hW2, setCells_sets, sets_far _ _ _ _ (by omega)]; exact hfar1 q hq
    have hsize : (sets W w.heap.size ((i + 1) * 2) c1).heap.size = w.heap.size + 1 := by rw [sets_size, hh, hW2, setCells_sets, sets_size]; exact hsz1
    have hbel := Below.sets c1 ((i + 1) * 2) (Below.refl 0 W) (g := w.heap.size) (Nat.zero_le _)
    refine ⟨_, rfl, ?_, ⟨hbel.os.trans ho, hbel.tape.trans ht, hbel.output.trans hp, by rw [hsize]; omega, fun q hq _ => hfar q hq⟩, .inr fun k hk => by
      have : w.heap.size = k := by simpa [Value.ownBlock] using hk
      omega⟩
    refine inserted (by omega) hcl hfl honc hone hb2 (by rw [aset_size, aset_size, hRsz]) hGn hGm hB ?_ ?_ ?_
    · intro q hq
      rw [aset_far _ _ _ _ (by omega), aset_far _ _ _ _ (by omega)]
      exact hR1 q hq
    · intro q hq
      rw [aset_far _ _ _ _ (by omega), List.getElem?_eq_getElem (by omega)]
      exact aset_get fc _ (i * 2) (by omega) q _ (List.getElem?_eq_getElem (by omega))
    · intro q hq
      have h9 : q < c1.length := by omega
      have := aset_get c1 (aset ROW (i * 2) fc) ((i + 1) * 2) (by rw [aset_size]; omega) q _ (List.getElem?_eq_getElem h9)
      rw [this, ← List.getElem?_eq_getElem h9, hc1, List.getElem?_drop]
  have hww : Hid (W2.os = w.os ∧ W2.tape = w.tape ∧ W2.output = w.output) := Lib.hid (by
    have hbel := Below.sets fc (i * 2) (Below.refl 0 W1) (g := w.heap.size) (Nat.zero_le _)
    rw [hW2, setCells_sets]
    rw [hW1] at hbel ⊢
    exact ⟨hbel.os, hbel.tape, hbel.output⟩)
  have mixed : Try.prog.follows Departure.mixedOrders = true := by kernel_rfl
  have hw1 : IntKind.i64.wrap ((i : Int) + (1 : Int)) = (i : Int) + (1 : Int) := by rw [IntKind.wrap_i64]; omega
  have hz1 : ¬ ((1 : Int) = 0) := by omega
  have hz2 : ¬ ((i : Int) = (n : Int)) := by omega
  have hz3 : (c : Int) < (n : Int) + (1 : Int) := by omega
  have hb1' : (0 : Int) ≤ (i : Int) + (1 : Int) := by omega
  have hin : i ≤ n := by omega
  have htn : ((i : Int) + (1 : Int)).toNat = i + 1 := by omega
  have hb3 : (i : Int) ≤ (n : Int) := by omega
  have hG63 : G ≤ 9223372036854775807 := by unfold maxLen at hGm; omega
  have hGi : ¬ (G = i) := by omega
  have hGim : ¬ (G = i + 1) := by omega
  have hci : ¬ (c = i) := by omega
  have hE1 : ∀ x, ((w.alloc (.cells ROW 184)).drew).cell? x = W1.cell? x := by rw [hW1]; exact fun x => rfl
  have hE2 : ∀ x, ((w.alloc (.cells ROW 184)).drew).frozen? x = W1.frozen? x := by rw [hW1]; exact fun x => rfl
  have hF1 : ∀ x, (((w.alloc (.cells ROW 184)).drew.setCells w.heap.size (i * 2) fc).drew).cell? x = W2.cell? x := by rw [hW2, hW1]; exact fun x => rfl
  have hF2 : ∀ x, (((w.alloc (.cells ROW 184)).drew.setCells w.heap.size (i * 2) fc).drew).frozen? x = W2.frozen? x := by rw [hW2, hW1]; exact fun x => rfl
  have hEW : W2.heap = (((w.alloc (.cells ROW 184)).drew.setCells w.heap.size (i * 2) fc).drew).heap := by rw [hW2, hW1]; rfl
  have HD1 : Hid (InsP w B (.slice (some ⟨g, 0, none⟩) n c) (n + 1) (insC cs i fc) (.returned (.slice (some ⟨w.heap.size, 0, none⟩) (n + 1) G)) ((((w.alloc (.cells ROW 184)).drew.setCells w.heap.size (i * 2) fc).drew).setCells w.heap.size ((i + 1) * 2) c1)) := Lib.hid (hfin.out _ hEW.symm (by rw [← hww.out.1, hW2, hW1]; rfl) (by rw [← hww.out.2.1, hW2, hW1]; rfl) (by rw [← hww.out.2.2, hW2, hW1]; rfl))
  subst hW2
  subst hW1
  clear hfin hww hEW hcq honc hone hv1 hc1l hbox hcz hc1 hv hrow hfl hcl hgB hcm hti hz hi1 hi2 hsz hN hN2 hg2 hfar1 hsz1 hR1 hRsz hROW hG hzz hzc hold0 hkk hik hGm
  go_enter Try.func147, Try.ntmps147
  go_wp2_with (first
    | (at_builtin; refine Lib.wpList_append_run _ rfl _ _ _ _ rfl _ _ rfl rfl _ _ (hrz _) ?_)
    | (at_builtin; refine Go.Proofs.wpList_copy_runI _ rfl _ _ TT TT rfl _ _ rfl rfl (hcpA _ hE1 hE2 _ _) ?_)
    | (at_builtin; refine Go.Proofs.wpList_copy_runI _ rfl _ _ TT TT rfl _ _ rfl rfl (hcpB _ (fun _ => rfl) (fun _ => rfl) _ _ _) ?_))
  go_region_law_o (refine Go.Proofs.step_copy_runI rfl _ _ TT TT rfl (.slice (some ⟨w.heap.size, (i + 1) * 2, none⟩) (n - i) (G - (i + 1))) (.slice (some ⟨g, i * 2, none⟩) (n - i) (c - i)) (by simp [Act.eval, Act.put]) (by simp [Act.eval, Act.put]) (hcpB _ hF1 hF2 _ _ _) ?_)
  clear hcpA hcpB hrz hE1 hE2 hF1 hF2
  go_wp2
  go_ret
  exact HD1.out

/-- of whatever row -/
theorem ins_any {w : World} {B n i vb : Nat} {vv : Value} {cs es : List Value} (hrow : RowK 184 2 B w vv n cs) (hn9 : n ≤ 100000) (hi : i ≤ n) (hB : B ≤ w.heap.size) (hvb : vv.ownBlock ≠ some vb) (hes : es.length = 2) (h1e : ∀ u ∈ es, u.oneCell' = true) (hv : Box w vb 184 es.toArray) :
    Calls Try.prog 147 #[vv, .int .i64 i, .slice (some ⟨vb, 0, none⟩) 1 1] w (InsP w B vv (n + 1) (insC cs i es)) := by
  by_cases he : i = n
  · subst he
    exact ins_end hrow hn9 hB hes h1e hv
  · obtain ⟨a, c, rfl, hc1, hc2⟩ := hrow.form
    obtain ⟨g, rfl, _⟩ := hrow.at_ (by omega)
    by_cases hr : n + 1 ≤ c
    · exact ins_shift hrow hn9 (by omega) hr (fun e => hvb (by rw [e]; rfl)) hes h1e hv
    · exact ins_grow hrow hn9 (by omega) (by omega) hB hes h1e hv

end Go.Proofs.Ytcebnoapgceodaa.tCE
end

section
namespace Go.Proofs.Ytcebnoapgceodaa.tCRd
open Go.RowKit Go.Lib

set_option linter.unusedVariables false

theorem infoE : (Try.prog.info? 185).map (fun i => (i.zero, i.size, i.bytes)) = some (some (.slice none 0 0), 1, 24) := by kernel_rfl

theorem run_clearK {P : Program} (w : World) (t e ty : TypeId) (z : Value) (ht : P.underlying t = some (.slice e)) (hv : ∀ w, (zeroValue e).run P w = .ok z w) (h1 : ∀ u ∈ z.cells, u.oneCell' = true) (b o n c : Nat) (hn : 0 < n)
    (hc : ∀ j, j < n * z.cells.size → (w.cell? ⟨b, o + j, none⟩).isSome = true) (hf : ∀ j, j < n * z.cells.size → w.frozen? ⟨b, o + j, none⟩ = false) :
    (Builtin.clear_ #[t] ty #[.slice (some ⟨b, o, none⟩) n c]).run P w = .ok (.tuple #[]) (w.setCells b o (Builtin.zeroCells z.cells n).toList) := by
  have hl : (Builtin.zeroCells z.cells n).toList.length = n * z.cells.size := by rw [Array.length_toList, size_zeroCells]
  have hst := run_storeCells_cells (P := P) b o (Builtin.zeroCells z.cells n).toList 0 w (by rw [hl]; simpa using hc) (by rw [hl]; simpa using hf) (by
    intro v hv'
    unfold Builtin.zeroCells at hv'
    simp only [Array.toList_map, List.mem_map] at hv'
    obtain ⟨q, hq, rfl⟩ := hv'
    rw [Array.mem_toList_iff, Array.mem_range] at hq
    have h0 : 0 < z.cells.size := by
      rcases Nat.eq_zero_or_pos z.cells.size with h | h
      · rw [h, Nat.mul_zero] at hq; omega
      · exact h
    have hlt := Nat.mod_lt q h0
    rw [getElem!_pos z.cells _ hlt]
    exact h1 _ (Array.getElem_mem hlt))
  simp only [Nat.add_zero] at hst
  obtain ⟨m, rfl⟩ : ∃ m, n = m + 1 := ⟨n - 1, by omega⟩
  simp [Builtin.clear_, run_underlying ht, hv, hst]

def delC (cs : List Value) (i j : Nat) : List Value := cs.take (i * 1) ++ cs.drop (j * 1)

def DelP (w : World) (B : Nat) (v : Value) (n : Nat) (cs : List Value) (e : Ending) (w' : World) : Prop := ∃ v', e = .returned v' ∧ RowK 185 1 B w' v' n cs ∧ Up w v w' v'

abbrev TT := 101

set_option maxHeartbeats 4000000 in
set_option maxRecDepth 100000 in
theorem del_any {w : World} {B n i j g c : Nat} {cs : List Value} (hrow : RowK 185 1 B w (.slice (some ⟨g, 0, none⟩) n c) n cs) (hn9 : n ≤ 100000) (hij : i < j) (hj : j ≤ n) :
    Calls Try.prog 160 #[.slice (some ⟨g, 0, none⟩) n c, .int .i64 i, .int .i64 j] w (DelP w B (.slice (some ⟨g, 0, none⟩) n c) (i + (n - j)) (delC cs i j)) := by
  obtain ⟨ti, hti, hz, hi1, hi2⟩ := info_parts infoE
  obtain ⟨cur, hbox, hcz, hgB, hnc, hcm, hcq⟩ := hrow.parts
  have hcl' := hrow.len
  have hone := hrow.2
  have hm : c ≤ 9223372036854775807 := by unfold maxLen at hcm; omega
  have hbD : Box w.drew g 185 cur := hbox
  obtain ⟨news, hnews⟩ : ∃ news, news = cs.drop (j * 1) := ⟨_, rfl⟩
  have hlen : news.length = (n - j) * 1 := by rw [hnews, List.length_drop, hcl']; omega
  obtain ⟨A, hA, hsrc⟩ : ∃ A : Addr, (if c = j then some (⟨g, 0, none⟩ : Addr) else some ⟨g, j, none⟩) = some A ∧ Hid (∀ t u, news[t]? = some u → w.drew.cell? (A.add t) = some u) := by
    by_cases h : c = j
    · refine ⟨⟨g, 0, none⟩, by simp [h], Lib.hid fun t u hu => ?_⟩
      have h0 : news.length = 0 := by omega
      rw [List.length_eq_zero_iff.1 h0] at hu
      simp at hu
    · refine ⟨⟨g, j, none⟩, by simp [h], Lib.hid fun t u hu => ?_⟩
      rw [hnews, List.getElem?_drop] at hu
      have hl := (List.getElem?_eq_some_iff.1 hu).1
      rw [addr_off]
      show w.cell? _ = some u
      rw [hbox.cell, show j + t = j * 1 + t by omega, hcq _ (by omega)]
      exact hu
  have s1 : Hid (news.length = (n - j) * 1) := Lib.hid hlen
  have s2 : Hid (∀ u ∈ news, u.oneCell' = true) := Lib.hid fun u hu => hone u (by rw [hnews] at hu; exact List.mem_of_mem_drop hu)
  have s3 : Hid (∀ t, t < news.length → (w.drew.cell? ⟨g, 0 + i * 1 + t, none⟩).isSome = true ∧ w.drew.frozen? ⟨g, 0 + i * 1 + t, none⟩ = false) := Lib.hid fun t ht =>
    ⟨by rw [hbD.cell, Array.getElem?_eq_getElem (by omega)]; rfl, hbD.free _⟩
  obtain ⟨W1, hW1⟩ : ∃ W1, W1 = w.drew.setCells g (0 + i * 1) news := ⟨_, rfl⟩
  have hb1 : Box W1 g 185 (aset cur (0 + i * 1) news) := by rw [hW1, setCells_sets]; exact hbD.sets news _
  obtain ⟨zs, hzs⟩ : ∃ zs, zs = (Builtin.zeroCells (Value.cells (.slice none 0 0)) (n - (i + (n - j)))).toList := ⟨_, rfl⟩
  have hK : (Value.cells (.slice none 0 0)).size = 1 := rfl
  have hzl : zs.length = (n - (i + (n - j))) * 1 := by rw [hzs, Array.length_toList, size_zeroCells, hK]
  have hcl : ∀ ty, (Builtin.clear_ #[TT] ty #[.slice (some ⟨g, i + (n - j), none⟩) (n - (i + (n - j))) (c - (i + (n - j)))]).run Try.prog W1 = .ok (.tuple #[]) (W1.setCells g (i + (n - j)) zs) := fun ty => by
    rw [hzs]
    refine run_clearK W1 _ _ ty _ Try.underlying101 Try.zeroValue185 (by decide) g _ _ _ (by omega) (fun t ht => ?_) (fun t ht => hb1.free _)
    rw [hK] at ht
    rw [hb1.cell, Array.getElem?_eq_getElem (by rw [aset_size]; omega)]
    rfl
  have hfin : Hid (DelP w B (.slice (some ⟨g, 0, none⟩) n c) (i + (n - j)) (delC cs i j) (.returned (.slice (some ⟨g, 0, none⟩) (i + (n - j)) c)) (W1.setCells g (i + (n - j)) zs)) := Lib.hid (by
    rw [setCells_sets]
    have hb2 := hb1.sets zs (i + (n - j))
    have hfar : ∀ q, q ≠ g → (sets W1 g (i + (n - j)) zs).heap[q]? = w.heap[q]? := fun q hq => by
      rw [sets_far _ _ _ _ hq, hW1, setCells_sets, sets_far _ _ _ _ hq]; rfl
    have hsize : (sets W1 g (i + (n - j)) zs).heap.size = w.heap.size := by rw [sets_size, hW1, setCells_sets, sets_size]; rfl
    have hbel := Below.sets zs (i + (n - j)) (Below.sets news (0 + i * 1) (Below.refl 0 w.drew) (g := g) (Nat.zero_le _)) (g := g) (Nat.zero_le _)
    rw [← setCells_sets g news, ← hW1] at hbel
    refine ⟨_, rfl, ?_, ⟨hbel.os, hbel.tape, hbel.output, by rw [hsize]; exact Nat.le_refl _, fun q _ hne => hfar q fun e => hne (by rw [e]; rfl)⟩, .inl rfl⟩
    have htl : (cs.take (i * 1)).length = i * 1 := by rw [List.length_take]; omega
    refine RowK.mk hb2 (by rw [aset_size, aset_size, hcz]) hgB (by omega) hcm ?_ (fun q hq => ?_) (fun u hu => ?_)
    · unfold delC
      rw [List.length_append, htl, List.length_drop]
      omega
    · rw [aset_far _ _ _ _ (by omega)]
      unfold delC
      by_cases a : q < i * 1
      · rw [aset_far _ _ _ _ (by omega), List.getElem?_append_left (by omega), List.getElem?_take, if_pos a]
        exact hcq q (by omega)
      · rw [List.getElem?_append_right (by omega), htl, ← hnews]
        have h9 : q - i * 1 < news.length := by omega
        have := aset_get news cur (0 + i * 1) (by omega) (q - i * 1) _ (List.getElem?_eq_getElem h9)
        rw [show 0 + i * 1 + (q - i * 1) = q by omega] at this
        rw [this, ← List.getElem?_eq_getElem h9]
    · unfold delC at hu
      rcases List.mem_append.1 hu with hu | hu
      · exact hone u (List.mem_of_mem_take hu)
      · exact hone u (List.mem_of_mem_drop hu))
  have hW : Hid (W1 = w.drew.setCells g (0 + i * 1) news) := Lib.hid hW1
  have mixed : Try.prog.follows Departure.mixedOrders = true := by kernel_rfl
  have hic : i ≤ c := by omega
  have hjc : j ≤ c := by omega
  have hin : i ≤ n := by omega
  have hij2 : i ≤ j := by omega
  have hie : ¬ (c = i + (n - j)) := by omega
  have hle : i + (n - j) ≤ n := by omega
  have hle2 : i + (n - j) ≤ c := by omega
  clear hW1 hb1 hzs hzl hK hbD hlen hnews hone hcl' hrow hbox hcz hgB hcm hcq
  go_enter Try.func160, Try.ntmps160
  go_wp2_with fail
  go_region_law_o (refine step_append_room rfl (.tmp 22) (.tmp 25) TT rfl 185 ti 1 Try.underlying101 hti hi1 g 0 i c (by simp [Act.eval, Act.put]) A (n - j) (c - j) news (by simp [Act.eval, Act.put]) s1.out hsrc.out s2.out (by omega) s3.out ?_; rw [← hW.out])
  go_wp2
  go_ret
  exact hfin.out

end Go.Proofs.Ytcebnoapgceodaa.tCRd
end

section
namespace Go.Proofs.Ytcebnoapgceodaa.tC
open Go.RowKit

set_option linter.unusedVariables false
attribute [local irreducible] wpStill

/-- what join leaves: the same keys, and no fewer leaves than the one it began at -/
def JoinP [hd : Inhabited Hd] (B : Nat → Prop) (W : World) (t : Nat) (ls : List (List KV)) (sz : Nat) (i : Nat) (e : Ending) (W' : World) : Prop :=
  e = .returned (.tuple #[]) ∧ Ext B W W' ∧ ∃ rv ss ls', TreeOpen (Nu B W.heap.size) W' t rv ss ls' sz ∧ ls'.flatten = ls.flatten ∧ (∀ x ∈ ls', x ≠ []) ∧ i < ls'.length

theorem Ext.drew {B : Nat → Prop} {W W' : World} (h : Ext B W W') : Ext B W W'.drew := h

set_option maxHeartbeats 1000000 in
set_option maxRecDepth 100000 in
/-- no leaf behind it -/
theorem join_last [hd : Inhabited Hd] {B : Nat → Prop} {W : World} {t rg lc sz : Nat} {a : List Value} {s : Value} {A : List (List KV)} {l : List KV} (h : TreeOpen B W t (.slice (some ⟨rg, 0, none⟩) (A ++ l :: []).length lc) (a ++ s :: []) (A ++ l :: []) sz) (ha : a.length = A.length) (hne : ∀ x ∈ A ++ l :: [], x ≠ []) (hn9 : (A ++ l :: []).length ≤ 90000) :
    Calls Try.prog 161 #[.pointer (some ⟨t, 2, none⟩), .int .i64 A.length] W (JoinP B W t (A ++ l :: []) sz A.length) := by
  obtain ⟨h1, _, h2, _, h4, h5, h6, h7⟩ := h.at_ ha
  have HF := Lib.hid (show JoinP B W t (A ++ l :: []) sz A.length (.returned (.tuple #[])) W.drew from ⟨rfl, (Ext.refl B W).drew, _, _, _, h.keep fun q hq _ => ⟨rfl, .inl hq⟩, rfl, hne, by simp⟩)
  obtain ⟨i, hi2⟩ : ∃ i, i = A.length := ⟨_, rfl⟩
  obtain ⟨n, hn⟩ : ∃ n, n = (A ++ l :: []).length := ⟨_, rfl⟩
  have hni : n = i + 1 := by rw [hn, hi2]; simp
  obtain ⟨P, hP⟩ : ∃ P, P = JoinP B W t (A ++ l :: []) sz A.length := ⟨_, rfl⟩
  rw [← hP] at HF ⊢
  rw [← hn] at h1 hn9
  rw [← hi2] at h2 ⊢
  clear hn hi2 hP h ha hne h4 h5
  subst hni
  have hw : IntKind.i64.wrap ((i : Int) + 1) = (i : Int) + 1 := by rw [IntKind.wrap_i64]; omega
  have hneg : ¬ (i : Int) < 0 := by omega
  go_enter Try.func161, Try.ntmps161
  go_wp2_with fail
  refine wp_region_still_lit (by kernel_rfl) (by kernel_rfl) ?_
  change wpStill _ _ (World.drew _) (fun a' => _) _ _
  repeat still_step
  refine wpStill_nil ?_
  go_wp2
  go_end0
  exact HF.out

/-- what is read of an open tree at two leaves side by side -/
theorem TreeOpen.at_two [hd : Inhabited Hd] {B : Nat → Prop} {W : World} {t rg lc sz : Nat} {a c : List Value} {s sr : Value} {A C : List (List KV)} {l r : List KV} (h : TreeOpen B W t (.slice (some ⟨rg, 0, none⟩) (A ++ l :: r :: C).length lc) (a ++ s :: sr :: c) (A ++ l :: r :: C) sz) (ha : a.length = A.length) :
    W.cell? ⟨rg, A.length + 1, none⟩ = some sr ∧ LeafAt B W sr r := by
  have e1 : A ++ l :: r :: C = (A ++ [l]) ++ r :: C := by simp
  have e2 : a ++ s :: sr :: c = (a ++ [s]) ++ sr :: c := by simp
  rw [e1, e2] at h
  obtain ⟨_, _, c3, hL, _⟩ := h.at_ (by simp [ha])
  refine ⟨?_, hL⟩
  rw [show (A ++ [l]).length = A.length + 1 by simp] at c3
  exact c3

set_option maxHeartbeats 1000000 in
set_option maxRecDepth 100000 in
/-- two leaves with too many keys -/
theorem join_full [hd : Inhabited Hd] {B : Nat → Prop} {W : World} {t rg lc sz : Nat} {a c : List Value} {s sr : Value} {A C : List (List KV)} {l r : List KV} (h : TreeOpen B W t (.slice (some ⟨rg, 0, none⟩) (A ++ l :: r :: C).length lc) (a ++ s :: sr :: c) (A ++ l :: r :: C) sz) (ha : a.length = A.length) (hne : ∀ x ∈ A ++ l :: r :: C, x ≠ []) (hn9 : (A ++ l :: r :: C).length ≤ 90000) (hl9 : l.length ≤ 90000) (hr9 : r.length ≤ 90000) (hs : 32 < l.length + r.length) :
    Calls Try.prog 161 #[.pointer (some ⟨t, 2, none⟩), .int .i64 A.length] W (JoinP B W t (A ++ l :: r :: C) sz A.length) := by
  obtain ⟨h1, _, h2, hL, h4, h5, h6, h7⟩ := h.at_ ha
  obtain ⟨h3, hR⟩ := h.at_two ha
  obtain ⟨sa, sc, rfl, _⟩ := hL.1.form
  obtain ⟨ra, rc, rfl, _⟩ := hR.1.form
  have HF := Lib.hid (show JoinP B W t (A ++ l :: r :: C) sz A.length (.returned (.tuple #[])) W.drew from ⟨rfl, (Ext.refl B W).drew, _, _, _, h.keep fun q hq _ => ⟨rfl, .inl hq⟩, rfl, hne, by simp⟩)
  obtain ⟨i, hi2⟩ : ∃ i, i = A.length := ⟨_, rfl⟩
  obtain ⟨n, hn⟩ : ∃ n, n = (A ++ l :: r :: C).length := ⟨_, rfl⟩
  have hni : i + 1 < n := by rw [hn, hi2]; simp
  obtain ⟨P, hP⟩ : ∃ P, P = JoinP B W t (A ++ l :: r :: C) sz A.length := ⟨_, rfl⟩
  obtain ⟨m, hm⟩ : ∃ m, m = l.length := ⟨_, rfl⟩
  obtain ⟨k, hk⟩ : ∃ k, k = r.length := ⟨_, rfl⟩
  rw [← hP] at HF ⊢
  rw [← hn] at h1 hn9 h4
  rw [← hi2] at h2 h3 ⊢
  rw [← hm] at h2 hs hl9
  rw [← hk] at h3 hs hr9
  clear hn hi2 hP h ha hne h5 hL hR hm hk
  have hw : IntKind.i64.wrap ((i : Int) + 1) = (i : Int) + 1 := by rw [IntKind.wrap_i64]; omega
  have hw2 : IntKind.i64.wrap ((m : Int) + (k : Int)) = (m : Int) + (k : Int) := by rw [IntKind.wrap_i64]; omega
  have hneg : ¬ (i : Int) < 0 := by omega
  have hge : ¬ (n : Int) ≤ (i : Int) + 1 := by omega
  have hgt : (32 : Int) < (m : Int) + (k : Int) := by omega
  have htn : ((i : Int) + 1).toNat = i + 1 := by omega
  have hi0 : (0 : Int) ≤ (i : Int) + 1 := by omega
  have hil : (i : Int) < (n : Int) := by omega
  have hil2 : (i : Int) + 1 < (n : Int) := by omega
  go_enter Try.func161, Try.ntmps161
  go_wp2_with fail
  refine wp_region_still_lit (by kernel_rfl) (by kernel_rfl) ?_
  change wpStill _ _ (World.drew _) (fun a' => _) _ _
  repeat still_step
  refine wpStill_nil ?_
  go_wp2
  go_end0
  exact HF.out

def JoinNo (W : World) (e : Ending) (w' : World) : Prop := e = .returned (.tuple #[]) ∧ w' = W.drew

set_option maxHeartbeats 1000000 in
set_option maxRecDepth 100000 in
/-- ahead of the first leaf -/
theorem join_neg (W : World) (t : Nat) (z : Int) (hz : z < 0) (hz2 : -10 ≤ z) :
    Calls Try.prog 161 #[.pointer (some ⟨t, 2, none⟩), .int .i64 z] W (JoinNo W) := by
  have hw : IntKind.i64.wrap (z + 1) = z + 1 := by rw [IntKind.wrap_i64]; omega
  go_enter Try.func161, Try.ntmps161
  go_wp2_with fail
  refine wp_region_still_lit (by kernel_rfl) (by kernel_rfl) ?_
  change wpStill _ _ (World.drew _) (fun a' => _) _ _
  repeat still_step
  refine wpStill_nil ?_
  go_wp2
  go_end0
  exact ⟨rfl, rfl⟩

end Go.Proofs.Ytcebnoapgceodaa.tC
end

section
namespace Go.Proofs.Ytcebnoapgceodaa.tC
open Go.RowKit

set_option linter.unusedVariables false
attribute [local irreducible] wpStill

theorem join_glue [hd : Inhabited Hd] {B : Nat → Prop} {W : World} {t rg lc sz : Nat} {a c : List Value} {s sr : Value} {A C : List (List KV)} {l r : List KV} (h : TreeOpen B W t (.slice (some ⟨rg, 0, none⟩) (A ++ l :: r :: C).length lc) (a ++ s :: sr :: c) (A ++ l :: r :: C) sz) (ha : a.length = A.length) (hne : ∀ x ∈ A ++ l :: r :: C, x ≠ []) (hn9 : (A ++ l :: r :: C).length ≤ 90000) (hs : l.length + r.length ≤ 32) :
    ∃ va vn vc w', (Builtin.append_ #[185, 185] 185 #[s, sr]).run Try.prog W = .ok (.slice va vn vc) w' ∧
      (w'.cell? ⟨t, 2, none⟩ = some (.slice (some ⟨rg, 0, none⟩) (A ++ l :: r :: C).length lc) ∧ w'.cell? ⟨rg, A.length, none⟩ = some s ∧ w'.frozen? ⟨rg, A.length, none⟩ = false) ∧
      (w'.setCell ⟨rg, A.length, none⟩ (.slice va vn vc)).cell? ⟨t, 2, none⟩ = some (.slice (some ⟨rg, 0, none⟩) (A ++ l :: r :: C).length lc) ∧
      Hid (Calls Try.prog 160 #[.slice (some ⟨rg, 0, none⟩) (A ++ l :: r :: C).length lc, .int .i64 ((A.length : Int) + 1), .int .i64 ((A.length : Int) + 1 + 1)] (w'.setCell ⟨rg, A.length, none⟩ (.slice va vn vc)) fun e w5 =>
        ∃ xa xn xc, e = .returned (.slice xa xn xc) ∧ (w5.cell? ⟨t, 2, none⟩).isSome = true ∧ w5.frozen? ⟨t, 2, none⟩ = false ∧ JoinP B W t (A ++ l :: r :: C) sz A.length (.returned (.tuple #[])) (w5.setCell ⟨t, 2, none⟩ (.slice xa xn xc))) := by
  obtain ⟨c1, _, c2, hL, c4, _, hrg, htl⟩ := h.at_ ha
  obtain ⟨c3, hR⟩ := h.at_two ha
  obtain ⟨ra, rc, rfl, _⟩ := hR.1.form
  have hrne : r ≠ [] := hne r (by simp)
  obtain ⟨gr, rfl, _, _, hcells⟩ := hR.1.at_ (List.length_pos_iff.2 hrne)
  obtain ⟨ti, hti, hz, hi1, hi2⟩ := info_parts tCEd.infoE
  obtain ⟨v', w', hr, ho', hu⟩ := run_app (P := Try.prog) W 0 185 185 184 ti _ 2 40 Try.underlying185 hti hz hi1 hi2 rfl (by decide) s l.length (ecells l) hL.1.1 ⟨gr, 0, none⟩ r.length rc (ecells r) (ecells_length r) (fun j u hj => by rw [addr_at]; exact hcells j u hj) hR.1.2 (by unfold maxLen; omega) (by omega) (Nat.zero_le _)
  have hrow : RowK 184 2 0 w' v' (l ++ r).length (ecells (l ++ r)) := by
    rw [List.length_append, ecells_append]
    exact ⟨ho', fun u hu => (List.mem_append.1 hu).elim (hL.1.2 u) (hR.1.2 u)⟩
  obtain ⟨hT3, hE3⟩ := h.setLeaf ha hrow hu
  obtain ⟨va, vc, rfl, _⟩ := hrow.form
  have hsr : s.ownBlock ≠ some rg ∧ s.ownBlock ≠ some t := by
    constructor
    · intro e
      obtain ⟨arr, hq⟩ := rowk_box hL.1 e
      obtain ⟨arr2, hq2⟩ := rowk_box h.2.2.1 (g := rg) rfl
      exact box_ne hq hq2 (by decide) rfl
    · intro e
      obtain ⟨arr, hq⟩ := rowk_box hL.1 e
      exact box_ne hq h.2.1 (by decide) rfl
  have k1 := hu.1.block t htl fun e => hsr.2 e.symm
  have k2 := hu.1.block rg hrg fun e => hsr.1 e.symm
  obtain ⟨arr2, hq2⟩ := rowk_box h.2.2.1 (g := rg) rfl
  have hs1 := hu.1.size
  refine ⟨va, _, vc, w', hr, ⟨(World.cell?_of_block (a := ⟨t, 2, none⟩) k1).trans c1, (World.cell?_of_block (a := ⟨rg, A.length, none⟩) k2).trans c2, (World.frozen?_of_block (a := ⟨rg, A.length, none⟩) k2).trans (hq2.free _)⟩, ?_, ?_⟩
  · have d1 := hT3.2.1.cell 2
    simpa using d1
  obtain ⟨W3, hW3⟩ : ∃ W3, W3 = w'.setCell ⟨rg, A.length, none⟩ (.slice va (l ++ r).length vc) := ⟨_, rfl⟩
  rw [← hW3] at hT3 hE3 ⊢
  refine Lib.hid ?_
  have hlen3 : (A ++ l :: r :: C).length = (A ++ (l ++ r) :: r :: C).length := by simp
  rw [hlen3] at hT3
  have hd := tCRd.del_any (i := A.length + 1) (j := A.length + 2) hT3.2.2.1 (by rw [← hlen3]; omega) (by omega) (by simp)
  have e1 : ((A.length + 1 : Nat) : Int) = (A.length : Int) + 1 := by omega
  have e2 : ((A.length + 2 : Nat) : Int) = (A.length : Int) + 1 + 1 := by omega
  rw [e1, e2, ← hlen3] at hd
  refine hd.mono ?_
  rintro e w5 ⟨v5, rfl, hr5, hu5⟩
  have eC : tCRd.delC (a ++ .slice va (l ++ r).length vc :: .slice (some ⟨gr, 0, none⟩) r.length rc :: c) (A.length + 1) (A.length + 2) = a ++ .slice va (l ++ r).length vc :: c := by
    unfold tCRd.delC
    have e3 : a ++ .slice va (l ++ r).length vc :: .slice (some ⟨gr, 0, none⟩) r.length rc :: c = (a ++ [.slice va (l ++ r).length vc]) ++ ([.slice (some ⟨gr, 0, none⟩) r.length rc] ++ c) := by simp
    have e4 : (A.length + 1) * 1 = (a ++ [Value.slice va (l ++ r).length vc]).length := by simp [ha]
    have e5 : (A.length + 2) * 1 = ((a ++ [Value.slice va (l ++ r).length vc]) ++ [Value.slice (some ⟨gr, 0, none⟩) r.length rc]).length := by simp [ha]
    rw [e3, e4, List.take_left' rfl, ← List.append_assoc, e5, List.drop_left' rfl]
    simp
  rw [eC] at hr5
  have hcount : A.length + 1 + ((A ++ l :: r :: C).length - (A.length + 2)) = (A ++ (l ++ r) :: C).length := by simp; omega
  rw [hcount] at hr5
  obtain ⟨a', c', e, e6, hla, hlc⟩ := hT3.2.2.2.2.1.cut
  obtain ⟨rfl, rfl⟩ : a' = a ∧ c' = .slice va (l ++ r).length vc :: .slice (some ⟨gr, 0, none⟩) r.length rc :: c := by
    have := List.append_inj e (by omega)
    exact ⟨this.1.symm, this.2.symm⟩
  have hsub : (a' ++ .slice va (l ++ r).length vc :: c).Pairwise Ap := hT3.2.2.2.2.2.sublist (by
    refine List.Sublist.append (List.Sublist.refl _) ?_
    exact List.Sublist.cons_cons _ (List.Sublist.cons _ (List.Sublist.refl _)))
  rw [← hlen3] at hT3
  obtain ⟨hT5, hE5⟩ := hT3.setRow (ss' := a' ++ .slice va (l ++ r).length vc :: c) (ls' := A ++ (l ++ r) :: C) hr5 hu5 (hla.join ⟨hlc.1, hlc.2.2⟩) hsub
  obtain ⟨xa, xc, rfl, _⟩ := hr5.form
  have hbt3 := hT3.2.1
  have hrt : some t ≠ (Value.slice (some ⟨rg, 0, none⟩) (A ++ l :: r :: C).length lc).ownBlock := fun e => by
    have : rg = t := by simpa [Value.ownBlock] using e.symm
    exact box_ne hq2 h.2.1 (by decide) this
  have hbt5 : Box w5 t 105 #[hx0, hx1, .slice (some ⟨rg, 0, none⟩) (A ++ l :: r :: C).length lc, .int .i64 sz] := (hu5.1.block t hbt3.lt hrt).trans hbt3
  have hs3 := hE3.2.2.2.1
  refine ⟨xa, _, xc, rfl, by rw [hbt5.cell]; rfl, hbt5.free _, rfl, hE3.trans hE5, _, _, _, hT5.mono fun q hq => ?_, ?_, fun x hx => ?_, ?_⟩
  · rcases hq with hq | hq
    · exact hq
    · exact .inr (by omega)
  · simp only [List.flatten_append, List.flatten_cons, List.append_assoc]
  · rcases List.mem_append.1 hx with hx | hx
    · exact hne x (List.mem_append_left _ hx)
    · rcases List.mem_cons.1 hx with rfl | hx
      · intro e
        exact hrne (List.append_eq_nil_iff.1 e).2
      · exact hne x (by simp [hx])
  · simp

set_option maxHeartbeats 4000000 in
set_option maxRecDepth 100000 in
attribute [-go_sem] Builtin.append_ in
/-- two leaves become one -/
theorem join_both [hd : Inhabited Hd] {B : Nat → Prop} {W : World} {t rg lc sz : Nat} {a c : List Value} {s sr : Value} {A C : List (List KV)} {l r : List KV} (h : TreeOpen B W t (.slice (some ⟨rg, 0, none⟩) (A ++ l :: r :: C).length lc) (a ++ s :: sr :: c) (A ++ l :: r :: C) sz) (ha : a.length = A.length) (hne : ∀ x ∈ A ++ l :: r :: C, x ≠ []) (hn9 : (A ++ l :: r :: C).length ≤ 90000) (hs : l.length + r.length ≤ 32) :
    Calls Try.prog 161 #[.pointer (some ⟨t, 2, none⟩), .int .i64 A.length] W (JoinP B W t (A ++ l :: r :: C) sz A.length) := by
  have hd2 : TreeOpen B W.drew.drew t (.slice (some ⟨rg, 0, none⟩) (A ++ l :: r :: C).length lc) (a ++ s :: sr :: c) (A ++ l :: r :: C) sz := h.keep fun q hq _ => ⟨rfl, hq⟩
  obtain ⟨va, vn, vc, w', hr, ⟨y0, y1, y2⟩, y3, hD⟩ := join_glue hd2 ha hne hn9 hs
  obtain ⟨h1, _, h2, hL, h4, h5, h6, h7⟩ := h.at_ ha
  obtain ⟨h3, hR⟩ := h.at_two ha
  obtain ⟨sa, sc, rfl, _⟩ := hL.1.form
  obtain ⟨ra, rc, rfl, _⟩ := hR.1.form
  have hJ : JoinP B W.drew.drew t (A ++ l :: r :: C) sz A.length = JoinP B W t (A ++ l :: r :: C) sz A.length := rfl
  rw [hJ] at hD
  obtain ⟨P, hP⟩ : ∃ P, P = JoinP B W t (A ++ l :: r :: C) sz A.length := ⟨_, rfl⟩
  rw [← hP] at hD ⊢
  obtain ⟨i, hi2⟩ : ∃ i, i = A.length := ⟨_, rfl⟩
  obtain ⟨n, hn⟩ : ∃ n, n = (A ++ l :: r :: C).length := ⟨_, rfl⟩
  have hni : i + 1 < n := by rw [hn, hi2]; simp
  obtain ⟨m, hm⟩ : ∃ m, m = l.length := ⟨_, rfl⟩
  obtain ⟨k, hk⟩ : ∃ k, k = r.length := ⟨_, rfl⟩
  rw [← hn] at h1 hn9 h4 y0 y3 hD
  rw [← hi2] at h2 h3 y1 y2 y3 hD ⊢
  rw [← hm] at h2 hs hr y1
  rw [← hk] at h3 hs hr
  clear hn hi2 hP hJ h hd2 ha hne h5 hL hR hm hk
  have hw : IntKind.i64.wrap ((i : Int) + 1) = (i : Int) + 1 := by rw [IntKind.wrap_i64]; omega
  have hw3 : IntKind.i64.wrap ((i : Int) + 1 + 1) = (i : Int) + 1 + 1 := by rw [IntKind.wrap_i64]; omega
  have hw2 : IntKind.i64.wrap ((m : Int) + (k : Int)) = (m : Int) + (k : Int) := by rw [IntKind.wrap_i64]; omega
  have hneg : ¬ (i : Int) < 0 := by omega
  have hge : ¬ (n : Int) ≤ (i : Int) + 1 := by omega
  have hgt : ¬ (32 : Int) < (m : Int) + (k : Int) := by omega
  have htn : ((i : Int) + 1).toNat = i + 1 := by omega
  have hi0 : (0 : Int) ≤ (i : Int) + 1 := by omega
  have hil : (i : Int) < (n : Int) := by omega
  have hil2 : (i : Int) + 1 < (n : Int) := by omega
  go_enter Try.func161, Try.ntmps161
  go_wp2_with fail
  refine wp_region_still_lit (by kernel_rfl) (by kernel_rfl) ?_
  change wpStill _ _ (World.drew _) (fun a' => _) _ _
  repeat still_step
  refine wpStill_nil ?_
  change Exit.then _ _ _ _ (World.drew _)
  go_wp2_with fail
  go_region
  all_goals
    go_wp2_with fail
    refine hD.out.mono ?_
    rintro e w5 ⟨wa, wn, wc, rfl, z1, z2, hF⟩
    obtain ⟨zz, hz⟩ := Option.isSome_iff_exists.1 z1
    have HF := Lib.hid hF
    clear hF hD z1
    go_wp2
    go_end0
    exact HF.out

end Go.Proofs.Ytcebnoapgceodaa.tC
end
