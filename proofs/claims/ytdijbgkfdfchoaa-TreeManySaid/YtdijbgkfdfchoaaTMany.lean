/-
  TreeMany: many keys, in whichever order they come, and go.
-/
import Derived.Test.YtdijbgkfdfchoaaTHead
import Derived.Test.YtdijbgkfdfchoaaTManyM
import Derived.Test.YtdijbgkfdfchoaaTRow
import Derived.Deep.RegionWith
import Derived.Deep.RegionHeld
namespace Go.Proofs.Ytdijbgkfdfchoaa.treeMany
open Go.RowKit Go.Proofs.Ytdijbgkfdfchoaa.tI

set_option linter.unusedVariables false
set_option linter.unusedSimpArgs false
attribute [local go_sem] Oper.semAt_some

theorem conv_two (w : World) (l : List UInt8) (n c : Nat) (hn : l.length = n) (a : Array Value) (ha : a.toList = Lib.byteCells l) :
    (convert 43 9 (.slice (some ⟨w.heap.size, 0, none⟩) n c)).run Try.prog (w.alloc (.cells a 5)) = .ok (.string ⟨l.toArray⟩) (w.alloc (.cells a 5)) := by
  subst hn
  refine run_convert_bytes_back (P := Try.prog) (w.alloc (.cells a 5)) 43 9 5 ⟨w.heap.size, 0, none⟩ c l Try.underlying43 Try.underlying5 Try.underlying9 fun j hj => ?_
  have e : ((⟨w.heap.size, 0, none⟩ : Addr).add j) = ⟨w.heap.size, j, none⟩ := by unfold Addr.add; by_cases h0 : j = 0 <;> simp [h0]
  rw [e, cell_of_row (w.alloc (.cells a 5)) w.heap.size j a 5 (0, 0) (heap_alloc_new w _)]
  have hj' : j < (Lib.byteCells l).length := by simpa [Lib.byteCells] using hj
  have := congrArg (·[j]?) ha
  simp only [Array.getElem?_toList] at this
  rw [this, List.getElem?_eq_getElem hj']
  simp [Lib.byteCells]

theorem conv_nm (i : Nat) (hi : i < 1024) (w : World) :
    (convert 43 9 (.slice (some ⟨w.heap.size, 0, none⟩) 2 2)).run Try.prog (w.alloc (.cells #[.int .u8 ((i : Int) / 256), .int .u8 ((i : Int) % 256)] 5)) = .ok (.string (nm i)) (w.alloc (.cells #[.int .u8 ((i : Int) / 256), .int .u8 ((i : Int) % 256)] 5)) := by
  have h1 : ((UInt8.ofNat (i / 256)).toNat : Int) = (i : Int) / 256 := by rw [UInt8.toNat_ofNat']; omega
  have h2 : ((UInt8.ofNat (i % 256)).toNat : Int) = (i : Int) % 256 := by rw [UInt8.toNat_ofNat']; omega
  exact conv_two w [UInt8.ofNat (i / 256), UInt8.ofNat (i % 256)] 2 2 rfl _ (by simp only [Lib.byteCells, List.map_cons, List.map_nil, h1, h2])

set_option maxHeartbeats 1000000 in
set_option maxRecDepth 100000 in
theorem name_any (i : Nat) (hi : i < 1024) (w : World) :
    Calls Try.prog 19 #[.int .i64 (i : Int)] w fun e w' => e = .returned (.string (nm i)) ∧ Below w.heap.size w w' := by
  have hcv := conv_nm i hi w
  go_enter Try.func19, Try.ntmps19
  go_wp2
  go_ret
  exact ⟨rfl, (Below.refl _ w).alloc (Nat.le_refl _) _⟩

theorem and_1023 (n : Int) : bits .and .i64 n 1023 = n % 1024 := by
  have hc : (BitVec.ofInt 64 1023).toNat = 2 ^ 10 - 1 := by decide
  have key : (BitVec.ofInt 64 n &&& BitVec.ofInt 64 1023).toNat = (n % ((2 ^ 64 : Nat) : Int)).toNat % 2 ^ 10 := by
    rw [BitVec.toNat_and, BitVec.toNat_ofInt, hc, Nat.and_two_pow_sub_one_eq_mod]
  show IntKind.i64.wrap ((BitVec.ofInt 64 n &&& BitVec.ofInt 64 1023).toNat : Nat) = n % 1024
  rw [key, IntKind.wrap_i64]
  omega
theorem and_511 (n : Int) : bits .and .i64 n 511 = n % 512 := by
  have hc : (BitVec.ofInt 64 511).toNat = 2 ^ 9 - 1 := by decide
  have key : (BitVec.ofInt 64 n &&& BitVec.ofInt 64 511).toNat = (n % ((2 ^ 64 : Nat) : Int)).toNat % 2 ^ 9 := by
    rw [BitVec.toNat_and, BitVec.toNat_ofInt, hc, Nat.and_two_pow_sub_one_eq_mod]
  show IntKind.i64.wrap ((BitVec.ofInt 64 n &&& BitVec.ofInt 64 511).toNat : Nat) = n % 512
  rw [key, IntKind.wrap_i64]
  omega
theorem and_7 (n : Int) : bits .and .i64 n 7 = n % 8 := by
  have hc : (BitVec.ofInt 64 7).toNat = 2 ^ 3 - 1 := by decide
  have key : (BitVec.ofInt 64 n &&& BitVec.ofInt 64 7).toNat = (n % ((2 ^ 64 : Nat) : Int)).toNat % 2 ^ 3 := by
    rw [BitVec.toNat_and, BitVec.toNat_ofInt, hc, Nat.and_two_pow_sub_one_eq_mod]
  show IntKind.i64.wrap ((BitVec.ofInt 64 n &&& BitVec.ofInt 64 7).toNat : Nat) = n % 8
  rw [key, IntKind.wrap_i64]
  omega

/-- a statement that does not panic, whatever would follow a panic -/
theorem wp_calm {P : Program} {c : Code} {K : Act → World → Prop} {Q' : Exit → Act → World → Prop} {a : Act} {w : World} (h : c.wp P (Exit.then K (fun _ _ _ => False)) a w) : c.wp P (Exit.then K Q') a w := by
  refine wp_mono h ?_
  intro e a' w' hq
  cases e with
  | normal => exact hq
  | exit id => exact hq.elim
  | goto l => exact hq.elim
  | ret => exact hq.elim
  | panic ch => exact hq.elim
  | outgrown => exact hq.elim

set_option maxHeartbeats 4000000 in
set_option maxRecDepth 100000 in
theorem walk {w : World} (a0 : Int) (w0 : (Lit.int .i64 a0).wf = true) (a1 : Int) (w1 : (Lit.int .i64 a1).wf = true) (a2 : Int) (w2 : (Lit.int .i64 a2).wf = true) :
    Calls Try.prog 5 #[.int .i64 a0, .int .i64 a1, .int .i64 a2] w fun e W' => e = .returned (.bool true) ∧ Below w.heap.size w W' := by
  have hm0 := and_1023 a0
  have hm1 := and_511 a1
  have hm2 := and_7 a2
  obtain ⟨n, hn⟩ : ∃ n : Nat, a0 % 1024 = (n : Int) := ⟨(a0 % 1024).toNat, by omega⟩
  obtain ⟨s, hs⟩ : ∃ s : Nat, a1 % 512 = (s : Int) := ⟨(a1 % 512).toNat, by omega⟩
  obtain ⟨r, hr⟩ : ∃ r : Nat, a2 % 8 = (r : Int) := ⟨(a2 % 8).toNat, by omega⟩
  have hn2 : n < 1024 := by omega
  have hs2 : s < 512 := by omega
  have hr2 : r < 8 := by omega
  rw [hn] at hm0
  rw [hs] at hm1
  rw [hr] at hm2
  clear hn hs hr w0 w1 w2
  refine (callsIn_wide (n := 3)).1 (callsIn_of_wp_marks Try.func5 rfl trivial ?_)
  simp only [Try.ntmps5, List.size_toArray, List.length_cons, List.length_nil, Nat.reduceAdd, Nat.reduceSub, Array.replicate_succ, Array.replicate_zero, List.push_toArray, List.append_toArray, List.nil_append, List.cons_append]
  refine (wpIn_wide (n := 3)).2 ?_
  go_wp2_with fail
  refine (head_any _).mono ?_
  rintro e w1 ⟨rfl, hb1⟩
  have HP : Hid (Boxed w1 w.heap.size 3 (.int .i64 a0) ∧ Boxed w1 (w.heap.size + 1) 3 (.int .i64 a2) ∧ Boxed w1 (w.heap.size + 1 + 1) 4 (.bool false) ∧ Below w.heap.size w w1) := Lib.hid (by
    have h1 := ((Boxed.new w 3 (.int .i64 a0)).alloc (.cells #[.int .i64 a2] 3)).alloc (.cells #[.bool false] 4)
    have h2 := (Boxed.new (w.alloc (.cells #[.int .i64 a0] 3)) 3 (.int .i64 a2)).alloc (.cells #[.bool false] 4)
    have h3 := Boxed.new ((w.alloc (.cells #[.int .i64 a0] 3)).alloc (.cells #[.int .i64 a2] 3)) 4 (.bool false)
    simp only [World.size_alloc] at h2 h3
    have h4 := (((Below.refl _ w).alloc (Nat.le_refl _) (.cells #[.int .i64 a0] 3)).alloc (by simp) (.cells #[.int .i64 a2] 3)).alloc (by simp; omega) (.cells #[.bool false] 4)
    exact ⟨(hb1.block _ h1.lt).trans h1, (hb1.block _ h2.lt).trans h2, (hb1.block _ h3.lt).trans h3, h4.trans (hb1.mono h4.size)⟩)
  have hc1 := HP.out.1.cell
  have hf1 := HP.out.1.frozen
  have hc2 := HP.out.2.1.cell
  have hf2 := HP.out.2.1.frozen
  have hl3 := HP.out.2.2.1.lt
  have hl1 : w.heap.size < w1.heap.size := by omega
  have hl2 : w.heap.size + 1 < w1.heap.size := by omega
  obtain ⟨d, hd⟩ : ∃ d : Nat, d = 2 + r := ⟨_, rfl⟩
  have hsf : ∀ (W : World) (b : Nat), (store ⟨b, 0, none⟩ (.func (.func 19) #[] #[])).run Try.prog W = stored Try.prog W ⟨b, 0, none⟩ (.func (.func 19) #[] #[]) .plain := fun W b => run_store Try.prog W ⟨b, 0, none⟩ _ .plain rfl
  clear hb1
  go_wp2_with fail
  obtain ⟨p, hp⟩ : ∃ p, p = w.heap.size := ⟨_, rfl⟩
  obtain ⟨q, hq⟩ : ∃ q, q = w1.heap.size := ⟨_, rfl⟩
  have H8 : Hid (∀ W8, W8 = ((((w1.setCell ⟨w.heap.size, 0, none⟩ (.int .i64 (n : Int))).setCell ⟨w.heap.size + 1, 0, none⟩ (.int .i64 (2 + (r : Int)))).alloc (.cells #[.func (.func 19) #[] #[]] 44)).alloc (.cells #[.slice none 0 0, .int .i64 0] 47)) → Boxed W8 w.heap.size 3 (.int .i64 (n : Int)) ∧ Boxed W8 (w.heap.size + 1) 3 (.int .i64 (2 + (r : Int))) ∧ Boxed W8 (w.heap.size + 1 + 1) 4 (.bool false) ∧ Boxed W8 w1.heap.size 44 (.func (.func 19) #[] #[]) ∧
      TreeOf (w1.heap.size + 1) W8 (w1.heap.size + 1) [] ∧ Below w.heap.size w W8) := Lib.hid (by
    rintro W8 rfl
    obtain ⟨b1, b2, b3, hb⟩ := HP.out
    have c1 := (((b1.set (.int .i64 (n : Int))).other (by omega : w.heap.size ≠ w.heap.size + 1) (.int .i64 (2 + (r : Int)))).alloc (.cells #[.func (.func 19) #[] #[]] 44)).alloc (.cells #[.slice none 0 0, .int .i64 0] 47)
    have c2 := (((b2.other (by omega : w.heap.size + 1 ≠ w.heap.size) (.int .i64 (n : Int))).set (.int .i64 (2 + (r : Int)))).alloc (.cells #[.func (.func 19) #[] #[]] 44)).alloc (.cells #[.slice none 0 0, .int .i64 0] 47)
    have c3 := (((b3.other (by omega : w.heap.size + 1 + 1 ≠ w.heap.size) (.int .i64 (n : Int))).other (by omega : w.heap.size + 1 + 1 ≠ w.heap.size + 1) (.int .i64 (2 + (r : Int)))).alloc (.cells #[.func (.func 19) #[] #[]] 44)).alloc (.cells #[.slice none 0 0, .int .i64 0] 47)
    have c4 := (Boxed.new ((w1.setCell ⟨w.heap.size, 0, none⟩ (.int .i64 (n : Int))).setCell ⟨w.heap.size + 1, 0, none⟩ (.int .i64 (2 + (r : Int)))) 44 (.func (.func 19) #[] #[])).alloc (.cells #[.slice none 0 0, .int .i64 0] 47)
    have c5 := tree_new (n := w1.heap.size + 1) (((w1.setCell ⟨w.heap.size, 0, none⟩ (.int .i64 (n : Int))).setCell ⟨w.heap.size + 1, 0, none⟩ (.int .i64 (2 + (r : Int)))).alloc (.cells #[.func (.func 19) #[] #[]] 44)) (by simp [World.setCell])
    have e1 : ((w1.setCell ⟨w.heap.size, 0, none⟩ (.int .i64 (n : Int))).setCell ⟨w.heap.size + 1, 0, none⟩ (.int .i64 (2 + (r : Int)))).heap.size = w1.heap.size := by simp [World.setCell]
    have e2 : (((w1.setCell ⟨w.heap.size, 0, none⟩ (.int .i64 (n : Int))).setCell ⟨w.heap.size + 1, 0, none⟩ (.int .i64 (2 + (r : Int)))).alloc (.cells #[.func (.func 19) #[] #[]] 44)).heap.size = w1.heap.size + 1 := by rw [World.size_alloc, e1]
    rw [e1] at c4
    rw [e2] at c5
    have hb2 := (hb.setCell (p := ⟨w.heap.size, 0, none⟩) (Nat.le_refl _) (.int .i64 (n : Int))).setCell (p := ⟨w.heap.size + 1, 0, none⟩) (by simp) (.int .i64 (2 + (r : Int)))
    have hb3 := hb2.alloc hb2.size (.cells #[.func (.func 19) #[] #[]] 44)
    exact ⟨c1, c2, c3, c4, ⟨[], c5, rfl⟩, hb3.alloc hb3.size _⟩)
  obtain ⟨W8, hW8⟩ : ∃ W8, W8 = ((((w1.setCell ⟨w.heap.size, 0, none⟩ (.int .i64 (n : Int))).setCell ⟨w.heap.size + 1, 0, none⟩ (.int .i64 (2 + (r : Int)))).alloc (.cells #[.func (.func 19) #[] #[]] 44)).alloc (.cells #[.slice none 0 0, .int .i64 0] 47)) := ⟨_, rfl⟩
  have H9 := Lib.hid (H8.out W8 hW8)
  rw [← hW8]
  have hd2 : (2 : Int) + (r : Int) = (d : Int) := by omega
  rw [hd2] at H9 ⊢
  obtain ⟨t, ht⟩ : ∃ t : Nat, t = 2 * s + 1 := ⟨_, rfl⟩
  have ht2 : 2 * (s : Int) + 1 = (t : Int) := by omega
  rw [ht2]
  rw [← hp, ← hq] at H9 ⊢
  have hd3 : 2 ≤ d ∧ d ≤ 9 := by omega
  have ht3 : t ≤ 1023 := by omega
  have HC : Hid (∀ W, Below (q + 1) W8 W → (W.cell? ⟨p, 0, none⟩ = some (.int .i64 (n : Int)) ∧ W.cell? ⟨p + 1, 0, none⟩ = some (.int .i64 (d : Int)) ∧ W.cell? ⟨q, 0, none⟩ = some (.func (.func 19) #[] #[])) ∧ Boxed W (p + 1 + 1) 4 (.bool false) ∧ Below p w W) := Lib.hid fun W hb => by
    obtain ⟨b1, b2, b3, b4, _, b6⟩ := H9.out
    have hq1 : p + 1 + 1 < q := by rw [hp, hq]; exact hl3
    refine ⟨⟨(hb.cell (p := ⟨p, 0, none⟩) (by show p < q + 1; omega)).trans b1.cell, (hb.cell (p := ⟨p + 1, 0, none⟩) (by show p + 1 < q + 1; omega)).trans b2.cell, (hb.cell (p := ⟨q, 0, none⟩) (by show q < q + 1; omega)).trans b4.cell⟩, (hb.block (p + 1 + 1) (by omega)).trans b3, b6.trans (hb.mono (by omega))⟩
  have HT0 : Hid (Below (q + 1) W8 W8 ∧ TreeOf (q + 1) W8 (q + 1) (cont (S1 t 0) n)) := Lib.hid ⟨Below.refl _ _, by
    obtain ⟨_, _, _, _, b5, _⟩ := H9.out
    have e : cont (S1 t 0) n = [] := by unfold cont; rw [List.filter_eq_nil_iff.2 (fun j _ => by simp [S1])]; rfl
    rw [e]; exact b5⟩
  have HS : Hid (t = 2 * s + 1 ∧ s < 512) := Lib.hid ⟨ht, hs2⟩
  have HPW := Lib.hid hp
  have H9P : Hid (p + 1 + 1 < q) := Lib.hid (by rw [hp, hq]; exact hl3)
  clear hW8 H8 HP hc1 hc2 hf1 hf2 hl1 hl2 hl3 hsf hd hd2 ht ht2 hm0 hm1 hm2 hs2 hr2 hp hq H9
  go_loopw [9] (fun i wr => ∃ k : Nat, k ≤ 1024 ∧ i = .int .i64 (k : Int) ∧ Hid (Below (q + 1) W8 wr ∧ TreeOf (q + 1) wr (q + 1) (cont (S1 t k) n))) (fun i _ => 1024 - (intOf i).toNat)
  case atStart => exact ⟨0, by omega, rfl, HT0⟩
  case round =>
    obtain ⟨k, hk, rfl, hst⟩ := hrel
    clear HT0
    obtain ⟨⟨hc1, hc2, hc3⟩, _⟩ := HC.out wr hst.out.1
    by_cases hlt : k < 1024
    · obtain ⟨P, hP⟩ : ∃ P : Nat, P = k * t := ⟨_, rfl⟩
      have hPb : P ≤ 1023 * 1023 := by rw [hP]; exact Nat.mul_le_mul (by omega) ht3
      have hPI : (k : Int) * (t : Int) = (P : Int) := by rw [hP]; exact (Int.natCast_mul k t).symm
      have hPw : wrap64 ((k : Int) * (t : Int)) = (P : Int) := by rw [hPI]; unfold wrap64; omega
      have hPw2 : IntKind.i64.wrap ((k : Int) * (t : Int)) = (P : Int) := by rw [hPI, IntKind.wrap_i64]; omega
      obtain ⟨j, hj⟩ : ∃ j : Nat, j = P % 1024 := ⟨_, rfl⟩
      have hmk : bits .and .i64 (P : Int) 1023 = (j : Int) := by rw [and_1023, hj]; omega
      have hj2 : j < 1024 := by omega
      have HJ : Hid (j = k * t % 1024) := Lib.hid (by rw [hj, hP])
      clear hP hj hPI
      by_cases hjn : j < n
      · have hjnI : (j : Int) < (n : Int) := by omega
        have HN := Lib.hid (name_any j hj2 wr)
        have HPut : Hid (∀ w2, Below wr.heap.size wr w2 → Calls Try.prog 16 #[.pointer (some ⟨q + 1, 0, none⟩), .string (nm j), .int .i64 (j : Int)] w2 fun e w3 => (∃ b, e = .returned (.bool b)) ∧ Hid (Below (q + 1) W8 w3 ∧ TreeOf (q + 1) w3 (q + 1) (cont (S1 t (k + 1)) n))) := Lib.hid fun w2 hb2 => by
          obtain ⟨hbw, hT⟩ := hst.out
          have hsz : q + 1 ≤ wr.heap.size := by obtain ⟨ls, hT, _⟩ := hT; have := hT.lt; omega
          have hT2 := hT.keepB (w' := w2) fun q' _ hl => hb2.block q' hl
          refine (hT2.put (by have := cont_len (S1 t k) n; omega) (nm j) (j : Int)).mono ?_
          rintro e w3 ⟨rfl, hb3, hT3⟩
          refine ⟨⟨_, rfl⟩, Lib.hid ⟨(hbw.trans (hb2.mono hsz)).trans hb3, ?_⟩⟩
          rw [cont_put (by omega) hjn, ← show S1 t (k + 1) = (fun i => S1 t k i || i == j) from funext fun i => by rw [S1_next, ← HJ.out]] at hT3
          exact hT3
        clear hst
        go_wp2_with fail
        refine HN.out.mono ?_
        rintro e w2 ⟨rfl, hb2⟩
        have HP3 := Lib.hid (HPut.out w2 hb2)
        clear hb2 HN HPut
        go_wp2_with fail
        refine HP3.out.mono ?_
        rintro e w3 ⟨⟨b, rfl⟩, HS3⟩
        clear HP3
        go_wp2
        go_roundw
        case rel => exact ⟨k + 1, by omega, by simp, HS3⟩
        case measure => simp [intOf]; omega
      · have hjnI : ¬ (j : Int) < (n : Int) := by omega
        have HS3 : Hid (Below (q + 1) W8 wr ∧ TreeOf (q + 1) wr (q + 1) (cont (S1 t (k + 1)) n)) := Lib.hid ⟨hst.out.1, by
          rw [cont_congr (T := S1 t k) fun i hi => by
            have : (i == k * t % 1024) = false := by rw [← HJ.out]; simp; omega
            rw [S1_next, this, Bool.or_false]]
          exact hst.out.2⟩
        clear hst
        go_wp2
        go_roundw
        case rel => exact ⟨k + 1, by omega, by simp, HS3⟩
        case measure => simp [intOf]; omega
    · obtain rfl : k = 1024 := by omega
      have HT1 : Hid (Below (q + 1) W8 wr ∧ TreeOf (q + 1) wr (q + 1) (cont (S2 d 0) n)) := Lib.hid ⟨hst.out.1, by
        have e : cont (S2 d 0) n = cont (S1 t 1024) n := cont_congr fun i hi => by
          rw [HS.out.1, S2_zero, S1_all HS.out.2 (by omega)]
        rw [e]; exact hst.out.2⟩
      clear hst
      rw [show ((1024 : Nat) : Int) = 1024 from rfl]
      go_wp2_with fail
      go_loopw [11] (fun i wr2 => ∃ k : Nat, k ≤ n ∧ i = .int .i64 (k : Int) ∧ Hid (Below (q + 1) W8 wr2 ∧ TreeOf (q + 1) wr2 (q + 1) (cont (S2 d k) n))) (fun i _ => n - (intOf i).toNat)
      case atStart => exact ⟨0, by omega, rfl, HT1⟩
      case round =>
        obtain ⟨k, hk, rfl, hst⟩ := hrel
        clear HT1 hc1 hc2 hc3
        obtain ⟨⟨hc1, hc2, hc3⟩, _⟩ := HC.out wr hst.out.1
        by_cases hlt : k < n
        · have hltI : (k : Int) < (n : Int) := by omega
          have hdz : ¬ (d : Int) = 0 := by omega
          by_cases hm : k % d = 0
          · have HN := Lib.hid (name_any k (by omega) wr)
            have HDrop : Hid (∀ w2, Below wr.heap.size wr w2 → Calls Try.prog 17 #[.pointer (some ⟨q + 1, 0, none⟩), .string (nm k)] w2 fun e w3 => e = .returned (.bool true) ∧ Hid (Below (q + 1) W8 w3 ∧ TreeOf (q + 1) w3 (q + 1) (cont (S2 d (k + 1)) n))) := Lib.hid fun w2 hb2 => by
              obtain ⟨hbw, hT⟩ := hst.out
              have hsz : q + 1 ≤ wr.heap.size := by obtain ⟨ls, hT, _⟩ := hT; have := hT.lt; omega
              have hT2 := hT.keepB (w' := w2) fun q' _ hl => hb2.block q' hl
              refine (hT2.drop (nm k)).mono ?_
              rintro e w3 ⟨rfl, hb3, hT3⟩
              rw [cont_get (by omega) hlt]
              refine ⟨by simp [S2], Lib.hid ⟨(hbw.trans (hb2.mono hsz)).trans hb3, ?_⟩⟩
              rw [cont_drop (by omega) hlt, ← show S2 d (k + 1) = (fun j => S2 d k j && j != k) from funext fun j => S2_next hm j] at hT3
              exact hT3
            clear hst
            go_wp2_with fail
            refine HN.out.mono ?_
            rintro e w2 ⟨rfl, hb2⟩
            have HP3 := Lib.hid (HDrop.out w2 hb2)
            clear hb2 HN HDrop
            go_wp2_with fail
            refine HP3.out.mono ?_
            rintro e w3 ⟨rfl, HS3⟩
            clear HP3
            go_wp2
            go_roundw
            case rel => exact ⟨k + 1, by omega, by simp, HS3⟩
            case measure => simp [intOf]; omega
          · have HS3 : Hid (Below (q + 1) W8 wr ∧ TreeOf (q + 1) wr (q + 1) (cont (S2 d (k + 1)) n)) := Lib.hid ⟨hst.out.1, by
              rw [show S2 d (k + 1) = S2 d k from funext fun j => S2_same hm j]
              exact hst.out.2⟩
            clear hst
            go_wp2
            go_roundw
            case rel => exact ⟨k + 1, by omega, by simp, HS3⟩
            case measure => simp [intOf]; omega
        · obtain rfl : k = n := by omega
          have HTF : Hid (Below (q + 1) W8 wr ∧ TreeOf (q + 1) wr (q + 1) (cont (S3 d) k)) := Lib.hid ⟨hst.out.1, by
            rw [← cont_congr (S := S2 d k) fun i hi => S2_end hi]
            exact hst.out.2⟩
          clear hst
          go_wp2_with fail
          refine (from_any _ ⟨#[]⟩ _).mono ?_
          rintro e w6 ⟨rfl, rfl⟩
          have bN := Boxed.new wr 3 (.int .i64 ((0 : Nat) : Int))
          have bN2 := (bN.alloc (.cells #[.pointer (some ⟨q + 1, 0, none⟩)] 25)).alloc (.cells #[.string ⟨#[]⟩] 9)
          have bT := (Boxed.new (wr.alloc (.cells #[.int .i64 ((0 : Nat) : Int)] 3)) 25 (.pointer (some ⟨q + 1, 0, none⟩))).alloc (.cells #[.string ⟨#[]⟩] 9)
          have bK := Boxed.new ((wr.alloc (.cells #[.int .i64 ((0 : Nat) : Int)] 3)).alloc (.cells #[.pointer (some ⟨q + 1, 0, none⟩)] 25)) 9 (.string ⟨#[]⟩)
          have hB1 : Below wr.heap.size wr (((wr.alloc (.cells #[.int .i64 ((0 : Nat) : Int)] 3)).alloc (.cells #[.pointer (some ⟨q + 1, 0, none⟩)] 25)).alloc (.cells #[.string ⟨#[]⟩] 9)) :=
            (((Below.refl _ wr).alloc (Nat.le_refl _) _).alloc (by simp) _).alloc (by simp; omega) _
          simp only [World.size_alloc] at bT bK
          have HALL := Lib.hid (And.intro hB1 (And.intro bN2 (And.intro bT bK)))
          clear hB1 bN bN2 bT bK
          go_wp2_with fail
          obtain ⟨W6, hW6⟩ : ∃ W6, W6 = (((wr.alloc (.cells #[.int .i64 0] 3)).alloc (.cells #[.pointer (some ⟨q + 1, 0, none⟩)] 25)).alloc (.cells #[.string ⟨#[]⟩] 9)) := ⟨_, rfl⟩
          have hsz : W6.heap.size = wr.heap.size + 3 := by rw [hW6]; simp
          rw [← hW6]
          have HALL2 : Hid (Below wr.heap.size wr W6 ∧ Boxed W6 wr.heap.size 3 (.int .i64 ((0 : Nat) : Int)) ∧ Boxed W6 (wr.heap.size + 1) 25 (.pointer (some ⟨q + 1, 0, none⟩)) ∧ Boxed W6 (wr.heap.size + 1 + 1) 9 (.string ⟨#[]⟩)) := by rw [hW6]; exact HALL
          clear hW6 HALL hc1 hc2 hc3
          obtain ⟨hB1, bN, bT, bK⟩ := HALL2.out
          have hT6 : ∃ ls, TreeAt (fun x => q + 1 ≤ x ∧ x < wr.heap.size) W6 (q + 1) ls ∧ ls.flatten = cont (S3 d) k := by
            obtain ⟨ls, hT, e⟩ := HTF.out.2
            exact ⟨ls, hT.keep fun x hx hl => ⟨hB1.block x hl, hx, hl⟩, e⟩
          obtain ⟨ls, hT, hls⟩ := hT6
          have hiv : ∀ p ∈ ls.flatten, IsV p.2 := by
            rw [hls]; intro p hp
            obtain ⟨j, _, _, rfl⟩ := cont_mem hp
            exact ⟨_, rfl⟩
          have hst := from_stops 2 (wr.heap.size + 1) (wr.heap.size + 1 + 1) wr.heap.size _ (q + 1) ls ⟨#[]⟩ W6 (fun p => IsV p.2) (fun x hx => hx.2) hB1.size hT hiv hiv bT.cell bK.cell bT.lt bK.lt
          rw [from_all, hls] at hst
          have hqc : q + 1 < wr.heap.size := by
            obtain ⟨ls', hT', _⟩ := HTF.out.2
            exact hT'.lt
          have HCW : Hid (∀ W, Below wr.heap.size W6 W → Below (q + 1) W8 W) := Lib.hid fun W hb => HTF.out.1.trans ((hB1.trans hb).mono (by omega))
          obtain ⟨c, hc⟩ : ∃ c, c = wr.heap.size := ⟨_, rfl⟩
          rw [← hc] at hst hqc HCW bN hB1 HALL2 hT ⊢
          have hpq : p + 1 + 1 < c := by
            have h1 := H9P.out
            omega
          have hszc : W6.heap.size = c + 3 := by rw [hsz, hc]
          have hc0 : Hid (c = wr.heap.size) := Lib.hid hc
          clear hc hsz
          refine (wpIn_wide (n := 3)).1 ?_
          refine' wpIn_rangeFunc_ownG rfl (by omega) (gf := 23) (lb := #[.pointer (some ⟨c + 1, 0, none⟩), .pointer (some ⟨c + 1 + 1, 0, none⟩)]) rfl trivial (enters_of Try.func23 (by kernel_rfl) rfl)
            hst (fun h k => h.trans k) (KpB.turn (by omega)) (Below.refl _ _) (fun _ => rfl)
            (fun pre W' => (∃ z : Nat, z ≤ k ∧ pre.map Subtype.val = cont (S3 d) z ∧ Boxed W' c 3 (.int .i64 (z : Int))) ∧ Below c W6 W')
            (fun co pre _ => co = .ret ∧ ∃ ini x z, pre = ini ++ [x] ∧ ini.map Subtype.val = cont (S3 d) z ∧ z ≤ k ∧ ¬ (nx d z < k ∧ x.1 = kv (nx d z)))
            (OwnFrom.and (fun pre X Y row hs hg hr => by
              obtain ⟨z, h1, h2, h3⟩ := hs
              exact ⟨z, h1, h2, h3.kept hg (fun e => by have := (hr c e.symm).1; omega)⟩) (ownFrom_below (by omega) (by omega)))
            (fun _ _ _ _ _ hs _ _ => hs)
            ⟨⟨0, by omega, rfl, bN⟩, Below.refl _ _⟩
            _ ?assign ?body ?done ?stop
          case assign =>
            intro l x W K hK
            gi_wp2
            exact hK
          case body =>
            rintro l pre x W' ⟨⟨z, hz, hpre, bn⟩, hB⟩ hlen
            obtain ⟨v, hv⟩ : ∃ v, x.1.2 = .int .i64 v := x.2
            obtain ⟨xk, hxk⟩ : ∃ xk, x.1.1 = xk := ⟨_, rfl⟩
            simp only [hv, hxk]
            have HX : Hid (x.1 = (xk, .int .i64 v) ∧ pre.map Subtype.val = cont (S3 d) z ∧ z ≤ k) := Lib.hid ⟨by rw [← hv, ← hxk], hpre, hz⟩
            have HM : Hid (∀ W, Below c W' W → Boxed W (p + 1 + 1) 4 (.bool false) ∧ (W.cell? ⟨p, 0, none⟩ = some (.int .i64 (k : Int)) ∧ W.cell? ⟨p + 1, 0, none⟩ = some (.int .i64 (d : Int)) ∧ W.cell? ⟨q, 0, none⟩ = some (.func (.func 19) #[] #[])) ∧ Below c W6 W) := Lib.hid fun W hb => by
              have h1 := HC.out W (HCW.out W (hB.trans hb))
              exact ⟨h1.2.1, h1.1, hB.trans hb⟩
            have HI : Hid (Boxed W' c 3 (.int .i64 (z : Int)) ∧ KeepsFrom W6.heap.size W' W' ∧ Below c W' W') := Lib.hid ⟨bn, KeepsFrom.refl _ _, Below.refl _ _⟩
            have hd1 : d ≠ 0 := by omega
            have hdz : ¬ (d : Int) = 0 := by omega
            have hB0 := Lib.hid hB
            clear hv hxk hlen bn hB hpre
            gi_wp2_with fail
            gi_loopw [] (fun wr3 => ∃ y : Nat, (y = z ∨ (z % d = 0 ∧ y = z + 1)) ∧ Hid (Boxed wr3 c 3 (.int .i64 (y : Int)) ∧ KeepsFrom W6.heap.size W' wr3 ∧ Below c W' wr3)) (fun wr3 => z + 1 - (intOf ((wr3.cell? ⟨c, 0, none⟩).getD undef)).toNat)
            case atStart => exact ⟨z, .inl rfl, HI⟩
            case round =>
              obtain ⟨y, hy, hbb⟩ := hrel
              obtain ⟨_, ⟨hc1, hc2, hc3⟩, _⟩ := HM.out wr hbb.out.2.2
              have hc4 := hbb.out.1.cell
              have hf4 := hbb.out.1.frozen
              by_cases hm : y % d = 0
              · obtain rfl : y = z := by
                  rcases hy with h | ⟨h1, h2⟩
                  · exact h
                  · exfalso
                    have := nx_S3 (d := d) (q := z) hd3.1
                    unfold nx at this
                    rw [if_pos h1] at this
                    rw [h2] at hm
                    simp [S3, hm] at this
                have HS5 : Hid (Boxed (wr.setCell ⟨c, 0, none⟩ (.int .i64 ((y : Int) + 1))) c 3 (.int .i64 ((y + 1 : Nat) : Int)) ∧ KeepsFrom W6.heap.size W' (wr.setCell ⟨c, 0, none⟩ (.int .i64 ((y : Int) + 1))) ∧ Below c W' (wr.setCell ⟨c, 0, none⟩ (.int .i64 ((y : Int) + 1)))) := Lib.hid (by
                  obtain ⟨h1, h2, h3⟩ := hbb.out
                  exact ⟨h1.set _, h2.trans ((KeepsOthers.setCell _ _ _).from _), h3.setCell (p := ⟨c, 0, none⟩) (Nat.le_refl _) _⟩)
                have hyb : y ≤ 1024 := by omega
                clear hbb HI
                gi_wp2
                go_roundw
                case rel => exact ⟨y + 1, .inr ⟨hm, rfl⟩, HS5⟩
                case measure => rw [HS5.out.1.cell, hc4]; simp [intOf]
              · have hyx : y = nx d z := by
                  unfold nx
                  rcases hy with h | ⟨h1, h2⟩
                  · subst h; rw [if_neg hm]
                  · rw [if_pos h1]; exact h2
                have HY := Lib.hid hyx
                clear hyx HI
                have hbr := (HM.out wr hbb.out.2.2).1
                have hcr := hbr.cell
                have hfr := hbr.frozen
                have HBB := Lib.hid hbb.out
                clear hbb hbr
                by_cases hyn : y < k
                · by_cases hvy : v = (y : Int)
                  · subst hvy
                    have HN := Lib.hid (name_any y (by omega) wr)
                    gi_wp2_with fail
                    refine ⟨trivial, (CallsIn.inRound l (callsIn_wide.2 HN.out)).mono ?_⟩
                    rintro e w2 ⟨rfl, hb2⟩
                    have hcs : c < wr.heap.size := HBB.out.1.lt
                    have hbw2 : Below c W' w2 := HBB.out.2.2.trans (hb2.mono (by omega))
                    obtain ⟨hbr2, _, _⟩ := HM.out w2 hbw2
                    have hbc2 : Boxed w2 c 3 (.int .i64 (y : Int)) := (hb2.block c hcs).trans HBB.out.1
                    have hkf2 : KeepsFrom W6.heap.size W' w2 := HBB.out.2.1.trans (KeepsFrom.of_grownBy (below_grown hb2) (fun j e => by cases e))
                    have hcr2 := hbr2.cell
                    have hfr2 := hbr2.frozen
                    have hcc2 := hbc2.cell
                    have hfc2 := hbc2.frozen
                    have HB2 := Lib.hid (And.intro hbc2 (And.intro hkf2 hbw2))
                    clear hb2 hbw2 hbr2 hbc2 hkf2 hcr hfr hc1 hc2 hc3 hc4 hf4 HN
                    by_cases hxy : xk = nm y
                    · subst hxy
                      have hyb : y ≤ 1024 := by omega
                      gi_wp2
                      obtain ⟨h1, h2, h3⟩ := HB2.out
                      obtain ⟨hx1, hx2, hx3⟩ := HX.out
                      refine ⟨h2.trans ((KeepsOthers.setCell _ _ _).from _), KpB.below (h3.setCell (p := ⟨c, 0, none⟩) (Nat.le_refl _) _) (Nat.le_refl _), ⟨y + 1, by omega, ?_, h1.set _⟩, (hB0.out.trans h3).setCell (p := ⟨c, 0, none⟩) (Nat.le_refl _) _⟩
                      rw [List.map_append, List.map_cons, List.map_nil, hx2, hx1, HY.out, cont_next hd3.1]
                      rfl
                    · have hxy2 : (xk.toList == (nm y).toList) = false := by
                        refine Bool.eq_false_iff.2 fun e => hxy ?_
                        have e2 := eq_of_beq e
                        rw [Lib.toList_data, Lib.toList_data] at e2
                        exact ByteArray.ext (Array.toList_inj.1 e2)
                      gi_wp2
                      obtain ⟨h1, h2, h3⟩ := HB2.out
                      obtain ⟨hx1, hx2, hx3⟩ := HX.out
                      exact ⟨h2.trans ((KeepsOthers.setCell _ _ _).from _), rfl, pre, x, z, rfl, hx2, hx3, fun hcon => hxy (by have h9 := hcon.2; rw [hx1, ← HY.out] at h9; exact (Prod.mk.inj h9).1)⟩
                  · gi_wp2
                    all_goals
                      refine ⟨fun _ h => (by cases h), ?_⟩
                      gi_wp2
                      obtain ⟨hx1, hx2, hx3⟩ := HX.out
                      exact ⟨HBB.out.2.1.trans ((KeepsOthers.setCell _ _ _).from _), rfl, pre, x, z, rfl, hx2, hx3, fun hcon => hvy (by have h9 := hcon.2; rw [hx1, ← HY.out] at h9; exact Value.int.inj (Prod.mk.inj h9).2 |>.2)⟩
                · gi_wp2
                  all_goals
                    refine ⟨fun _ h => (by cases h), ?_⟩
                    gi_wp2
                    obtain ⟨hx1, hx2, hx3⟩ := HX.out
                    exact ⟨HBB.out.2.1.trans ((KeepsOthers.setCell _ _ _).from _), rfl, pre, x, z, rfl, hx2, hx3, fun hcon => hyn (by rw [HY.out]; exact hcon.1)⟩
          case done =>
            rintro D ys W' hD e ⟨⟨z, hz, hpre, bn⟩, hB⟩ hK
            rw [e] at hpre
            have hz1 := cont_end hd3.1 hpre.symm
            have hcnt := cont_count hd3.1 hd3.2 k
            obtain ⟨hbr, ⟨hc1, hc2, hc3⟩, hbp⟩ := (fun h => (⟨h.2.1, h.1, h.2.2⟩ : _ ∧ _ ∧ _)) (HC.out W' (HCW.out W' hB))
            have hT9 : TreeOf (q + 1) W' (q + 1) (cont (S3 d) k) := by
              obtain ⟨ls', hT', e'⟩ := HTF.out.2
              exact ⟨ls', hT'.keep fun x hx hl => ⟨(hB1.trans hB).block x (by rw [hc0.out]; exact hl), hx⟩, e'⟩
            have hl9 := (hT9.keepB (w' := W'.drew) fun _ _ _ => rfl).len
            obtain ⟨L, hL⟩ : ∃ L, L = (cont (S3 d) k).length := ⟨_, rfl⟩
            rw [← hL] at hl9 hcnt
            have hc4 := bn.cell
            have hcr := hbr.cell
            have hfr := hbr.frozen
            have HK := Lib.hid (And.intro hK (And.intro hbp hD))
            have HBR := Lib.hid hbr
            clear hL hT9 hK hB hbp hbr bn hpre e hD
            have hdz : ¬ (d : Int) = 0 := by omega
            have hk1 : IntKind.i64.wrap ((k : Int) + (d : Int)) = (k : Int) + (d : Int) := by rw [IntKind.wrap_i64]; omega
            have hk2 : IntKind.i64.wrap ((k : Int) + (d : Int) - 1) = (k : Int) + (d : Int) - 1 := by rw [IntKind.wrap_i64]; omega
            have hk3 : IntKind.i64.wrap ((k : Int) - 1) = (k : Int) - 1 := by rw [IntKind.wrap_i64]; omega
            have HL9 := Lib.hid hl9
            obtain ⟨Q, hQ⟩ : ∃ Q, Q = (k + d - 1) / d := ⟨_, rfl⟩
            have hq0 : ((k + d - 1 : Nat) : Int) = (k : Int) + (d : Int) - 1 := by omega
            have hq1 : ((k : Int) + (d : Int) - 1) / (d : Int) = (Q : Int) := by rw [hQ, ← hq0]; exact (Int.natCast_ediv _ _).symm
            have hq2 : Int.tdiv ((k : Int) + (d : Int) - 1) (d : Int) = (Q : Int) := by rw [Int.tdiv_eq_ediv_of_nonneg (by omega), hq1]
            rw [← hQ] at hcnt
            have hq3 : IntKind.i64.wrap (Q : Int) = (Q : Int) := by rw [IntKind.wrap_i64]; omega
            have hq4 : IntKind.i64.wrap ((k : Int) - (Q : Int)) = (L : Int) := by rw [IntKind.wrap_i64]; omega
            have hzI : (k : Int) - 1 ≤ (z : Int) := by omega
            have HQ : Hid (Int.tdiv ((k : Int) + (d : Int) - 1) (d : Int) = (Q : Int) ∧ IntKind.i64.wrap (Q : Int) = (Q : Int) ∧ IntKind.i64.wrap ((k : Int) - (Q : Int)) = (L : Int) ∧ IntKind.i64.wrap ((k : Int) - 1) = (k : Int) - 1 ∧ (k : Int) - 1 ≤ (z : Int)) := Lib.hid ⟨hq2, hq3, hq4, hk3, hzI⟩
            have HSF : Hid (let w' := W'.drew.setCell ⟨p + 1 + 1, 0, none⟩ (.bool true); w'.cell? ⟨p, 0, none⟩ = some (.int .i64 (k : Int)) ∧ w'.cell? ⟨p + 1, 0, none⟩ = some (.int .i64 (d : Int)) ∧ w'.cell? ⟨c, 0, none⟩ = some (.int .i64 (z : Int))) := Lib.hid (by
              have hpc := hpq
              refine ⟨?_, ?_, ?_⟩
              · rw [World.cell?_setCell_far _ _ _ _ (by show p + 1 + 1 ≠ p; omega)]; exact hc1
              · rw [World.cell?_setCell_far _ _ _ _ (by show p + 1 + 1 ≠ p + 1; omega)]; exact hc2
              · rw [World.cell?_setCell_far _ _ _ _ (by show p + 1 + 1 ≠ c; omega)]; exact hc4)
            clear hl9 hQ hq0 hq1 hq2 hq3 hq4 hcnt hz1 hk3 hzI
            go_wp2_with fail
            refine wp_calm ?_
            refine wp_region_held_drew (S := fun w' => w'.cell? ⟨p, 0, none⟩ = some (.int .i64 (k : Int)) ∧ w'.cell? ⟨p + 1, 0, none⟩ = some (.int .i64 (d : Int)) ∧ w'.cell? ⟨c, 0, none⟩ = some (.int .i64 (z : Int))) (by kernel_rfl) (by exact ⟨hc1, hc2, hc4⟩) (fun hHeld => ?_)
            refine wpAnyH_take (i := 0) (oi := _) (v := ?_) rfl (by kernel_rfl) (by kernel_rfl) (by kernel_rfl) (fun _ _ _ h => h) (Or.inl ⟨by rfl, ?_⟩) (by assumption) ?_
            rotate_left
            · (intro w' hSw; (try dsimp only at hSw); go_simp; all_goals with_reducible rfl)
            try simp only [Act.put, List.getElem_toArray, List.getElem_cons_zero, List.getElem_cons_succ, List.setIfInBounds_toArray, List.set_cons_zero, List.set_cons_succ]
            refine wpAnyH_take (i := 2) (oi := _) (v := ?_) rfl (by kernel_rfl) (by kernel_rfl) (by kernel_rfl) (fun _ _ _ h => h) (Or.inl ⟨by rfl, ?_⟩) (by assumption) ?_
            rotate_left
            · (intro w' hSw; (try dsimp only at hSw); go_simp; all_goals with_reducible rfl)
            try simp only [Act.put, List.getElem_toArray, List.getElem_cons_zero, List.getElem_cons_succ, List.setIfInBounds_toArray, List.set_cons_zero, List.set_cons_succ]
            refine wpAnyH_take (i := 3) (oi := _) (v := ?_) rfl (by kernel_rfl) (by kernel_rfl) (by kernel_rfl) (fun _ _ _ h => h) (Or.inl ⟨by rfl, ?_⟩) (by assumption) ?_
            rotate_left
            · (intro w' hSw; (try dsimp only at hSw); go_simp; all_goals with_reducible rfl)
            try simp only [Act.put, List.getElem_toArray, List.getElem_cons_zero, List.getElem_cons_succ, List.setIfInBounds_toArray, List.set_cons_zero, List.set_cons_succ]
            refine wpAnyH_take (i := 4) (oi := _) (v := ?_) rfl (by kernel_rfl) (by kernel_rfl) (by kernel_rfl) (fun _ _ _ h => h) (Or.inl ⟨by rfl, ?_⟩) (by assumption) ?_
            rotate_left
            · (intro w' hSw; (try dsimp only at hSw); go_simp; all_goals with_reducible rfl)
            try simp only [Act.put, List.getElem_toArray, List.getElem_cons_zero, List.getElem_cons_succ, List.setIfInBounds_toArray, List.set_cons_zero, List.set_cons_succ]
            refine wpAnyH_take (i := 5) (oi := _) (v := ?_) rfl (by kernel_rfl) (by kernel_rfl) (by kernel_rfl) (fun _ _ _ h => h) (Or.inl ⟨by rfl, ?_⟩) (by assumption) ?_
            rotate_left
            · (intro w' hSw; (try dsimp only at hSw); go_simp; all_goals with_reducible rfl)
            try simp only [Act.put, List.getElem_toArray, List.getElem_cons_zero, List.getElem_cons_succ, List.setIfInBounds_toArray, List.set_cons_zero, List.set_cons_succ]
            refine wpAnyH_take (i := 6) (oi := _) (v := ?_) rfl (by kernel_rfl) (by kernel_rfl) (by kernel_rfl) (fun _ _ _ h => h) (Or.inl ⟨by rfl, ?_⟩) (by assumption) ?_
            rotate_left
            · (intro w' hSw; (try dsimp only at hSw); go_simp; all_goals with_reducible rfl)
            try simp only [Act.put, List.getElem_toArray, List.getElem_cons_zero, List.getElem_cons_succ, List.setIfInBounds_toArray, List.set_cons_zero, List.set_cons_succ]
            refine wpAnyH_take (i := 7) (oi := _) (v := ?_) rfl (by kernel_rfl) (by kernel_rfl) (by kernel_rfl) (fun _ _ _ h => h) (Or.inl ⟨by rfl, ?_⟩) (by assumption) ?_
            rotate_left
            · (intro w' hSw; (try dsimp only at hSw); go_simp; all_goals with_reducible rfl)
            try simp only [Act.put, List.getElem_toArray, List.getElem_cons_zero, List.getElem_cons_succ, List.setIfInBounds_toArray, List.set_cons_zero, List.set_cons_succ]
            refine wpAnyH_take (i := 8) (oi := _) (v := .int .i64 (Q : Int)) rfl (by kernel_rfl) (by kernel_rfl) (by kernel_rfl) (fun _ _ _ h => h) (Or.inl ⟨by rfl, ?_⟩) (by assumption) ?_
            · (intro w' hSw; (try dsimp only at hSw); go_simp; all_goals (rw [HQ.out.1]; (try rw [HQ.out.2.1]); rw [if_neg (fun h => by have := hd3.1; omega)]))
            try simp only [Act.put, List.getElem_toArray, List.getElem_cons_zero, List.getElem_cons_succ, List.setIfInBounds_toArray, List.set_cons_zero, List.set_cons_succ]
            refine wpAnyH_take (i := 9) (oi := _) (v := .int .i64 (L : Int)) rfl (by kernel_rfl) (by kernel_rfl) (by kernel_rfl) (fun _ _ _ h => h) (Or.inl ⟨by rfl, ?_⟩) (by assumption) ?_
            · (intro w' hSw; (try dsimp only at hSw); go_simp; all_goals (rw [HQ.out.2.2.1]))
            try simp only [Act.put, List.getElem_toArray, List.getElem_cons_zero, List.getElem_cons_succ, List.setIfInBounds_toArray, List.set_cons_zero, List.set_cons_succ]
            refine wpAnyH_ready (rs := [1]) (by kernel_rfl) (by simp) ?_
            refine AllReadyH.cons rfl (fun K hK => ?_) AllReadyH.nil
            go_simp
            go_at_call 15
            refine HL9.out.mono ?_
            rintro e w7 ⟨rfl, rfl⟩
            refine hK.out _ _ (by exact hHeld) (fun hHeld => ?_)
            clear hK K
            try simp only [Act.put, List.getElem_toArray, List.getElem_cons_zero, List.getElem_cons_succ, List.setIfInBounds_toArray, List.set_cons_zero, List.set_cons_succ]
            refine wpAnyH_take (i := 10) (oi := _) (v := .bool true) rfl (by kernel_rfl) (by kernel_rfl) (by kernel_rfl) (fun _ _ _ h => h) (Or.inl ⟨by rfl, ?_⟩) (by assumption) ?_
            · (intro w' hSw; (try dsimp only at hSw); go_simp; all_goals simp)
            try simp only [Act.put, List.getElem_toArray, List.getElem_cons_zero, List.getElem_cons_succ, List.setIfInBounds_toArray, List.set_cons_zero, List.set_cons_succ]
            refine wpAnyH_take (i := 11) (oi := _) (v := ?_) rfl (by kernel_rfl) (by kernel_rfl) (by kernel_rfl) (fun _ _ _ h => h) (Or.inl ⟨by rfl, ?_⟩) (by assumption) ?_
            rotate_left
            · (intro w' hSw; (try dsimp only at hSw); go_simp; all_goals with_reducible rfl)
            try simp only [Act.put, List.getElem_toArray, List.getElem_cons_zero, List.getElem_cons_succ, List.setIfInBounds_toArray, List.set_cons_zero, List.set_cons_succ]
            refine wpAnyH_take (i := 12) (oi := _) (v := ?_) rfl (by kernel_rfl) (by kernel_rfl) (by kernel_rfl) (fun _ _ _ h => h) (Or.inl ⟨by rfl, ?_⟩) (by assumption) ?_
            rotate_left
            · (intro w' hSw; (try dsimp only at hSw); go_simp; all_goals with_reducible rfl)
            try simp only [Act.put, List.getElem_toArray, List.getElem_cons_zero, List.getElem_cons_succ, List.setIfInBounds_toArray, List.set_cons_zero, List.set_cons_succ]
            refine wpAnyH_take (i := 13) (oi := _) (v := ?_) rfl (by kernel_rfl) (by kernel_rfl) (by kernel_rfl) (fun _ _ _ h => h) (Or.inl ⟨by rfl, ?_⟩) (by assumption) ?_
            rotate_left
            · (intro w' hSw; (try dsimp only at hSw); go_simp; all_goals with_reducible rfl)
            try simp only [Act.put, List.getElem_toArray, List.getElem_cons_zero, List.getElem_cons_succ, List.setIfInBounds_toArray, List.set_cons_zero, List.set_cons_succ]
            refine wpAnyH_take (i := 14) (oi := _) (v := ?_) rfl (by kernel_rfl) (by kernel_rfl) (by kernel_rfl) (fun _ _ _ h => h) (Or.inl ⟨by rfl, ?_⟩) (by assumption) ?_
            rotate_left
            · (intro w' hSw; (try dsimp only at hSw); go_simp; all_goals with_reducible rfl)
            try simp only [Act.put, List.getElem_toArray, List.getElem_cons_zero, List.getElem_cons_succ, List.setIfInBounds_toArray, List.set_cons_zero, List.set_cons_succ]
            refine wpAnyH_take (i := 15) (oi := _) (v := .bool true) rfl (by kernel_rfl) (by kernel_rfl) (by kernel_rfl) (fun _ _ _ h => h) (Or.inl ⟨by rfl, ?_⟩) (by assumption) ?_
            · (intro w' hSw; (try dsimp only at hSw); go_simp; all_goals (rw [HQ.out.2.2.2.1]; exact HQ.out.2.2.2.2))
            try simp only [Act.put, List.getElem_toArray, List.getElem_cons_zero, List.getElem_cons_succ, List.setIfInBounds_toArray, List.set_cons_zero, List.set_cons_succ]
            refine wpAnyH_take (i := 16) (oi := _) (v := ?_) rfl (by kernel_rfl) (by kernel_rfl) (by kernel_rfl) (fun _ _ _ h => h) (Or.inl ⟨by rfl, ?_⟩) (by assumption) ?_
            rotate_left
            · (intro w' hSw; (try dsimp only at hSw); go_simp; all_goals with_reducible rfl)
            try simp only [Act.put, List.getElem_toArray, List.getElem_cons_zero, List.getElem_cons_succ, List.setIfInBounds_toArray, List.set_cons_zero, List.set_cons_succ]
            refine wpAnyH_ready (rs := [17]) (by kernel_rfl) (by simp) ?_
            refine AllReadyH.cons rfl (fun K hK => ?_) AllReadyH.nil
            go_simp
            refine hK.out _ _ (by exact HSF.out) (fun hHeld => ?_)
            clear hK K
            try simp only [Act.put, List.getElem_toArray, List.getElem_cons_zero, List.getElem_cons_succ, List.setIfInBounds_toArray, List.set_cons_zero, List.set_cons_succ]
            refine wpAnyH_done (by kernel_rfl) ?_ _
            go_wp2_with fail
            obtain ⟨hK, hbp, hD⟩ := HK.out
            have hpw := HPW.out
            have bx : Boxed (W'.setCell ⟨p + 1 + 1, 0, none⟩ (.bool true)).drew (p + 1 + 1) 4 (.bool true) := HBR.out.set _
            have hK' : (W'.setCell ⟨p + 1 + 1, 0, none⟩ (.bool true)).drew.heap[D]? = some (.deferred (some [])) := (Below.heap_setCell W' ⟨p + 1 + 1, 0, none⟩ (.bool true) D (by show D ≠ p + 1 + 1; omega)).trans hK
            refine ⟨by simp, .inl ⟨_, _, rfl, run_takeDeferred hK', ?_⟩⟩
            have hc5 := cell_kept bx.cell (grownBy_putObj' _ D (.deferred none)) (fun r e => by cases e; exact ⟨_, hK', rfl⟩)
            have hbf : Below w.heap.size w (W'.setCell ⟨p + 1 + 1, 0, none⟩ (.bool true)).drew := by
              have h1 : Below w.heap.size w W' := by rw [← hpw]; exact hbp
              exact (h1.setCell (p := ⟨p + 1 + 1, 0, none⟩) (by show w.heap.size ≤ p + 1 + 1; omega) _).drew
            refine ⟨.bool true, ?_, rfl, hbf.trans (belowK_b (w := w) (Nat.le_refl _) _ D _ _ (by omega) hK' rfl rfl)⟩
            simp [results, Try.f5, go_sem, hc5]
          case stop =>
            rintro D co pre W' hD hsp ⟨rfl, ini, x, z, rfl, h1, h2, h3⟩ hK
            exfalso
            rw [List.map_append, h1] at hsp
            exact h3 (cont_first hd3.1 h2 hsp)

end Go.Proofs.Ytdijbgkfdfchoaa.treeMany
