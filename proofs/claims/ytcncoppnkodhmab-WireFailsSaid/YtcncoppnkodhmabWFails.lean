/-
  WireFails: its walk.
-/
import Derived.Test.YtcncoppnkodhmabWAnsR
namespace Go.Proofs.Ytcncoppnkodhmab.wireFails
open Go.RowKit bsK Go.Proofs.Ytcncoppnkodhmab.tRow

set_option linter.unusedVariables false
set_option linter.unusedSimpArgs false

theorem and_511 (n : Int) : bits .and .i64 n 511 = n % 512 := by
  have hc : (BitVec.ofInt 64 511).toNat = 2 ^ 9 - 1 := by decide
  have key : (BitVec.ofInt 64 n &&& BitVec.ofInt 64 511).toNat = (n % ((2 ^ 64 : Nat) : Int)).toNat % 2 ^ 9 := by
    rw [BitVec.toNat_and, BitVec.toNat_ofInt, hc, Nat.and_two_pow_sub_one_eq_mod]
  show IntKind.i64.wrap ((BitVec.ofInt 64 n &&& BitVec.ofInt 64 511).toNat : Nat) = n % 512
  rw [key, IntKind.wrap_i64]
  omega

set_option maxHeartbeats 4000000 in
set_option maxRecDepth 100000 in
theorem walk {w : World} (e0 : Int) (_ : (Lit.int .i64 e0).wf = true) (n0 : Int) (_ : (Lit.int .i64 n0).wf = true) :
    Calls Try.prog 8 #[.int .i64 e0, .int .i64 n0] w fun r w' => r = .returned (.bool true) ∧ Below w.heap.size w w' := by
  have hm1 := and_511 e0
  obtain ⟨k, hk⟩ : ∃ k : Nat, e0 % 512 = (k : Int) := ⟨(e0 % 512).toNat, by omega⟩
  rw [hk] at hm1
  have hkb : k ≤ 511 := by omega
  have hm2 := and_mask16 n0
  obtain ⟨n, hn⟩ : ∃ n : Nat, n0 % 65536 = (n : Int) := ⟨(n0 % 65536).toNat, by omega⟩
  rw [hn] at hm2
  have hnb : n ≤ 65535 := by omega
  clear hk hn
  obtain ⟨xs, hxs⟩ : ∃ xs : ByteArray, xs = ⟨(octAn k 0 []).toArray⟩ := ⟨_, rfl⟩
  have HE : Hid (∀ W, Calls Try.prog 16 #[.agg #[.int .i64 (k : Int), .int .i64 0, .slice none 0 0]] W fun r w' => r = .returned (.string xs) ∧ Hid (Below W.heap.size W w')) := Lib.hid fun W => by
    refine (waenc_any (w := W) (k : Int) 0 (by omega) (by omega) (cap := 0) (ps := []) (.inl rfl) (by simp) (by simp) (by simp)).mono ?_
    rintro r w' ⟨rfl, hb⟩
    rw [Int.toNat_natCast]
    exact ⟨by rw [hxs]; rfl, Lib.hid hb⟩
  have hxl : xs.size ≤ 900000 := by
    have h1 : xs.size = (octAn k 0 []).length := by rw [hxs]; rfl
    have h2 := octN_lt k (by omega)
    have h3 := octN_lt 0 (by omega)
    rw [h1]
    unfold octAn
    simp only [List.length_append, List.flatMap_nil, List.length_nil]
    omega
  have HR : Hid (∀ W, Calls Try.prog 14 #[.string xs] W fun r w' => ∃ a c, r = .returned (.tuple #[.agg #[.int .i64 (k : Int), .int .i64 0, .slice a 0 c], .int .i64 0]) ∧ Hid (Below W.heap.size W w')) := Lib.hid fun W => by
    refine (wansr_any xs hxl W).mono ?_
    have hd : xs.data.toList = octAn k 0 [] := by rw [hxs]
    rw [hd, readAn_laid (by omega) (by omega) (by simp) (by simp)]
    rintro r w' ⟨hb, ⟨h, _⟩ | ⟨k', n', ps, a, c, h, rfl, _⟩⟩
    · cases h
    · simp only [Option.some.injEq, Prod.mk.injEq] at h
      obtain ⟨rfl, rfl, rfl⟩ := h
      exact ⟨a, c, rfl, Lib.hid hb⟩
  have HS1 : Hid (∀ W a c, Calls Try.prog 15 #[.agg #[.int .i64 (k : Int), .int .i64 0, .slice a 0 c], .agg #[.int .i64 (k : Int), .int .i64 0, .slice none 0 0]] W fun r w' => r = .returned (.bool true) ∧ Hid (Below W.heap.size W w')) := Lib.hid fun W a c => by
    refine (wsame_any (w := W) (k : Int) 0 (k : Int) 0 (cap1 := c) (cap2 := 0) (a1 := a) (a2 := none) (len1 := 0) (len2 := 0) (ps := []) (qs := []) (.inl rfl) rfl (.inl rfl) rfl (by omega) (by omega)).mono ?_
    rintro r w' ⟨rfl, hb⟩
    rw [smA_true ⟨rfl, rfl, rfl⟩]
    exact ⟨rfl, Lib.hid hb⟩
  have HS2 : Hid (∀ W, Calls Try.prog 15 #[.agg #[.int .i64 (k : Int), .int .i64 0, .slice none 0 0], .agg #[.int .i64 (k : Int), .int .i64 (n : Int), .slice none 0 0]] W fun r w' => r = .returned (.bool (decide (n = 0))) ∧ Hid (Below W.heap.size W w')) := Lib.hid fun W => by
    refine (wsame_any (w := W) (k : Int) 0 (k : Int) (n : Int) (cap1 := 0) (cap2 := 0) (a1 := none) (a2 := none) (len1 := 0) (len2 := 0) (ps := []) (qs := []) (.inl rfl) rfl (.inl rfl) rfl (by omega) (by omega)).mono ?_
    rintro r w' ⟨rfl, hb⟩
    by_cases h : n = 0
    · rw [smA_true ⟨rfl, by omega, rfl⟩, decide_eq_true h]
      exact ⟨rfl, Lib.hid hb⟩
    · rw [smA_false (fun h2 => h (by omega)), decide_eq_false h]
      exact ⟨rfl, Lib.hid hb⟩
  clear hxs hxl
  go_enter Try.func8, Try.ntmps8
  go_wp2_with fail
  refine (head18_any _).mono ?_
  rintro e w1 ⟨rfl, hb1⟩
  have HB1 := Lib.hid hb1
  clear hb1
  go_wp2_with fail
  refine (wfail_any _ _).mono ?_
  rintro e w2 ⟨rfl, hb2⟩
  have HB2 := Lib.hid (HB1.out.trans (hb2.mono HB1.out.size))
  clear hb2 HB1 hm1 hm2
  go_wp2_with fail
  refine (HE.out _).mono ?_
  rintro e w3 ⟨rfl, HB3⟩
  have HG3 : Hid (Box w3 w2.heap.size 35 #[.int .i64 (k : Int), .int .i64 0, .slice none 0 0] ∧ Below w.heap.size w w3) := Lib.hid (by
    have h0 := HB2.out.alloc HB2.out.size (.cells #[.int .i64 (k : Int), .int .i64 0, .slice none 0 0] 35)
    exact ⟨(HB3.out.block _ (by rw [World.size_alloc]; omega)).trans (Box.new w2 _ _), h0.trans (HB3.out.mono h0.size)⟩)
  clear HB3 HB2 HE
  go_wp2_with fail
  refine (HR.out _).mono ?_
  rintro e w4 ⟨a, c, rfl, HB4⟩
  obtain ⟨g, hg⟩ : ∃ g, g = w2.heap.size := ⟨_, rfl⟩
  rw [← hg] at HG3 ⊢
  clear hg HR
  have HG4 : Hid (Box w4 g 35 #[.int .i64 (k : Int), .int .i64 0, .slice none 0 0] ∧ Below w.heap.size w w4) := Lib.hid ⟨(HB4.out.block _ HG3.out.1.lt).trans HG3.out.1, HG3.out.2.trans (HB4.out.mono HG3.out.2.size)⟩
  clear HG3 HB4
  obtain ⟨y0, y1, y2⟩ := Box.three HG4.out.1
  have hgl := HG4.out.1.lt
  go_wp2_with fail
  refine (HS1.out _ a c).mono ?_
  rintro e w6 ⟨rfl, HB6⟩
  have HG6 : Hid (Box w6 g 35 #[.int .i64 (k : Int), .int .i64 0, .slice none 0 0] ∧ Box w6 w4.heap.size 35 #[.int .i64 (k : Int), .int .i64 0, .slice a 0 c] ∧ Box w6 (w4.heap.size + 1) 35 #[.int .i64 (k : Int), .int .i64 (n : Int), .slice none 0 0] ∧ Below w.heap.size w w6) := Lib.hid (by
    have h1 := Box.new w4 35 #[.int .i64 (k : Int), .int .i64 0, .slice a 0 c]
    have h2 := Box.new (w4.alloc (.cells #[.int .i64 (k : Int), .int .i64 0, .slice a 0 c] 35)) 35 #[.int .i64 (k : Int), .int .i64 (n : Int), .slice none 0 0]
    rw [World.size_alloc] at h2
    have h1' := h1.alloc (.cells #[.int .i64 (k : Int), .int .i64 (n : Int), .slice none 0 0] 35)
    have h3 := (HG4.out.1.alloc (.cells #[.int .i64 (k : Int), .int .i64 0, .slice a 0 c] 35)).alloc (.cells #[.int .i64 (k : Int), .int .i64 (n : Int), .slice none 0 0] 35)
    have h4 := (HG4.out.2.alloc HG4.out.2.size (.cells #[.int .i64 (k : Int), .int .i64 0, .slice a 0 c] 35)).alloc (by have := HG4.out.2.size; rw [World.size_alloc]; omega) (.cells #[.int .i64 (k : Int), .int .i64 (n : Int), .slice none 0 0] 35)
    exact ⟨(HB6.out.block _ h3.lt).trans h3, (HB6.out.block _ h1'.lt).trans h1', (HB6.out.block _ h2.lt).trans h2, h4.trans (HB6.out.mono h4.size)⟩)
  clear HB6 HG4 y0 y1 y2 hgl HS1
  obtain ⟨y0, y1, y2⟩ := Box.three HG6.out.1
  obtain ⟨z0, z1, z2⟩ := Box.three HG6.out.2.1
  obtain ⟨x0, x1, x2⟩ := Box.three HG6.out.2.2.1
  have HS2' := Lib.hid (HS2.out w6)
  clear HS2
  have HB := Lib.hid HG6.out.2.2.2
  by_cases h0 : n = 0
  · rw [decide_eq_true h0] at HS2'
    subst h0
    go_wp2_with fail
    refine HS2'.out.mono ?_
    rintro e w7 ⟨rfl, HB7⟩
    have HBL := Lib.hid (HB.out.trans (HB7.out.mono HB.out.size))
    clear HB7
    go_wp2
    go_ret
    exact ⟨rfl, HBL.out⟩
  · rw [decide_eq_false h0] at HS2'
    have h0' : ((n : Int) == 0) = false := by rw [beq_eq_false_iff_ne]; omega
    go_wp2_with fail
    refine HS2'.out.mono ?_
    rintro e w7 ⟨rfl, HB7⟩
    have HBL := Lib.hid (HB.out.trans (HB7.out.mono HB.out.size))
    clear HB7
    go_wp2
    go_ret
    exact ⟨rfl, HBL.out⟩

end Go.Proofs.Ytcncoppnkodhmab.wireFails
