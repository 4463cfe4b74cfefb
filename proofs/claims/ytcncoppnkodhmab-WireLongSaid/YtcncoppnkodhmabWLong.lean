/-
  WireLong: its walk.
-/
import Derived.Test.YtcncoppnkodhmabWAskW
import Derived.Test.YtcncoppnkodhmabTRow
import Derived.Laws.OwnMore
namespace Go.Proofs.Ytcncoppnkodhmab.wireLong
open Go.RowKit bsK Go.Proofs.Ytcncoppnkodhmab.wireAsks

set_option linter.unusedVariables false
set_option linter.unusedSimpArgs false

theorem infoB8 : (Try.prog.info? 5).map (fun i => (i.zero, i.size, i.bytes)) = some (some (.int .u8 0), 1, 1) := by kernel_rfl

theorem and_mask4 (n : Int) : bits .and .i64 n 15 = n % 16 := by
  have hc : (BitVec.ofInt 64 15).toNat = 2 ^ 4 - 1 := by decide
  have key : (BitVec.ofInt 64 n &&& BitVec.ofInt 64 15).toNat = (n % ((2 ^ 64 : Nat) : Int)).toNat % 2 ^ 4 := by
    rw [BitVec.toNat_and, BitVec.toNat_ofInt, hc, Nat.and_two_pow_sub_one_eq_mod]
  show IntKind.i64.wrap ((BitVec.ofInt 64 n &&& BitVec.ofInt 64 15).toNat : Nat) = n % 16
  rw [key, IntKind.wrap_i64]
  omega

/-- 'make' of bytes -/
theorem make_bytes (n : Nat) (hn : n ≤ 1000000) :
    ∃ arr : Array Value, arr.toList = List.replicate n (.int .u8 0) ∧ ∀ w, (Instr.makeSlice 44 (.int .i64 (n : Int)) (.int .i64 (n : Int))).run Try.prog w = .ok (.slice (some ⟨w.heap.size, 0, none⟩) n n) (w.alloc (.cells arr 5)) := by
  obtain ⟨i, hi, hz, hi1, hi2⟩ := info_parts infoB8
  refine ⟨madeCells (Value.int .u8 0).cells n, toList_madeCells_one _ _, fun w => ?_⟩
  have h := run_makeSlice (P := Try.prog) w 44 5 i (.int .u8 0) Try.underlying44 hi hz .i64 .i64 (n : Int) (n : Int) (by omega) (Int.le_refl _) (by rw [hi1]; simp only [Int.toNat_natCast]; omega) (by rw [hi2]; omega) (by omega)
  rw [hi1] at h
  simpa using h

/-- 'string' of bytes that lie in a block of their own -/
theorem conv_new (w : World) (l : List UInt8) (n c : Nat) (hn : l.length = n) (a : Array Value) (ha : a.toList = Lib.byteCells l) :
    (convert 44 9 (.slice (some ⟨w.heap.size, 0, none⟩) n c)).run Try.prog (w.alloc (.cells a 5)) = .ok (.string ⟨l.toArray⟩) (w.alloc (.cells a 5)) := by
  subst hn
  refine run_convert_bytes_back (P := Try.prog) (w.alloc (.cells a 5)) 44 9 5 ⟨w.heap.size, 0, none⟩ c l Try.underlying44 Try.underlying5 Try.underlying9 fun j hj => ?_
  rw [addr_at, cell_of_row (w.alloc (.cells a 5)) w.heap.size j a 5 (0, 0) (heap_alloc_new w _)]
  have hj' : j < (Lib.byteCells l).length := by simpa [Lib.byteCells] using hj
  have := congrArg (·[j]?) ha
  simp only [Array.getElem?_toList] at this
  rw [this, List.getElem?_eq_getElem hj']
  simp [Lib.byteCells]

theorem zeros_cells (n : Nat) : Lib.byteCells (List.replicate n 0) = List.replicate n (.int .u8 0) := by simp [Lib.byteCells]

/-- a question with one text -/
def qj (Z : ByteArray) : Nat → Ak
  | 0 => ⟨5, Z, ⟨#[]⟩, ⟨#[]⟩, ⟨#[]⟩, 0, 0⟩
  | 1 => ⟨5, ⟨#[]⟩, Z, ⟨#[]⟩, ⟨#[]⟩, 0, 0⟩
  | 2 => ⟨5, ⟨#[]⟩, ⟨#[]⟩, Z, ⟨#[]⟩, 0, 0⟩
  | _ => ⟨5, ⟨#[]⟩, ⟨#[]⟩, ⟨#[]⟩, Z, 0, 0⟩
theorem qj_right (Z : ByteArray) (j : Nat) : (qj Z j).right = decide (Z.size ≤ 4096) := by
  unfold Ak.right
  match j with
  | 0 => show (decide (Z.size ≤ 4096) && true) = _; simp
  | 1 => show (true && (decide (Z.size ≤ 4096) && true)) = _; simp
  | 2 => show (true && (true && (decide (Z.size ≤ 4096) && true))) = _; simp
  | j + 3 => show (true && (true && (true && (decide (Z.size ≤ 4096) && true)))) = _; simp

attribute [-go_sem] run_eql_struct

set_option maxHeartbeats 4000000 in
set_option maxRecDepth 100000 in
theorem walk {w : World} (n : Int) (_ : (Lit.int .i64 n).wf = true) (which : Int) (_ : (Lit.int .i64 which).wf = true) :
    Calls Try.prog 7 #[.int .i64 n, .int .i64 which] w fun e w' => e = .returned (.bool true) ∧ Below w.heap.size w w' := by
  obtain ⟨m, hm⟩ : ∃ m : Nat, n % 16 = (m : Int) := ⟨(n % 16).toNat, by omega⟩
  have hmask := and_mask4 n
  rw [hm] at hmask
  have hm16 : m ≤ 15 := by omega
  obtain ⟨j, hj⟩ : ∃ j : Nat, which % 4 = (j : Int) := ⟨(which % 4).toNat, by omega⟩
  have hmask2 := and_mask2 which
  rw [hj] at hmask2
  have hj4 : j < 4 := by omega
  obtain ⟨k, hk⟩ : ∃ k : Nat, k = 4090 + m := ⟨_, rfl⟩
  have ek : IntKind.i64.wrap (4090 + (m : Int)) = (k : Int) := by rw [IntKind.wrap_i64]; omega
  have ek2 : 4090 + (m : Int) = (k : Int) := by omega
  obtain ⟨arr, ha, hmk⟩ := make_bytes k (by omega)
  have hcv := fun (w : World) => conv_new w (List.replicate k 0) k k (by simp) arr (by rw [ha, zeros_cells])
  obtain ⟨Z, hZ⟩ : ∃ Z : ByteArray, Z = ⟨(List.replicate k (0 : UInt8)).toArray⟩ := ⟨_, rfl⟩
  rw [← hZ] at hcv
  have hzs : Z.size = k := by rw [hZ]; show (List.replicate k (0 : UInt8)).toArray.size = k; simp
  have HRT : Hid ((qj Z j).right = decide (k ≤ 4096)) := Lib.hid (by rw [qj_right, hzs])
  have hkb : (k : Int) ≤ 4105 := by omega
  have HM := Lib.hid hmask
  have HM2 := Lib.hid hmask2
  have HEK := Lib.hid ek
  have HEK2 := Lib.hid ek2
  have HMK := Lib.hid hmk
  have HCV := Lib.hid hcv
  clear hm hj hk hZ hzs ha hmask hmask2 ek ek2 hmk hcv hm16
  by_cases hlen : k ≤ 4096
  · have hlenI : ¬ ((4096 : Int) < (k : Int)) := by omega
    rw [decide_eq_true hlen] at HRT
    obtain ⟨xs, hxs⟩ : ∃ xs : ByteArray, xs = ⟨(octA (qj Z j)).toArray⟩ := ⟨_, rfl⟩
    have HE : Hid (∀ W, Calls Try.prog 10 #[.agg (qj Z j).cells] W fun e w' => e = .returned (.tuple #[.string xs, .int .i64 0]) ∧ Hid (Below W.heap.size W w')) := Lib.hid fun W => (wenc_yes (qj Z j) W HRT.out).mono fun e w' ⟨he, hb⟩ => ⟨by rw [he, hxs], Lib.hid hb⟩
    have HA : Hid (∀ W, Calls Try.prog 13 #[.string xs] W fun e w' => e = .returned (.tuple #[.agg (qj Z j).cells, .int .i64 0]) ∧ Hid (Below W.heap.size W w')) := Lib.hid fun W => read_own HRT.out hxs (octA_len HRT.out).1 W
    have HQL : Hid (∀ W, (binOp .eql 24 (.agg (qj Z j).cells) (.agg (qj Z j).cells)).run Try.prog W = .ok (.bool true) W) := Lib.hid fun W => by
      have := ak_eql (qj Z j) (qj Z j) W
      rwa [smA_true rfl] at this
    clear hxs HRT
    obtain rfl | rfl | rfl | rfl : j = 0 ∨ j = 1 ∨ j = 2 ∨ j = 3 := by omega
    · have hql : ∀ W, (binOp .eql 24 (.agg #[.int .i64 5, .string Z, .string ⟨#[]⟩, .string ⟨#[]⟩, .string ⟨#[]⟩, .int .i64 0, .int .i64 0]) (.agg #[.int .i64 5, .string Z, .string ⟨#[]⟩, .string ⟨#[]⟩, .string ⟨#[]⟩, .int .i64 0, .int .i64 0])).run Try.prog W = .ok (.bool true) W := HQL.out
      have HA' : Hid (∀ W, Calls Try.prog 13 #[.string xs] W fun e w' => e = .returned (.tuple #[.agg #[.int .i64 5, .string Z, .string ⟨#[]⟩, .string ⟨#[]⟩, .string ⟨#[]⟩, .int .i64 0, .int .i64 0], .int .i64 0]) ∧ Hid (Below W.heap.size W w')) := HA
      clear HA
      have hmask := HM.out
      have hmask2 := HM2.out
      have ek := HEK.out
      have ek2 := HEK2.out
      have hmk := HMK.out
      have hcv := HCV.out
      go_enter Try.func7, Try.ntmps7
      go_wp2_with fail
      refine (head18_any _).mono ?_
      rintro e w1 ⟨rfl, hb1⟩
      have HB1 := Lib.hid hb1
      clear hb1
      go_wp2_with fail
      refine (HE.out _).mono ?_
      rintro e w2 ⟨rfl, HB2⟩
      clear hmask hmask2 ek ek2 hmk hcv HM HM2 HEK HEK2 HMK HCV HE
      go_wp2_with fail
      refine (HA'.out _).mono ?_
      rintro e w3 ⟨rfl, HB3⟩
      have hg0 : Box ((w1.alloc (.cells arr 5)).alloc (.cells #[.int .i64 5, .string Z, .string ⟨#[]⟩, .string ⟨#[]⟩, .string ⟨#[]⟩, .int .i64 0, .int .i64 0] 24)) (w1.heap.size + 1) 24 #[.int .i64 5, .string Z, .string ⟨#[]⟩, .string ⟨#[]⟩, .string ⟨#[]⟩, .int .i64 0, .int .i64 0] := by
        have := Box.new (w1.alloc (.cells arr 5)) 24 #[.int .i64 5, .string Z, .string ⟨#[]⟩, .string ⟨#[]⟩, .string ⟨#[]⟩, .int .i64 0, .int .i64 0]
        rwa [World.size_alloc] at this
      have hl0 : Below w.heap.size w ((w1.alloc (.cells arr 5)).alloc (.cells #[.int .i64 5, .string Z, .string ⟨#[]⟩, .string ⟨#[]⟩, .string ⟨#[]⟩, .int .i64 0, .int .i64 0] 24)) := (HB1.out.alloc HB1.out.size _).alloc (by have := HB1.out.size; rw [World.size_alloc]; omega) _
      have hb2 : Below ((w1.alloc (.cells arr 5)).alloc (.cells #[.int .i64 5, .string Z, .string ⟨#[]⟩, .string ⟨#[]⟩, .string ⟨#[]⟩, .int .i64 0, .int .i64 0] 24)).heap.size ((w1.alloc (.cells arr 5)).alloc (.cells #[.int .i64 5, .string Z, .string ⟨#[]⟩, .string ⟨#[]⟩, .string ⟨#[]⟩, .int .i64 0, .int .i64 0] 24)) w2 := HB2.out
      have hb3 := hb2.trans (HB3.out.mono hb2.size)
      have hb4 := hb3.trans (((Below.refl w3.heap.size w3).alloc (Nat.le_refl _) (.cells #[.int .i64 5, .string Z, .string ⟨#[]⟩, .string ⟨#[]⟩, .string ⟨#[]⟩, .int .i64 0, .int .i64 0] 24)).mono hb3.size)
      have hg4 := (hb4.block _ hg0.lt).trans hg0
      obtain ⟨y0, y1, y2, y3, y4, y5, y6⟩ := Box.seven hg4
      have HBL := Lib.hid (hl0.trans (hb4.mono hl0.size))
      clear hg0 hl0 hb2 hb3 hb4 hg4 HB1 HB2 HB3 HA'
      go_wp2
      go_ret
      exact ⟨rfl, HBL.out⟩
    · have hql : ∀ W, (binOp .eql 24 (.agg #[.int .i64 5, .string ⟨#[]⟩, .string Z, .string ⟨#[]⟩, .string ⟨#[]⟩, .int .i64 0, .int .i64 0]) (.agg #[.int .i64 5, .string ⟨#[]⟩, .string Z, .string ⟨#[]⟩, .string ⟨#[]⟩, .int .i64 0, .int .i64 0])).run Try.prog W = .ok (.bool true) W := HQL.out
      have HA' : Hid (∀ W, Calls Try.prog 13 #[.string xs] W fun e w' => e = .returned (.tuple #[.agg #[.int .i64 5, .string ⟨#[]⟩, .string Z, .string ⟨#[]⟩, .string ⟨#[]⟩, .int .i64 0, .int .i64 0], .int .i64 0]) ∧ Hid (Below W.heap.size W w')) := HA
      clear HA
      have hmask := HM.out
      have hmask2 := HM2.out
      have ek := HEK.out
      have ek2 := HEK2.out
      have hmk := HMK.out
      have hcv := HCV.out
      go_enter Try.func7, Try.ntmps7
      go_wp2_with fail
      refine (head18_any _).mono ?_
      rintro e w1 ⟨rfl, hb1⟩
      have HB1 := Lib.hid hb1
      clear hb1
      go_wp2_with fail
      refine (HE.out _).mono ?_
      rintro e w2 ⟨rfl, HB2⟩
      clear hmask hmask2 ek ek2 hmk hcv HM HM2 HEK HEK2 HMK HCV HE
      go_wp2_with fail
      refine (HA'.out _).mono ?_
      rintro e w3 ⟨rfl, HB3⟩
      have hg0 : Box ((w1.alloc (.cells arr 5)).alloc (.cells #[.int .i64 5, .string ⟨#[]⟩, .string Z, .string ⟨#[]⟩, .string ⟨#[]⟩, .int .i64 0, .int .i64 0] 24)) (w1.heap.size + 1) 24 #[.int .i64 5, .string ⟨#[]⟩, .string Z, .string ⟨#[]⟩, .string ⟨#[]⟩, .int .i64 0, .int .i64 0] := by
        have := Box.new (w1.alloc (.cells arr 5)) 24 #[.int .i64 5, .string ⟨#[]⟩, .string Z, .string ⟨#[]⟩, .string ⟨#[]⟩, .int .i64 0, .int .i64 0]
        rwa [World.size_alloc] at this
      have hl0 : Below w.heap.size w ((w1.alloc (.cells arr 5)).alloc (.cells #[.int .i64 5, .string ⟨#[]⟩, .string Z, .string ⟨#[]⟩, .string ⟨#[]⟩, .int .i64 0, .int .i64 0] 24)) := (HB1.out.alloc HB1.out.size _).alloc (by have := HB1.out.size; rw [World.size_alloc]; omega) _
      have hb2 : Below ((w1.alloc (.cells arr 5)).alloc (.cells #[.int .i64 5, .string ⟨#[]⟩, .string Z, .string ⟨#[]⟩, .string ⟨#[]⟩, .int .i64 0, .int .i64 0] 24)).heap.size ((w1.alloc (.cells arr 5)).alloc (.cells #[.int .i64 5, .string ⟨#[]⟩, .string Z, .string ⟨#[]⟩, .string ⟨#[]⟩, .int .i64 0, .int .i64 0] 24)) w2 := HB2.out
      have hb3 := hb2.trans (HB3.out.mono hb2.size)
      have hb4 := hb3.trans (((Below.refl w3.heap.size w3).alloc (Nat.le_refl _) (.cells #[.int .i64 5, .string ⟨#[]⟩, .string Z, .string ⟨#[]⟩, .string ⟨#[]⟩, .int .i64 0, .int .i64 0] 24)).mono hb3.size)
      have hg4 := (hb4.block _ hg0.lt).trans hg0
      obtain ⟨y0, y1, y2, y3, y4, y5, y6⟩ := Box.seven hg4
      have HBL := Lib.hid (hl0.trans (hb4.mono hl0.size))
      clear hg0 hl0 hb2 hb3 hb4 hg4 HB1 HB2 HB3 HA'
      go_wp2
      go_ret
      exact ⟨rfl, HBL.out⟩
    · have hql : ∀ W, (binOp .eql 24 (.agg #[.int .i64 5, .string ⟨#[]⟩, .string ⟨#[]⟩, .string Z, .string ⟨#[]⟩, .int .i64 0, .int .i64 0]) (.agg #[.int .i64 5, .string ⟨#[]⟩, .string ⟨#[]⟩, .string Z, .string ⟨#[]⟩, .int .i64 0, .int .i64 0])).run Try.prog W = .ok (.bool true) W := HQL.out
      have HA' : Hid (∀ W, Calls Try.prog 13 #[.string xs] W fun e w' => e = .returned (.tuple #[.agg #[.int .i64 5, .string ⟨#[]⟩, .string ⟨#[]⟩, .string Z, .string ⟨#[]⟩, .int .i64 0, .int .i64 0], .int .i64 0]) ∧ Hid (Below W.heap.size W w')) := HA
      clear HA
      have hmask := HM.out
      have hmask2 := HM2.out
      have ek := HEK.out
      have ek2 := HEK2.out
      have hmk := HMK.out
      have hcv := HCV.out
      go_enter Try.func7, Try.ntmps7
      go_wp2_with fail
      refine (head18_any _).mono ?_
      rintro e w1 ⟨rfl, hb1⟩
      have HB1 := Lib.hid hb1
      clear hb1
      go_wp2_with fail
      refine (HE.out _).mono ?_
      rintro e w2 ⟨rfl, HB2⟩
      clear hmask hmask2 ek ek2 hmk hcv HM HM2 HEK HEK2 HMK HCV HE
      go_wp2_with fail
      refine (HA'.out _).mono ?_
      rintro e w3 ⟨rfl, HB3⟩
      have hg0 : Box ((w1.alloc (.cells arr 5)).alloc (.cells #[.int .i64 5, .string ⟨#[]⟩, .string ⟨#[]⟩, .string Z, .string ⟨#[]⟩, .int .i64 0, .int .i64 0] 24)) (w1.heap.size + 1) 24 #[.int .i64 5, .string ⟨#[]⟩, .string ⟨#[]⟩, .string Z, .string ⟨#[]⟩, .int .i64 0, .int .i64 0] := by
        have := Box.new (w1.alloc (.cells arr 5)) 24 #[.int .i64 5, .string ⟨#[]⟩, .string ⟨#[]⟩, .string Z, .string ⟨#[]⟩, .int .i64 0, .int .i64 0]
        rwa [World.size_alloc] at this
      have hl0 : Below w.heap.size w ((w1.alloc (.cells arr 5)).alloc (.cells #[.int .i64 5, .string ⟨#[]⟩, .string ⟨#[]⟩, .string Z, .string ⟨#[]⟩, .int .i64 0, .int .i64 0] 24)) := (HB1.out.alloc HB1.out.size _).alloc (by have := HB1.out.size; rw [World.size_alloc]; omega) _
      have hb2 : Below ((w1.alloc (.cells arr 5)).alloc (.cells #[.int .i64 5, .string ⟨#[]⟩, .string ⟨#[]⟩, .string Z, .string ⟨#[]⟩, .int .i64 0, .int .i64 0] 24)).heap.size ((w1.alloc (.cells arr 5)).alloc (.cells #[.int .i64 5, .string ⟨#[]⟩, .string ⟨#[]⟩, .string Z, .string ⟨#[]⟩, .int .i64 0, .int .i64 0] 24)) w2 := HB2.out
      have hb3 := hb2.trans (HB3.out.mono hb2.size)
      have hb4 := hb3.trans (((Below.refl w3.heap.size w3).alloc (Nat.le_refl _) (.cells #[.int .i64 5, .string ⟨#[]⟩, .string ⟨#[]⟩, .string Z, .string ⟨#[]⟩, .int .i64 0, .int .i64 0] 24)).mono hb3.size)
      have hg4 := (hb4.block _ hg0.lt).trans hg0
      obtain ⟨y0, y1, y2, y3, y4, y5, y6⟩ := Box.seven hg4
      have HBL := Lib.hid (hl0.trans (hb4.mono hl0.size))
      clear hg0 hl0 hb2 hb3 hb4 hg4 HB1 HB2 HB3 HA'
      go_wp2
      go_ret
      exact ⟨rfl, HBL.out⟩
    · have hql : ∀ W, (binOp .eql 24 (.agg #[.int .i64 5, .string ⟨#[]⟩, .string ⟨#[]⟩, .string ⟨#[]⟩, .string Z, .int .i64 0, .int .i64 0]) (.agg #[.int .i64 5, .string ⟨#[]⟩, .string ⟨#[]⟩, .string ⟨#[]⟩, .string Z, .int .i64 0, .int .i64 0])).run Try.prog W = .ok (.bool true) W := HQL.out
      have HA' : Hid (∀ W, Calls Try.prog 13 #[.string xs] W fun e w' => e = .returned (.tuple #[.agg #[.int .i64 5, .string ⟨#[]⟩, .string ⟨#[]⟩, .string ⟨#[]⟩, .string Z, .int .i64 0, .int .i64 0], .int .i64 0]) ∧ Hid (Below W.heap.size W w')) := HA
      clear HA
      have hmask := HM.out
      have hmask2 := HM2.out
      have ek := HEK.out
      have ek2 := HEK2.out
      have hmk := HMK.out
      have hcv := HCV.out
      go_enter Try.func7, Try.ntmps7
      go_wp2_with fail
      refine (head18_any _).mono ?_
      rintro e w1 ⟨rfl, hb1⟩
      have HB1 := Lib.hid hb1
      clear hb1
      go_wp2_with fail
      refine (HE.out _).mono ?_
      rintro e w2 ⟨rfl, HB2⟩
      clear hmask hmask2 ek ek2 hmk hcv HM HM2 HEK HEK2 HMK HCV HE
      go_wp2_with fail
      refine (HA'.out _).mono ?_
      rintro e w3 ⟨rfl, HB3⟩
      have hg0 : Box ((w1.alloc (.cells arr 5)).alloc (.cells #[.int .i64 5, .string ⟨#[]⟩, .string ⟨#[]⟩, .string ⟨#[]⟩, .string Z, .int .i64 0, .int .i64 0] 24)) (w1.heap.size + 1) 24 #[.int .i64 5, .string ⟨#[]⟩, .string ⟨#[]⟩, .string ⟨#[]⟩, .string Z, .int .i64 0, .int .i64 0] := by
        have := Box.new (w1.alloc (.cells arr 5)) 24 #[.int .i64 5, .string ⟨#[]⟩, .string ⟨#[]⟩, .string ⟨#[]⟩, .string Z, .int .i64 0, .int .i64 0]
        rwa [World.size_alloc] at this
      have hl0 : Below w.heap.size w ((w1.alloc (.cells arr 5)).alloc (.cells #[.int .i64 5, .string ⟨#[]⟩, .string ⟨#[]⟩, .string ⟨#[]⟩, .string Z, .int .i64 0, .int .i64 0] 24)) := (HB1.out.alloc HB1.out.size _).alloc (by have := HB1.out.size; rw [World.size_alloc]; omega) _
      have hb2 : Below ((w1.alloc (.cells arr 5)).alloc (.cells #[.int .i64 5, .string ⟨#[]⟩, .string ⟨#[]⟩, .string ⟨#[]⟩, .string Z, .int .i64 0, .int .i64 0] 24)).heap.size ((w1.alloc (.cells arr 5)).alloc (.cells #[.int .i64 5, .string ⟨#[]⟩, .string ⟨#[]⟩, .string ⟨#[]⟩, .string Z, .int .i64 0, .int .i64 0] 24)) w2 := HB2.out
      have hb3 := hb2.trans (HB3.out.mono hb2.size)
      have hb4 := hb3.trans (((Below.refl w3.heap.size w3).alloc (Nat.le_refl _) (.cells #[.int .i64 5, .string ⟨#[]⟩, .string ⟨#[]⟩, .string ⟨#[]⟩, .string Z, .int .i64 0, .int .i64 0] 24)).mono hb3.size)
      have hg4 := (hb4.block _ hg0.lt).trans hg0
      obtain ⟨y0, y1, y2, y3, y4, y5, y6⟩ := Box.seven hg4
      have HBL := Lib.hid (hl0.trans (hb4.mono hl0.size))
      clear hg0 hl0 hb2 hb3 hb4 hg4 HB1 HB2 HB3 HA'
      go_wp2
      go_ret
      exact ⟨rfl, HBL.out⟩
  · have hlenI : (4096 : Int) < (k : Int) := by omega
    rw [decide_eq_false hlen] at HRT
    have HE : Hid (∀ W, Calls Try.prog 10 #[.agg (qj Z j).cells] W fun e w' => e = .returned (.tuple #[.string ⟨#[]⟩, .int .i64 1]) ∧ Hid (Below W.heap.size W w')) := Lib.hid fun W => (wenc_no (qj Z j) W HRT.out).mono fun e w' ⟨he, hb⟩ => ⟨he, Lib.hid hb⟩
    have HA : Hid (∀ W, Calls Try.prog 11 #[.agg (qj Z j).cells] W fun e w' => e = .returned (.bool false) ∧ Hid (Below W.heap.size W w')) := Lib.hid fun W => (wright_any (qj Z j) W).mono fun e w' ⟨he, hb⟩ => ⟨by rw [he, HRT.out], Lib.hid hb⟩
    clear HRT
    obtain rfl | rfl | rfl | rfl : j = 0 ∨ j = 1 ∨ j = 2 ∨ j = 3 := by omega
    · have hmask := HM.out
      have hmask2 := HM2.out
      have ek := HEK.out
      have ek2 := HEK2.out
      have hmk := HMK.out
      have hcv := HCV.out
      go_enter Try.func7, Try.ntmps7
      go_wp2_with fail
      refine (head18_any _).mono ?_
      rintro e w1 ⟨rfl, hb1⟩
      have HB1 := Lib.hid hb1
      clear hb1
      go_wp2_with fail
      refine (HE.out _).mono ?_
      rintro e w2 ⟨rfl, HB2⟩
      clear hmask hmask2 ek ek2 hmk hcv HM HM2 HEK HEK2 HMK HCV HE
      have hg0 : Box ((w1.alloc (.cells arr 5)).alloc (.cells #[.int .i64 5, .string Z, .string ⟨#[]⟩, .string ⟨#[]⟩, .string ⟨#[]⟩, .int .i64 0, .int .i64 0] 24)) (w1.heap.size + 1) 24 #[.int .i64 5, .string Z, .string ⟨#[]⟩, .string ⟨#[]⟩, .string ⟨#[]⟩, .int .i64 0, .int .i64 0] := by
        have := Box.new (w1.alloc (.cells arr 5)) 24 #[.int .i64 5, .string Z, .string ⟨#[]⟩, .string ⟨#[]⟩, .string ⟨#[]⟩, .int .i64 0, .int .i64 0]
        rwa [World.size_alloc] at this
      have hl0 : Below w.heap.size w ((w1.alloc (.cells arr 5)).alloc (.cells #[.int .i64 5, .string Z, .string ⟨#[]⟩, .string ⟨#[]⟩, .string ⟨#[]⟩, .int .i64 0, .int .i64 0] 24)) := (HB1.out.alloc HB1.out.size _).alloc (by have := HB1.out.size; rw [World.size_alloc]; omega) _
      have hb2 : Below ((w1.alloc (.cells arr 5)).alloc (.cells #[.int .i64 5, .string Z, .string ⟨#[]⟩, .string ⟨#[]⟩, .string ⟨#[]⟩, .int .i64 0, .int .i64 0] 24)).heap.size ((w1.alloc (.cells arr 5)).alloc (.cells #[.int .i64 5, .string Z, .string ⟨#[]⟩, .string ⟨#[]⟩, .string ⟨#[]⟩, .int .i64 0, .int .i64 0] 24)) w2 := HB2.out
      have hg2 := (hb2.block _ hg0.lt).trans hg0
      obtain ⟨y0, y1, y2, y3, y4, y5, y6⟩ := Box.seven hg2
      have HBL := Lib.hid (hl0.trans (hb2.mono hl0.size))
      clear hg0 hl0 hb2 hg2 HB1 HB2
      go_wp2_with fail
      refine (HA.out _).mono ?_
      rintro e w3 ⟨rfl, HB3⟩
      go_wp2
      go_ret
      exact ⟨rfl, HBL.out.trans (HB3.out.mono HBL.out.size)⟩
    · have hmask := HM.out
      have hmask2 := HM2.out
      have ek := HEK.out
      have ek2 := HEK2.out
      have hmk := HMK.out
      have hcv := HCV.out
      go_enter Try.func7, Try.ntmps7
      go_wp2_with fail
      refine (head18_any _).mono ?_
      rintro e w1 ⟨rfl, hb1⟩
      have HB1 := Lib.hid hb1
      clear hb1
      go_wp2_with fail
      refine (HE.out _).mono ?_
      rintro e w2 ⟨rfl, HB2⟩
      clear hmask hmask2 ek ek2 hmk hcv HM HM2 HEK HEK2 HMK HCV HE
      have hg0 : Box ((w1.alloc (.cells arr 5)).alloc (.cells #[.int .i64 5, .string ⟨#[]⟩, .string Z, .string ⟨#[]⟩, .string ⟨#[]⟩, .int .i64 0, .int .i64 0] 24)) (w1.heap.size + 1) 24 #[.int .i64 5, .string ⟨#[]⟩, .string Z, .string ⟨#[]⟩, .string ⟨#[]⟩, .int .i64 0, .int .i64 0] := by
        have := Box.new (w1.alloc (.cells arr 5)) 24 #[.int .i64 5, .string ⟨#[]⟩, .string Z, .string ⟨#[]⟩, .string ⟨#[]⟩, .int .i64 0, .int .i64 0]
        rwa [World.size_alloc] at this
      have hl0 : Below w.heap.size w ((w1.alloc (.cells arr 5)).alloc (.cells #[.int .i64 5, .string ⟨#[]⟩, .string Z, .string ⟨#[]⟩, .string ⟨#[]⟩, .int .i64 0, .int .i64 0] 24)) := (HB1.out.alloc HB1.out.size _).alloc (by have := HB1.out.size; rw [World.size_alloc]; omega) _
      have hb2 : Below ((w1.alloc (.cells arr 5)).alloc (.cells #[.int .i64 5, .string ⟨#[]⟩, .string Z, .string ⟨#[]⟩, .string ⟨#[]⟩, .int .i64 0, .int .i64 0] 24)).heap.size ((w1.alloc (.cells arr 5)).alloc (.cells #[.int .i64 5, .string ⟨#[]⟩, .string Z, .string ⟨#[]⟩, .string ⟨#[]⟩, .int .i64 0, .int .i64 0] 24)) w2 := HB2.out
      have hg2 := (hb2.block _ hg0.lt).trans hg0
      obtain ⟨y0, y1, y2, y3, y4, y5, y6⟩ := Box.seven hg2
      have HBL := Lib.hid (hl0.trans (hb2.mono hl0.size))
      clear hg0 hl0 hb2 hg2 HB1 HB2
      go_wp2_with fail
      refine (HA.out _).mono ?_
      rintro e w3 ⟨rfl, HB3⟩
      go_wp2
      go_ret
      exact ⟨rfl, HBL.out.trans (HB3.out.mono HBL.out.size)⟩
    · have hmask := HM.out
      have hmask2 := HM2.out
      have ek := HEK.out
      have ek2 := HEK2.out
      have hmk := HMK.out
      have hcv := HCV.out
      go_enter Try.func7, Try.ntmps7
      go_wp2_with fail
      refine (head18_any _).mono ?_
      rintro e w1 ⟨rfl, hb1⟩
      have HB1 := Lib.hid hb1
      clear hb1
      go_wp2_with fail
      refine (HE.out _).mono ?_
      rintro e w2 ⟨rfl, HB2⟩
      clear hmask hmask2 ek ek2 hmk hcv HM HM2 HEK HEK2 HMK HCV HE
      have hg0 : Box ((w1.alloc (.cells arr 5)).alloc (.cells #[.int .i64 5, .string ⟨#[]⟩, .string ⟨#[]⟩, .string Z, .string ⟨#[]⟩, .int .i64 0, .int .i64 0] 24)) (w1.heap.size + 1) 24 #[.int .i64 5, .string ⟨#[]⟩, .string ⟨#[]⟩, .string Z, .string ⟨#[]⟩, .int .i64 0, .int .i64 0] := by
        have := Box.new (w1.alloc (.cells arr 5)) 24 #[.int .i64 5, .string ⟨#[]⟩, .string ⟨#[]⟩, .string Z, .string ⟨#[]⟩, .int .i64 0, .int .i64 0]
        rwa [World.size_alloc] at this
      have hl0 : Below w.heap.size w ((w1.alloc (.cells arr 5)).alloc (.cells #[.int .i64 5, .string ⟨#[]⟩, .string ⟨#[]⟩, .string Z, .string ⟨#[]⟩, .int .i64 0, .int .i64 0] 24)) := (HB1.out.alloc HB1.out.size _).alloc (by have := HB1.out.size; rw [World.size_alloc]; omega) _
      have hb2 : Below ((w1.alloc (.cells arr 5)).alloc (.cells #[.int .i64 5, .string ⟨#[]⟩, .string ⟨#[]⟩, .string Z, .string ⟨#[]⟩, .int .i64 0, .int .i64 0] 24)).heap.size ((w1.alloc (.cells arr 5)).alloc (.cells #[.int .i64 5, .string ⟨#[]⟩, .string ⟨#[]⟩, .string Z, .string ⟨#[]⟩, .int .i64 0, .int .i64 0] 24)) w2 := HB2.out
      have hg2 := (hb2.block _ hg0.lt).trans hg0
      obtain ⟨y0, y1, y2, y3, y4, y5, y6⟩ := Box.seven hg2
      have HBL := Lib.hid (hl0.trans (hb2.mono hl0.size))
      clear hg0 hl0 hb2 hg2 HB1 HB2
      go_wp2_with fail
      refine (HA.out _).mono ?_
      rintro e w3 ⟨rfl, HB3⟩
      go_wp2
      go_ret
      exact ⟨rfl, HBL.out.trans (HB3.out.mono HBL.out.size)⟩
    · have hmask := HM.out
      have hmask2 := HM2.out
      have ek := HEK.out
      have ek2 := HEK2.out
      have hmk := HMK.out
      have hcv := HCV.out
      go_enter Try.func7, Try.ntmps7
      go_wp2_with fail
      refine (head18_any _).mono ?_
      rintro e w1 ⟨rfl, hb1⟩
      have HB1 := Lib.hid hb1
      clear hb1
      go_wp2_with fail
      refine (HE.out _).mono ?_
      rintro e w2 ⟨rfl, HB2⟩
      clear hmask hmask2 ek ek2 hmk hcv HM HM2 HEK HEK2 HMK HCV HE
      have hg0 : Box ((w1.alloc (.cells arr 5)).alloc (.cells #[.int .i64 5, .string ⟨#[]⟩, .string ⟨#[]⟩, .string ⟨#[]⟩, .string Z, .int .i64 0, .int .i64 0] 24)) (w1.heap.size + 1) 24 #[.int .i64 5, .string ⟨#[]⟩, .string ⟨#[]⟩, .string ⟨#[]⟩, .string Z, .int .i64 0, .int .i64 0] := by
        have := Box.new (w1.alloc (.cells arr 5)) 24 #[.int .i64 5, .string ⟨#[]⟩, .string ⟨#[]⟩, .string ⟨#[]⟩, .string Z, .int .i64 0, .int .i64 0]
        rwa [World.size_alloc] at this
      have hl0 : Below w.heap.size w ((w1.alloc (.cells arr 5)).alloc (.cells #[.int .i64 5, .string ⟨#[]⟩, .string ⟨#[]⟩, .string ⟨#[]⟩, .string Z, .int .i64 0, .int .i64 0] 24)) := (HB1.out.alloc HB1.out.size _).alloc (by have := HB1.out.size; rw [World.size_alloc]; omega) _
      have hb2 : Below ((w1.alloc (.cells arr 5)).alloc (.cells #[.int .i64 5, .string ⟨#[]⟩, .string ⟨#[]⟩, .string ⟨#[]⟩, .string Z, .int .i64 0, .int .i64 0] 24)).heap.size ((w1.alloc (.cells arr 5)).alloc (.cells #[.int .i64 5, .string ⟨#[]⟩, .string ⟨#[]⟩, .string ⟨#[]⟩, .string Z, .int .i64 0, .int .i64 0] 24)) w2 := HB2.out
      have hg2 := (hb2.block _ hg0.lt).trans hg0
      obtain ⟨y0, y1, y2, y3, y4, y5, y6⟩ := Box.seven hg2
      have HBL := Lib.hid (hl0.trans (hb2.mono hl0.size))
      clear hg0 hl0 hb2 hg2 HB1 HB2
      go_wp2_with fail
      refine (HA.out _).mono ?_
      rintro e w3 ⟨rfl, HB3⟩
      go_wp2
      go_ret
      exact ⟨rfl, HBL.out.trans (HB3.out.mono HBL.out.size)⟩

end Go.Proofs.Ytcncoppnkodhmab.wireLong
