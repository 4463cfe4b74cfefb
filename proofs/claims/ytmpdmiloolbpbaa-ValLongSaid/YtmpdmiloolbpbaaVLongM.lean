/-
  ValLong: the plain part.
-/
import Derived.Test.YtmpdmiloolbpbaaVOfMap2
import Derived.Test.YtmpdmiloolbpbaaVReads
import Derived.Test.YtmpdmiloolbpbaaOrder
namespace Go.Proofs.Ytmpdmiloolbpbaa
open Go.RowKit Go.Sort

theorem and_mask8 (n : Int) : bits .and .i64 n 255 = n % 256 := by
  have hc : (BitVec.ofInt 64 255).toNat = 2 ^ 8 - 1 := by decide
  have key : (BitVec.ofInt 64 n &&& BitVec.ofInt 64 255).toNat = (n % ((2 ^ 64 : Nat) : Int)).toNat % 2 ^ 8 := by
    rw [BitVec.toNat_and, BitVec.toNat_ofInt, hc, Nat.and_two_pow_sub_one_eq_mod]
  show IntKind.i64.wrap ((BitVec.ofInt 64 n &&& BitVec.ofInt 64 255).toNat : Nat) = n % 256
  rw [key, IntKind.wrap_i64]
  omega

theorem kept_one (x : FC) : keptF #[x] = [x] := by
  have h : sortF #[x] = #[x] := by
    unfold sortF Sort.insertionSort
    rw [insOuter, if_neg (by simp)]
  unfold keptF
  rw [h]
  simp [lastsTo]

theorem long_lay (s : ByteArray) (h1 : 4000 ≤ s.size) (h2 : s.size ≤ 4255) : (V.ofText s).lay.length = s.size + 4 := by
  rw [lay_ofText]
  have hl : s.data.toList.length = s.size := by rw [Array.length_toList]; rfl
  have h3 : (octN s.size).length = 3 := by
    have a1 := osz_le s.size 2 (by omega) (by omega)
    have a2 := osz_le s.size 1 (by omega) (by omega)
    rw [octN_length]
    have e1 : (256 : Nat) ^ 2 = 65536 := by decide
    have e2 : (256 : Nat) ^ 1 = 256 := by decide
    rw [e1] at a1
    rw [e2] at a2
    omega
  simp only [octT, List.length_cons, List.length_append, h3, hl]
  omega

def longMap (s : ByteArray) : V := V.ofMap [(⟨#[97]⟩, V.ofText s)]

theorem longMap_lay (s : ByteArray) (h1 : 4000 ≤ s.size) (h2 : s.size ≤ 4255) : (longMap s).lay.length = s.size + 10 := by
  have h := long_lay s h1 h2
  rw [longMap, lay_ofMap]
  have e1 : octN ([((⟨#[97]⟩ : ByteArray), V.ofText s)] : List Fd).length = [1, 1] := by
    show octN 1 = [1, 1]
    kernel_rfl
  have e2 : octT ⟨#[97]⟩ = [1, 1, 97] := by kernel_rfl
  rw [e1]
  simp [layF, e2, h]

theorem long_right (s : ByteArray) : (V.ofText s).right 32 = true := right_ofText s (by omega)
theorem longMap_right (s : ByteArray) : (longMap s).right 32 = true :=
  right_ofMap _ (by omega) (by
    rw [rightF, rightF, right_ofText s (by omega)]
    rfl)
theorem long_n64 (s : ByteArray) : (V.ofText s).n64 := ⟨by unfold Is64; omega, trivial, trivial⟩
theorem longMap_n64 (s : ByteArray) : (longMap s).n64 := ⟨by unfold Is64; omega, trivial, ⟨long_n64 s, trivial⟩⟩
theorem long_cmp (s : ByteArray) : (V.ofText s).cmp (V.ofText s) = 0 := by rw [cmp_text (V.ofText s) (V.ofText s) rfl rfl]; exact cmpL_self _
theorem longMap_cmp (s : ByteArray) : (longMap s).cmp (longMap s) = 0 := by
  rw [cmp_map (longMap s) (longMap s) rfl rfl]
  show cmpFs [((⟨#[97]⟩ : ByteArray), V.ofText s)] [((⟨#[97]⟩ : ByteArray), V.ofText s)] = 0
  rw [cmpFs_cons]
  have e : cmpFd ((⟨#[97]⟩ : ByteArray), V.ofText s) ((⟨#[97]⟩ : ByteArray), V.ofText s) = 0 := by
    unfold cmpFd
    rw [if_neg (fun h => h rfl)]
    exact long_cmp s
  rw [e, if_neg (fun h => h rfl), cmpFs]

theorem enc_long (v : V) (L : Nat) (hr : v.right 32 = true) (hl : v.lay.length = L) : encOf v = if L ≤ 4096 then .tuple #[.string ⟨v.lay.toArray⟩, .int .i64 0] else .tuple #[.string ⟨#[]⟩, .int .i64 4] := by
  unfold encOf
  rw [if_pos hr, hl]
theorem dec_long (v : V) (hr : v.right 32 = true) (hn : v.n64) (hl : v.lay.length ≤ 4096) : decOf v.lay = .inr v := by
  have h := decV_laid 32 v [] hr hn hl
  rw [List.append_nil] at h
  unfold decOf
  rw [if_neg (by omega), h]

/-- a text of noughts -/
theorem made_text (N : Nat) (hN : N ≤ 10000) : ∃ (arr : Array Value) (s : ByteArray), s.size = N ∧ (∀ w : World, (Instr.makeSlice 58 (.int .i64 (N : Int)) (.int .i64 (N : Int))).run Try.prog w = .ok (.slice (some ⟨w.heap.size, 0, none⟩) N N) (w.alloc (.cells arr 5))) ∧
    ∀ w : World, (convert 58 9 (.slice (some ⟨w.heap.size, 0, none⟩) N N)).run Try.prog (w.alloc (.cells arr 5)) = .ok (.string s) (w.alloc (.cells arr 5)) := by
  obtain ⟨i, hi, hz, hi1, hi2⟩ := info_parts infoB
  refine ⟨madeCells #[.int .u8 0] N, ⟨(List.replicate N (0 : UInt8)).toArray⟩, by show (List.replicate N (0 : UInt8)).toArray.size = N; simp, fun w => ?_, fun w => ?_⟩
  · have h2 : i.bytes * N ≤ 10000 := by rw [hi2]; omega
    have h := run_makeSlice (P := Try.prog) w 58 5 i (.int .u8 0) Try.underlying58 hi hz .i64 .i64 (N : Int) (N : Int) (by omega) (Int.le_refl _) (by rw [hi1]; simp only [Int.toNat_natCast]; omega) (by rw [← Int.natCast_mul]; omega) (by omega)
    rw [hi1] at h
    simpa [Value.cells] using h
  · have ho := World.ownsRow_lit (base := w.heap.size) (e := 5) (size := 1) w (madeCells #[.int .u8 0] N) N (Nat.le_refl _) (by unfold maxLen; omega) (by rw [size_madeCells]; omega)
    refine conv_own (P := Try.prog) 5 w.heap.size _ 58 9 Try.underlying58 Try.underlying5 Try.underlying9 _ (List.replicate N (0 : UInt8)) ?_
    unfold Bs
    rw [List.length_replicate]
    rw [toList_madeCells_one] at ho
    have e : Lib.byteCells (List.replicate N (0 : UInt8)) = List.replicate N (Value.int .u8 0) := by simp [Lib.byteCells]
    rw [e]
    exact ho

end Go.Proofs.Ytmpdmiloolbpbaa
