/-
  FrameLong: for every int the law's function returns true, and writes nothing that was there.
-/
import Derived.Test.YtdakodljpgnkdaaDoorFNests
import Derived.Test.YtdakodljpgnkdaaDoorTRow
import Derived.Laws.OwnMore
import Derived.Deep.RegionWith
import Derived.Deep.RegionHeld3
namespace Go.Proofs.YtdakodljpgnkdaaDoor.frameLong
open Go.RowKit Go.Proofs.YtdakodljpgnkdaaDoor.tRow

/-- 'make' of bytes -/
theorem make_bytes (n : Nat) (hn : n ≤ 1000000) :
    ∃ arr : Array Value, arr.toList = List.replicate n (.int .u8 0) ∧ ∀ w, (Instr.makeSlice 36 (.int .i64 (n : Int)) (.int .i64 (n : Int))).run Tryd.prog w = .ok (.slice (some ⟨w.heap.size, 0, none⟩) n n) (w.alloc (.cells arr 5)) := by
  obtain ⟨i, hi, hz, hi1, hi2⟩ := info_parts infoB
  refine ⟨madeCells (Value.int .u8 0).cells n, toList_madeCells_one _ _, fun w => ?_⟩
  have h := run_makeSlice (P := Tryd.prog) w 36 5 i (.int .u8 0) Tryd.underlying36 hi hz .i64 .i64 (n : Int) (n : Int) (by omega) (Int.le_refl _) (by rw [hi1]; simp only [Int.toNat_natCast]; omega) (by rw [hi2]; omega) (by omega)
  rw [hi1] at h
  simpa using h

/-- 'string' of bytes that lie in a block of their own -/
theorem conv_new (w : World) (l : List UInt8) (n c : Nat) (hn : l.length = n) (a : Array Value) (ha : a.toList = Lib.byteCells l) :
    (convert 36 9 (.slice (some ⟨w.heap.size, 0, none⟩) n c)).run Tryd.prog (w.alloc (.cells a 5)) = .ok (.string ⟨l.toArray⟩) (w.alloc (.cells a 5)) := by
  subst hn
  refine run_convert_bytes_back (P := Tryd.prog) (w.alloc (.cells a 5)) 36 9 5 ⟨w.heap.size, 0, none⟩ c l Tryd.underlying36 Tryd.underlying5 Tryd.underlying9 fun j hj => ?_
  have e : ((⟨w.heap.size, 0, none⟩ : Addr).add j) = ⟨w.heap.size, j, none⟩ := by unfold Addr.add; by_cases h0 : j = 0 <;> simp [h0]
  rw [e, cell_of_row (w.alloc (.cells a 5)) w.heap.size j a 5 (0, 0) (heap_alloc_new w _)]
  have hj' : j < (Lib.byteCells l).length := by simpa [Lib.byteCells] using hj
  have := congrArg (·[j]?) ha
  simp only [Array.getElem?_toList] at this
  rw [this, List.getElem?_eq_getElem hj']
  simp [Lib.byteCells]

theorem zeros_cells (n : Nat) : Lib.byteCells (List.replicate n 0) = List.replicate n (.int .u8 0) := by simp [Lib.byteCells]

set_option maxHeartbeats 1000000 in
theorem walk_over (n : Int) (m : Nat) (hm : n % 16 = (m : Int)) (h8 : 8 < m) (w : World) (hT : Tab w) :
    Calls Tryd.prog 8 #[.int .i64 n] w fun e w' => e = .returned (.bool true) ∧ Below w.heap.size w w' := by
  have hmask := and_mask4 n
  rw [hm] at hmask
  have hm16 : m < 16 := by omega
  obtain ⟨k, hk⟩ : ∃ k : Nat, k = 262136 + m := ⟨_, rfl⟩
  have ek : IntKind.i64.wrap (262136 + (m : Int)) = (k : Int) := by rw [IntKind.wrap_i64]; omega
  have ek2 : 262136 + (m : Int) = (k : Int) := by omega
  obtain ⟨arr, ha, hmk⟩ := make_bytes k (by omega)
  have hcv := fun (w : World) => conv_new w (List.replicate k 0) k k (by simp) arr (by rw [ha, zeros_cells])
  have hp := put_long ⟨(List.replicate k 0).toArray⟩ (by rw [size_arr]; simp; omega)
  generalize (⟨(List.replicate k 0).toArray⟩ : ByteArray) = Z at hcv hp
  have hk1 : (262144 : Int) < (k : Int) := by omega
  clear hm ha hk
  go_enter Tryd.func8, Tryd.ntmps8
  go_wp2_with fail
  refine (head_any _ hT).mono ?_
  rintro e w1 ⟨rfl, hb1⟩
  go_wp2_with fail
  refine (hp _).mono ?_
  rintro e w2 ⟨rfl, rfl⟩
  go_wp2
  go_ret
  exact ⟨rfl, hb1.alloc hb1.size _⟩

set_option maxRecDepth 8000 in
set_option maxHeartbeats 2000000 in
theorem walk_in (n : Int) (m : Nat) (hm : n % 16 = (m : Int)) (h8 : m ≤ 8) (w : World) (hT : Tab w) :
    Calls Tryd.prog 8 #[.int .i64 n] w fun e w' => e = .returned (.bool true) ∧ Below w.heap.size w w' := by
  have hmask := and_mask4 n
  rw [hm] at hmask
  obtain ⟨k, hk⟩ : ∃ k : Nat, k = 262136 + m := ⟨_, rfl⟩
  have ek : IntKind.i64.wrap (262136 + (m : Int)) = (k : Int) := by rw [IntKind.wrap_i64]; omega
  have ek2 : 262136 + (m : Int) = (k : Int) := by omega
  obtain ⟨arr, ha, hmk⟩ := make_bytes k (by omega)
  have hcv := fun (w : World) => conv_new w (List.replicate k 0) k k (by simp) arr (by rw [ha, zeros_cells])
  have hp := fun (w : World) => put_ok ⟨(List.replicate k 0).toArray⟩ (by rw [size_arr]; simp; omega) w
  have hlz : (List.replicate k (0 : UInt8)).length = k := by simp
  have hfl := frm_length (List.replicate k (0 : UInt8))
  have hft : (frm (List.replicate k (0 : UInt8))).take 4 = le4 k := by
    unfold frm
    rw [hlz, List.append_assoc, List.append_assoc]
    exact List.take_left' (by rw [le4_length])
  rw [hlz] at hfl
  change (∀ w, Tab w → Calls Tryd.prog 10 #[.string ⟨(List.replicate k 0).toArray⟩] w fun e w' => e = .returned (.tuple #[.string ⟨(frm (List.replicate k 0)).toArray⟩, .int .i64 0]) ∧ Below w.heap.size w w') at hp
  generalize frm (List.replicate k (0 : UInt8)) = F at hp hfl hft
  generalize (⟨(List.replicate k 0).toArray⟩ : ByteArray) = Z at hcv hp
  have hFs : (⟨F.toArray⟩ : ByteArray).size = k + 12 := by rw [size_arr]; exact hfl
  have hFt : (⟨F.toArray⟩ : ByteArray).extract 0 4 = ⟨(le4 k).toArray⟩ := by
    apply ByteArray.ext; apply Array.toList_inj.1
    rw [Lib.extract_data]
    simpa using hft
  generalize (⟨F.toArray⟩ : ByteArray) = B at hp hFs hFt
  have hk1 : ¬ (262144 : Int) < (k : Int) := by omega
  have hk2 : (4 : Int) ≤ (B.size : Int) := by omega
  have hk3 : (B.size : Int) = (k : Int) + 12 := by omega
  have hk4 : k < 4294967296 := by omega
  have hk5 : (k : Int) < 4294967296 := by omega
  have hk6 : ((B.size : Int) == IntKind.i64.wrap ((k : Int) + 12)) = true := by rw [IntKind.wrap_i64, beq_iff_eq]; omega
  have hk7 : (k : Int) % 4294967296 = k := by omega
  clear hm ha hk hfl hft hlz
  go_enter Tryd.func8, Tryd.ntmps8
  go_wp2_with fail
  refine (head_any _ hT).mono ?_
  rintro e w1 ⟨rfl, hb1⟩
  have hT1 := hT.below hb1 hT.lt
  have hb2 := hb1.alloc hb1.size (.cells arr 5)
  have hTa : Tab (w1.alloc (.cells arr 5)) := hT.below hb2 hT.lt
  go_wp2_with fail
  refine (hp _ hTa).mono ?_
  rintro e w2 ⟨rfl, hb3⟩
  replace hb3 := hb2.trans (hb3.mono hb2.size)
  clear hT1 hTa hb2
  have HF := Lib.hid (four_any k hk4)
  have HG : Hid (∀ w, Calls Tryd.prog 15 #[.int .u32 (IntKind.u32.wrap (k : Int))] w fun e w' => e = .returned (.string ⟨(le4 k).toArray⟩) ∧ Below w.heap.size w w') := Lib.hid (by rw [IntKind.wrap_u32', hk7]; exact HF.out)
  clear hT hmask ek ek2 hp hcv hmk h8 hk3 hk4 hk7 hFs hk5
  go_wp2_with fail
  go_region_held3 (fun _ => True) (exact trivial) ((go_at_call 15; (first | (with_reducible refine (HF.out _).mono ?_) | (with_reducible refine (HG.out _).mono ?_)); rintro e w4 ⟨rfl, hb4⟩))
  go_wp2
  go_ret
  exact ⟨rfl, hb3.trans (((Below.refl _ _).drew.trans hb4).mono hb3.size)⟩

theorem walk (n : Int) (_w1 : (Lit.int .i64 n).wf = true) (w : World) (hT : Tab w) :
    Calls Tryd.prog 8 #[.int .i64 n] w fun e w' => e = .returned (.bool true) ∧ Below w.heap.size w w' := by
  by_cases h : (n % 16).toNat ≤ 8
  · exact walk_in n (n % 16).toNat (by omega) h w hT
  · exact walk_over n (n % 16).toNat (by omega) (by omega) w hT

end Go.Proofs.YtdakodljpgnkdaaDoor.frameLong
