/-
  FrameSums: for every two texts the law's function returns true, and writes nothing that was there.
-/
import Derived.Test.YtdakodljpgnkdaaDoorFLong
import Derived.StillTailTactics
import Derived.Deep.RegionWith
namespace Go.Proofs.YtdakodljpgnkdaaDoor.frameSums
open Go.RowKit Go.Proofs.YtdakodljpgnkdaaDoor.tRow Go.Proofs.YtdakodljpgnkdaaDoor.frameLong

theorem walk_long (a b : ByteArray) (n : Nat) (hn : min (a.size : Int) (b.size : Int) = (n : Int)) (h : 200 < n) (w : World) (hT : Tab w) :
    Calls Tryd.prog 6 #[.string a, .string b] w fun e w' => e = .returned (.bool true) ∧ Below w.heap.size w w' := by
  have h' : (200 : Int) < (n : Int) := by omega
  go_enter Tryd.func6, Tryd.ntmps6
  go_wp2_with fail
  refine (head_any _ hT).mono ?_
  rintro e w1 ⟨rfl, hb1⟩
  go_wp2
  go_ret
  exact ⟨rfl, hb1⟩

def ovr (a b : List UInt8) : List UInt8 := List.zipWith (· ^^^ ·) a b

theorem ovr_take (a b : ByteArray) (k : Nat) (ha : k < a.size) (hb : k < b.size) :
    ovr (a.data.toList.take (k + 1)) (b.data.toList.take (k + 1)) = ovr (a.data.toList.take k) (b.data.toList.take k) ++ [a[k] ^^^ b[k]] := by
  rw [take_snoc a k ha, take_snoc b k hb]
  unfold ovr
  rw [List.zipWith_append (by simp; omega)]
  rfl

theorem xor_byte (x y : UInt8) : bits .xor .u8 (x.toNat : Int) (y.toNat : Int) = ((x ^^^ y).toNat : Int) := by
  rw [u8_xor_nat _ _ x.toNat_lt y.toNat_lt, UInt8.toNat_xor]

set_option maxHeartbeats 2000000 in
theorem walk_few (a b : ByteArray) (n : Nat) (hn : min (a.size : Int) (b.size : Int) = (n : Int)) (h : n ≤ 200) (w : World) (hT : Tab w) :
    Calls Tryd.prog 6 #[.string a, .string b] w fun e w' => e = .returned (.bool true) ∧ Below w.heap.size w w' := by
  have h' : ¬ (200 : Int) < (n : Int) := by omega
  have hna : n ≤ a.size := by omega
  have hnb : n ≤ b.size := by omega
  go_enter Tryd.func6, Tryd.ntmps6
  go_wp2_with fail
  refine (head_any _ hT).mono ?_
  rintro e w1 ⟨rfl, hb1⟩
  go_wp2
  go_loopw [6, 7] (fun x c wr => ∃ k : Nat, k ≤ n ∧ c = .int .i64 k ∧ Bs 5 w.heap.size wr x (ovr (a.data.toList.take k) (b.data.toList.take k)) ∧ Below w.heap.size w wr) (fun _ c _ => n - (intOf c).toNat)
  case atStart =>
    refine ⟨0, Nat.zero_le _, rfl, ?_, hb1.alloc hb1.size _⟩
    exact World.ownsRow_made w1 #[] 0 hb1.size (by decide) rfl
  case round =>
    obtain ⟨k, hk, rfl, hown, hb⟩ := hrel
    have hz := hb.size
    by_cases hlt : k < n
    · have hka : k < a.size := by omega
      have hkb : k < b.size := by omega
      have hstep := ovr_take a b k hka hkb
      have hx := xor_byte (a[k]'hka) (b[k]'hkb)
      have hxl : (a[k]'hka).toNat ^^^ (b[k]'hkb).toNat < 256 := by rw [← UInt8.toNat_xor]; exact ((a[k]'hka) ^^^ (b[k]'hkb)).toNat_lt
      have hxo : Hid (UInt8.ofNat (((a[k]'hka).toNat ^^^ (b[k]'hkb).toNat : Nat) : Int).toNat = (a[k]'hka) ^^^ (b[k]'hkb)) := Lib.hid (by rw [Int.toNat_natCast, ← UInt8.toNat_xor]; simp)
      have hl : (ovr (a.data.toList.take k) (b.data.toList.take k)).length ≤ 200 := by unfold ovr; rw [List.length_zipWith, List.length_take]; omega
      generalize ovr (a.data.toList.take k) (b.data.toList.take k) = L at hstep hown hl
      have HS := Lib.hid hstep
      clear hstep
      have hka' : (k : Int) < (a.size : Int) := by omega
      have hkb' : (k : Int) < (b.size : Int) := by omega
      have hownd : Bs 5 w.heap.size wr.drew _ _ := hown
      have hzd : w.heap.size ≤ wr.drew.heap.size := hz
      go_wp2_with fail
      go_region_held3 (fun _ => True) (exact trivial) ((rw [if_pos (by rfl)]; refine oper_app1 _ (.tmp 23) (.tmp 31) 36 rfl 5 w.heap.size Tryd.underlying36 infoB _ _ rfl hownd _ _ rfl (by omega) (by omega) (by omega) hzd ?_; intro v2 w2 hown2 hup2))
      all_goals
        go_wp2
        go_roundw
        case rel =>
          refine ⟨k + 1, by omega, by go_num, ?_, ?_⟩
          · rw [HS.out]
            have e := hxo.out
            rw [e] at hown2
            exact hown2
          · exact hb.drew.trans (hup2.below hownd hzd)
        case measure => simp [intOf]; omega
    · have ek : k = n := by omega
      subst ek
      clear hk hlt
      generalize hL : ovr (a.data.toList.take k) (b.data.toList.take k) = L at hown
      have la : (a.data.toList.take k).length = k := by rw [List.length_take, Array.length_toList]; exact Nat.min_eq_left hna
      have lb : (b.data.toList.take k).length = k := by rw [List.length_take, Array.length_toList]; exact Nat.min_eq_left hnb
      have hov := crc_over (a.data.toList.take k) (b.data.toList.take k) (by rw [la, lb])
      rw [la, show List.zipWith (· ^^^ ·) (a.data.toList.take k) (b.data.toList.take k) = L from hL] at hov
      have hLl : L.length ≤ 200 := by rw [← hL]; unfold ovr; rw [List.length_zipWith, la, lb]; omega
      have eA : (a.extract 0 k).data.toList = a.data.toList.take k := by rw [Lib.extract_data]; simp
      have eB : (b.extract 0 k).data.toList = b.data.toList.take k := by rw [Lib.extract_data]; simp
      have s1 := fun w' (hT' : Tab w') => sum_any ⟨L.toArray⟩ (by rw [size_arr]; unfold maxLen; omega) w' hT'
      have s2 := fun w' (hT' : Tab w') => sum_any (a.extract 0 k) (by simp [ByteArray.size_extract]; unfold maxLen; omega) w' hT'
      have s3 := fun w' (hT' : Tab w') => sum_any (b.extract 0 k) (by simp [ByteArray.size_extract]; unfold maxLen; omega) w' hT'
      have s4 := fun w' (hT' : Tab w') => sum_any ⟨(List.replicate k 0).toArray⟩ (by rw [size_arr]; simp; unfold maxLen; omega) w' hT'
      rw [eA] at s2
      rw [eB] at s3
      change ∀ w', Tab w' → Calls Tryd.prog 14 #[.string ⟨L.toArray⟩] w' (fun e w'' => e = .returned (.int .u32 (crc L : Nat)) ∧ w' = w'') at s1
      change ∀ w', Tab w' → Calls Tryd.prog 14 #[.string ⟨(List.replicate k 0).toArray⟩] w' (fun e w'' => e = .returned (.int .u32 (crc (List.replicate k 0) : Nat)) ∧ w' = w'') at s4
      have b1 := crc_lt L
      have b2 := crc_lt (a.data.toList.take k)
      have b3 := crc_lt (b.data.toList.take k)
      have b4 := crc_lt (List.replicate k 0)
      generalize crc L = c1 at hov s1 b1
      generalize crc (a.data.toList.take k) = c2 at hov s2 b2
      generalize crc (b.data.toList.take k) = c3 at hov s3 b3
      generalize crc (List.replicate k 0) = c4 at hov s4 b4
      have x1 := u32_xor_nat c2 c3 b2 b3
      have x2 := u32_xor_nat (c2 ^^^ c3) c4 (Nat.xor_lt_two_pow (n := 32) (by omega) (by omega)) b4
      rw [← hov] at x2
      obtain ⟨arr, ha, hmk⟩ := make_bytes k (by omega)
      have hcv := conv_new wr.drew (List.replicate k 0) k k (by simp) arr (by rw [ha, zeros_cells])
      have hmk1 : (Instr.makeSlice 36 (.int .i64 (k : Int)) (.int .i64 (k : Int))).run Tryd.prog wr.drew = .ok (.slice (some ⟨wr.heap.size, 0, none⟩) k k) (wr.alloc (.cells arr 5)).drew := hmk wr.drew
      have hcv1 : (convert 36 9 (.slice (some ⟨wr.heap.size, 0, none⟩) k k)).run Tryd.prog (wr.alloc (.cells arr 5)).drew = .ok (.string ⟨(List.replicate k 0).toArray⟩) (wr.alloc (.cells arr 5)).drew := hcv
      clear hcv
      generalize (⟨(List.replicate k 0).toArray⟩ : ByteArray) = Z at hcv1 s4
      have hTr := hT.below hb hT.lt
      have hT1 : Tab wr.drew := hTr
      have hbd := hb.drew
      have hba := (hb.alloc hz (.cells arr 5)).drew
      have hT2 : Tab (wr.alloc (.cells arr 5)).drew := hT.below hba hT.lt
      have hownd : Bs 5 w.heap.size wr.drew u6 L := hown
      have q1 := conv_bs (P := Tryd.prog) 5 w.heap.size wr.drew 36 9 Tryd.underlying36 Tryd.underlying5 Tryd.underlying9 _ _ hownd
      have q2 := conv_bs (P := Tryd.prog) 5 w.heap.size (wr.alloc (.cells arr 5)).drew 36 9 Tryd.underlying36 Tryd.underlying5 Tryd.underlying9 _ _ (show Bs 5 w.heap.size (wr.alloc (.cells arr 5)).drew u6 L from hown.alloc _)
      have hna' : (k : Int) ≤ (a.size : Int) := by omega
      have hnb' : (k : Int) ≤ (b.size : Int) := by omega
      have e1 := Lib.hid hT1
      have e2 := Lib.hid hT2
      have e3 := Lib.hid s1
      have e4 := Lib.hid s2
      have e5 := Lib.hid s3
      have e6 := Lib.hid s4
      have HBA := Lib.hid hba
      clear hov la lb eA eB hLl ha hmk hTr hT1 hT2 hba hownd hown s1 s2 s3 s4 b1 b2 b3 b4 hL
      go_wp2_with fail
      go_region_with ((go_at_call 14; (first | (with_reducible refine (e3.out _ ?_).mono ?_) | (with_reducible refine (e4.out _ ?_).mono ?_) | (with_reducible refine (e5.out _ ?_).mono ?_) | (with_reducible refine (e6.out _ ?_).mono ?_)); (first | exact e1.out | exact e2.out); rintro e w' ⟨rfl, rfl⟩))
      all_goals
        go_wp2
        go_ret
        exact ⟨rfl, HBA.out⟩

theorem walk (a : ByteArray) (_w0 : a.size ≤ maxLen) (b : ByteArray) (_w1 : b.size ≤ maxLen) (w : World) (hT : Tab w) :
    Calls Tryd.prog 6 #[.string a, .string b] w fun e w' => e = .returned (.bool true) ∧ Below w.heap.size w w' := by
  by_cases h : min a.size b.size ≤ 200
  · exact walk_few a b (min a.size b.size) (by omega) h w hT
  · exact walk_long a b (min a.size b.size) (by omega) (by omega) w hT

end Go.Proofs.YtdakodljpgnkdaaDoor.frameSums
