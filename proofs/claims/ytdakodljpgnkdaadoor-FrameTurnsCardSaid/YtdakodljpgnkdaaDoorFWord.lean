/-
  frame.word, frame.number, the law's four: numbers in four bytes, the lowest one first.
-/
import Derived.Test.YtdakodljpgnkdaaDoorFSum
import Derived.BigQuiet
import Derived.Outline
import Derived.RegionTactic
namespace Go.Proofs.YtdakodljpgnkdaaDoor
open Go.RowKit

theorem u8_low (n : Nat) : ((UInt8.ofNat n).toNat : Int) = (n : Int) % 256 := by simp

/-- 'string' of four bytes that lie in a block of their own -/
theorem conv_four {P : Program} (w : World) (src dst E : TypeId) (hs : P.underlying src = some (.slice E)) (he : P.underlying E = some (.int .u8)) (hd : P.underlying dst = some .string) (n : Nat) (c : Nat)
    (a : Array Value) (ha : a.toList = Lib.byteCells (le4 n)) :
    (convert src dst (.slice (some ⟨w.heap.size, 0, none⟩) 4 c)).run P (w.alloc (.cells a E)) = .ok (.string ⟨(le4 n).toArray⟩) (w.alloc (.cells a E)) := by
  refine run_convert_bytes_back (P := P) (w.alloc (.cells a E)) src dst E ⟨w.heap.size, 0, none⟩ c (le4 n) hs he hd fun j hj => ?_
  have e : ((⟨w.heap.size, 0, none⟩ : Addr).add j) = ⟨w.heap.size, j, none⟩ := by unfold Addr.add; by_cases h0 : j = 0 <;> simp [h0]
  rw [e, cell_of_row (w.alloc (.cells a E)) w.heap.size j a E (0, 0) (heap_alloc_new w _)]
  have hj' : j < (Lib.byteCells (le4 n)).length := by simpa [Lib.byteCells] using hj
  have := congrArg (·[j]?) ha
  simp only [Array.getElem?_toList] at this
  rw [this, List.getElem?_eq_getElem hj']
  simp [Lib.byteCells]

set_option maxHeartbeats 1000000 in
theorem word_any (n : Nat) (hn : n < 4294967296) (w : World) :
    Calls Tryd.prog 16 #[.int .u32 n] w fun e w' => e = .returned (.string ⟨(le4 n).toArray⟩) ∧ Below w.heap.size w w' := by
  have hc := conv_four (P := Tryd.prog) w 36 9 5 Tryd.underlying36 Tryd.underlying5 Tryd.underlying9 n 4
    #[.int .u8 ((n : Int) % 256), .int .u8 ((n : Int) / 256 % 256), .int .u8 ((n : Int) / 65536 % 256), .int .u8 ((n : Int) / 16777216)] (by
      simp [Lib.byteCells, le4]
      omega)
  go_enter Tryd.func16, Tryd.ntmps16
  go_wp2
  go_ret
  exact ⟨rfl, (Below.refl _ _).alloc (Nat.le_refl _) _⟩

theorem four_any (n : Nat) (hn : n < 4294967296) (w : World) :
    Calls Tryd.prog 15 #[.int .u32 n] w fun e w' => e = .returned (.string ⟨(le4 n).toArray⟩) ∧ Below w.heap.size w w' := by
  have hc := conv_four (P := Tryd.prog) w 36 9 5 Tryd.underlying36 Tryd.underlying5 Tryd.underlying9 n 4
    #[.int .u8 ((n : Int) % 256), .int .u8 ((n : Int) / 256 % 256), .int .u8 ((n : Int) / 65536 % 256), .int .u8 ((n : Int) / 16777216)] (by
      simp [Lib.byteCells, le4]
      omega)
  go_enter Tryd.func15, Tryd.ntmps15
  go_wp2
  go_ret
  exact ⟨rfl, (Below.refl _ _).alloc (Nat.le_refl _) _⟩

/-- the number that four bytes are -/
theorem or4 (a b c d : Nat) (ha : a < 256) (hb : b < 256) (hc : c < 256) (hd : d < 256) :
    bits .or .u32 (bits .or .u32 (bits .or .u32 (a : Int) ((b : Int) * 256)) ((c : Int) * 65536)) ((d : Int) * 16777216) = ((((d * 256 + c) * 256 + b) * 256 + a : Nat) : Int) := by
  rw [show (b : Int) * 256 = ((b * 256 : Nat) : Int) by omega, show (c : Int) * 65536 = ((c * 65536 : Nat) : Int) by omega, show (d : Int) * 16777216 = ((d * 16777216 : Nat) : Int) by omega]
  rw [u32_or_nat _ _ (by omega) (by omega), Nat.or_comm a, nat_join 8 (b * 256) a (by omega) (by omega)]
  rw [u32_or_nat _ _ (by omega) (by omega), Nat.or_comm _ (c * 65536), nat_join 16 (c * 65536) _ (by omega) (by omega)]
  rw [u32_or_nat _ _ (by omega) (by omega), Nat.or_comm _ (d * 16777216), nat_join 24 (d * 16777216) _ (by omega) (by omega)]
  exact congrArg (fun n : Nat => (n : Int)) (by omega)

theorem four_bytes (s : ByteArray) (h : s.size = 4) : ∃ a b c d : UInt8, s = ⟨#[a, b, c, d]⟩ := by
  obtain ⟨⟨l⟩⟩ := s
  have h : l.length = 4 := h
  match l, h with
  | [a, b, c, d], _ => exact ⟨a, b, c, d, rfl⟩

set_option maxHeartbeats 2000000 in
theorem number_any (a b c d : UInt8) (w : World) :
    Calls Tryd.prog 17 #[.string ⟨#[a, b, c, d]⟩] w fun e w' => e = .returned (.int .u32 (leN [a, b, c, d] : Nat)) ∧ Below w.heap.size w w' := by
  have hor : bits .or .u32 (bits .or .u32 (bits .or .u32 ((a.toNat : Int) % 4294967296) ((b.toNat : Int) % 4294967296 * 256 % 4294967296)) ((c.toNat : Int) % 4294967296 * 65536 % 4294967296)) ((d.toNat : Int) % 4294967296 * 16777216 % 4294967296) = ((leN [a, b, c, d] : Nat) : Int) := by
    have ha := a.toNat_lt
    have hb := b.toNat_lt
    have hc := c.toNat_lt
    have hd := d.toNat_lt
    have e1 : (a.toNat : Int) % 4294967296 = a.toNat := by omega
    have e2 : (b.toNat : Int) % 4294967296 * 256 % 4294967296 = (b.toNat : Int) * 256 := by omega
    have e3 : (c.toNat : Int) % 4294967296 * 65536 % 4294967296 = (c.toNat : Int) * 65536 := by omega
    have e4 : (d.toNat : Int) % 4294967296 * 16777216 % 4294967296 = (d.toNat : Int) * 16777216 := by omega
    rw [e1, e2, e3, e4, or4 a.toNat b.toNat c.toNat d.toNat ha hb hc hd]
    simp [leN]
  have HO := Lib.hid hor
  clear hor
  go_enter Tryd.func17, Tryd.ntmps17
  go_wp2
  go_region
  go_wp2
  go_ret
  exact ⟨congrArg (fun z => Ending.returned (Value.int .u32 z)) HO.out, (Below.refl _ _).drew⟩

theorem number_of (s : ByteArray) (h : s.size = 4) (w : World) :
    Calls Tryd.prog 17 #[.string s] w fun e w' => e = .returned (.int .u32 (leN s.data.toList : Nat)) ∧ Below w.heap.size w w' := by
  obtain ⟨a, b, c, d, rfl⟩ := four_bytes s h
  exact number_any a b c d w

end Go.Proofs.YtdakodljpgnkdaaDoor
