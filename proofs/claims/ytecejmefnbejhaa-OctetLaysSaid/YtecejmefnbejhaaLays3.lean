/-
  OctetLays: every way.
-/
import Derived.Test.YtecejmefnbejhaaLays2
namespace Go.Proofs.Ytecejmefnbejhaa.octetLays
open Go.RowKit

theorem walk_many (ab : Option Addr) (lenb capb : Nat) (a : Option Addr) (len cap : Nat) (ps : List Part) (w : World) (hps0 : PartRow w a len ps) (hfb : fewB ps = false) :
    Calls Try.prog 3 #[.slice ab lenb capb, .slice a len cap] w fun e w' => e = .returned (.bool true) ∧ Below w.heap.size w w' := by
  go_enter Try.func3, Try.ntmps3
  go_wp2_with fail
  refine (head_any _).mono ?_
  rintro e w1 ⟨rfl, hb1⟩
  have hfw := few_row a len cap ps w1 (partRow_below hps0 hb1)
  rw [hfb] at hfw
  clear hfb hps0
  go_wp2_with (go_at_call 11; refine hfw.mono ?_; rintro e w2 ⟨rfl, hb2⟩)
  go_ret
  exact ⟨rfl, hb1.trans (hb2.mono hb1.size)⟩

theorem walk_long (ab : Option Addr) (lenb capb : Nat) (a : Option Addr) (len cap : Nat) (ps : List Part) (w : World) (hps0 : PartRow w a len ps) (hfb : fewB ps = true) (h100 : 100 < lenb) :
    Calls Try.prog 3 #[.slice ab lenb capb, .slice a len cap] w fun e w' => e = .returned (.bool true) ∧ Below w.heap.size w w' := by
  have h100' : (100 : Int) < (lenb : Int) := by omega
  go_enter Try.func3, Try.ntmps3
  go_wp2_with fail
  refine (head_any _).mono ?_
  rintro e w1 ⟨rfl, hb1⟩
  have hfw := few_row a len cap ps w1 (partRow_below hps0 hb1)
  rw [hfb] at hfw
  clear hfb hps0
  go_wp2_with (go_at_call 11; refine hfw.mono ?_; rintro e w2 ⟨rfl, hb2⟩)
  go_ret
  exact ⟨rfl, hb1.trans (hb2.mono hb1.size)⟩

theorem walk (ab : Option Addr) (lenb capb : Nat) (zb : List Int) (w : World) (wb : IsRow .u8 w ab lenb capb zb) (a : Option Addr) (len cap : Nat) (wa : ∃ ps, PartRow w a len ps) :
    Calls Try.prog 3 #[.slice ab lenb capb, .slice a len cap] w fun e w' => e = .returned (.bool true) ∧ Below w.heap.size w w' := by
  obtain ⟨ps, hp⟩ := wa
  by_cases hf : fewB ps = true
  · by_cases h100 : lenb ≤ 100
    · exact walk_few ab lenb capb zb w wb a len cap ps hp hf h100
    · exact walk_long ab lenb capb a len cap ps w hp hf (by omega)
  · exact walk_many ab lenb capb a len cap ps w hp (by simpa using hf)

end Go.Proofs.Ytecejmefnbejhaa.octetLays
