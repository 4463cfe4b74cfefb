/-
  val's decoder: every value.
-/
import Derived.Test.YtacphlceggbfcaaValDec3
namespace Go.Proofs.Ytacphlceggbfcaa

theorem value_ok : ∀ d, ValOK d
  | 0 => fun o b l w ho hl h => by
    obtain rfl : o = 32 := by omega
    exact value_deep b l w h
  | d + 1 => fun o b l w ho hl h => by
    have ih := value_ok d
    rcases l with _ | ⟨c, r⟩
    · exact value_empty d o (by omega) b w h
    · have hr : r.length ≤ 5000 := by simp at hl; omega
      by_cases h5 : 5 < c.toNat
      · exact value_other d o (by omega) b c h5 r hr w h
      · have hc : c.toNat = 0 ∨ c.toNat = 1 ∨ c.toNat = 2 ∨ c.toNat = 3 ∨ c.toNat = 4 ∨ c.toNat = 5 := by omega
        rcases hc with e | e | e | e | e | e
        · obtain rfl : c = 0 := UInt8.toNat_inj.1 e
          exact value_null d o (by omega) b r hr w h
        · obtain rfl : c = 1 := UInt8.toNat_inj.1 e
          exact value_bool d o (by omega) b r hr w h
        · obtain rfl : c = 2 := UInt8.toNat_inj.1 e
          exact value_int d o (by omega) b r hr w h
        · obtain rfl : c = 3 := UInt8.toNat_inj.1 e
          exact value_text d o (by omega) b r hr w h
        · obtain rfl : c = 4 := UInt8.toNat_inj.1 e
          exact value_list d o (by omega) ih b r hr w h
        · obtain rfl : c = 5 := UInt8.toNat_inj.1 e
          exact value_map d o (by omega) ih b r hr w h

end Go.Proofs.Ytacphlceggbfcaa
