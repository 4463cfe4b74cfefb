/-
  The head of mailbaglaw16: the document's example.
-/
import Derived.Test.YtciknhilbemgdaaClF
namespace Go.Proofs.Ytciknhilbemgdaa.cl
open Go.Proofs.Ytciknhilbemgdaa.tRow Go.RowKit Go.Maps Go.MapKept Go.WideMaps Go.ChangeMaps

set_option maxHeartbeats 4000000 in
set_option maxRecDepth 100000 in
theorem head_any (w : World) : Calls Try.prog 6 #[] w fun e w' => e = .returned (.bool true) ∧ Below w.heap.size w w' := by
  have hN := new_any w
  have H1 := CAt.new w (fun q => w.heap.size ≤ q) (Nat.le_refl _)
  have hb0 : Below w.heap.size w (w.alloc (.cells #[.map none] 42)) := (Below.refl _ w).alloc (Nat.le_refl _) _
  have hT := take_any H1 (fun q hq => Nat.le_trans hb0.size hq) (by omega) 1 ⟨#[97]⟩ (by unfold maxLen; decide)
  rw [show (otherG [] 1 (⟨#[97]⟩ : ByteArray).data.toList) = false from rfl] at hT
  have HT := Lib.hid hT
  have HB0 := Lib.hid hb0
  clear hb0 H1 hT
  go_enter Try.func6, Try.ntmps6
  go_wp2_with fail
  refine hN.mono ?_
  rintro e w1 ⟨rfl, rfl⟩
  go_wp2_with fail
  refine HT.out.mono ?_
  rintro e w2 ⟨rfl, hc2, hk2⟩
  have hb2 : Below w.heap.size w w2 := HB0.out.trans (hk2.below (fun _ h => h) HB0.out.size)
  have HC2 := Lib.hid (And.intro hc2 hb2)
  clear hc2 hk2 hb2
  go_wp2_with fail
  refine (busy_any _ _ _).mono ?_
  rintro e w3 ⟨rfl, rfl⟩
  have c3 := (HC2.out.1.alloc (.cells #[.pointer (some ⟨w.heap.size, 0, none⟩)] 24)).alloc (.cells #[.int .i64 2] 3)
  have b3 := (HC2.out.2.alloc HC2.out.2.size (.cells #[.pointer (some ⟨w.heap.size, 0, none⟩)] 24)).alloc (HC2.out.2.alloc HC2.out.2.size _).size (.cells #[.int .i64 2] 3)
  have HA3 := Lib.hid (asked_any c3 2 w2.heap.size (w2.heap.size + 1) (by simp) (by simp) ⟨#[97]⟩ (by unfold maxLen; decide))
  rw [show otherG (takeG [] 1 (⟨#[97]⟩ : ByteArray).data.toList) 2 (⟨#[97]⟩ : ByteArray).data.toList = true from rfl] at HA3
  have HC3 := Lib.hid (And.intro c3 b3)
  clear c3 b3
  go_wp2_with fail
  refine HA3.out.mono ?_
  rintro e w4 ⟨rfl, rfl⟩
  generalize hw4 : (w2.alloc (.cells #[.pointer (some ⟨w.heap.size, 0, none⟩)] 24)).alloc (.cells #[.int .i64 2] 3) = w4 at HC3 ⊢
  clear hw4 HA3
  go_wp2_with fail
  refine (busy_any _ _ _).mono ?_
  rintro e w5 ⟨rfl, rfl⟩
  have c5 := (HC3.out.1.alloc (.cells #[.pointer (some ⟨w.heap.size, 0, none⟩)] 24)).alloc (.cells #[.int .i64 1] 3)
  have b5 := (HC3.out.2.alloc HC3.out.2.size (.cells #[.pointer (some ⟨w.heap.size, 0, none⟩)] 24)).alloc (HC3.out.2.alloc HC3.out.2.size _).size (.cells #[.int .i64 1] 3)
  have HA5 := Lib.hid (asked_any c5 1 w4.heap.size (w4.heap.size + 1) (by simp) (by simp) ⟨#[97]⟩ (by unfold maxLen; decide))
  rw [show otherG (takeG [] 1 (⟨#[97]⟩ : ByteArray).data.toList) 1 (⟨#[97]⟩ : ByteArray).data.toList = false from rfl] at HA5
  have HC5 := Lib.hid (And.intro c5 b5)
  clear c5 b5
  go_wp2_with fail
  refine HA5.out.mono ?_
  rintro e w6 ⟨rfl, rfl⟩
  have HL := Lib.hid (len_any HC5.out.1)
  go_wp2_with fail
  refine HL.out.mono ?_
  rintro e w6 ⟨rfl, rfl⟩
  have e1 : ((takeG [] 1 (⟨#[97]⟩ : ByteArray).data.toList).length : Int) = 1 := rfl
  rw [e1]
  go_wp2
  go_ret
  exact ⟨rfl, HC5.out.2⟩

end Go.Proofs.Ytciknhilbemgdaa.cl
