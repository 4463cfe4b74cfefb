/-
  mailbaglaw05.head: the document's example.
-/
import Derived.Test.YtdakodljpgnkdaaDoorFGet
namespace Go.Proofs.YtdakodljpgnkdaaDoor
open Go.RowKit

theorem opens_frm (t r : List UInt8) (h : t.length ≤ 262144) : Opens (frm t ++ r) t := ⟨h, r, rfl⟩
theorem opens_whole (t : List UInt8) (h : t.length ≤ 262144) : Opens (frm t) t := ⟨h, [], by simp⟩

/-- Get of what begins with a frame -/
theorem get_of (b : ByteArray) (t : List UInt8) (ho : Opens b.data.toList t) (w : World) (hT : Tab w) :
    Calls Tryd.prog 13 #[.string b] w fun e w' => Below w.heap.size w w' ∧ e = .returned (.tuple #[.string ⟨t.toArray⟩, .int .i64 ((12 + t.length : Nat) : Int)]) := by
  refine (get_any b w hT).mono ?_
  rintro e w' ⟨hb, ⟨hn, _⟩ | ⟨u, hu, rfl⟩⟩
  · exact absurd ho (hn t)
  · rw [hu.one ho]
    exact ⟨hb, rfl⟩

set_option maxHeartbeats 1000000 in
theorem head_any (w : World) (hT : Tab w) : Calls Tryd.prog 9 #[] w fun e w' => e = .returned (.bool true) ∧ Below w.heap.size w w' := by
  have h0 := hT.lt
  have hp := put_ok ⟨#[120]⟩ (by decide) w hT
  have hs := fun (w' : World) (h : Tab w') => sum_any ⟨#[49, 50, 51, 52, 53, 54, 55, 56, 57]⟩ (by decide) w' h
  have hd : crc (⟨#[49, 50, 51, 52, 53, 54, 55, 56, 57]⟩ : ByteArray).data.toList = 3808858755 := crc_digits
  rw [hd] at hs
  clear hd
  have hF : (frm (⟨#[120]⟩ : ByteArray).data.toList).length = 13 := by rw [frm_length]; rfl
  have ho := opens_whole (⟨#[120]⟩ : ByteArray).data.toList (by decide)
  generalize frm (⟨#[120]⟩ : ByteArray).data.toList = F at hp hF ho
  have hg := get_of ⟨F.toArray⟩ _ ho
  clear ho
  have hFs : (⟨F.toArray⟩ : ByteArray).size = 13 := by rw [size_arr, hF]
  generalize (⟨F.toArray⟩ : ByteArray) = B at hp hg hFs
  go_enter Tryd.func9, Tryd.ntmps9
  go_wp2_with fail
  refine hp.mono ?_
  rintro e w1 ⟨rfl, hb1⟩
  have hT1 := hT.below hb1 h0
  go_wp2_with fail
  refine (hg _ hT1).mono ?_
  rintro e w2 ⟨hb2, rfl⟩
  replace hb2 := hb1.trans (hb2.mono hb1.size)
  have hT2 := hT.below hb2 h0
  go_wp2_with fail
  refine (hs _ hT2).mono ?_
  rintro e w3 ⟨rfl, rfl⟩
  go_wp2
  go_ret
  exact ⟨rfl, hb2⟩

end Go.Proofs.YtdakodljpgnkdaaDoor
