/-
  mailbaglaw17.head: the document's example.
-/
import Derived.Test.YtookplnegfheeaaWA
import Derived.Test.YtookplnegfheeaaStHd
namespace Go.Proofs.Ytookplnegfheeaa.wT
open Go.RowKit Go.Proofs.Ytookplnegfheeaa.tC Go.Proofs.Ytookplnegfheeaa.sT

set_option linter.unusedVariables false
set_option linter.unusedSimpArgs false

def kA : List Wr := [⟨⟨#[97]⟩, ⟨#[]⟩, false⟩]
def kB : List Wr := [⟨⟨#[98]⟩, ⟨#[]⟩, false⟩]
def kM1 : StM := ((StM.new 0).write 0 []).commit 1 0 kA
def kM2 : StM := kM1.commit 2 0 kB
theorem kF1 : ((StM.new 0).write 0 []).fits 1 0 kA = true := by kernel_rfl
theorem kF2 : kM1.fits 2 0 kB = true := by kernel_rfl
theorem kS1 : SG kM1 2 := (SG.base (n := 0) []).commit kF1
theorem kS2 : SG kM2 4 := kS1.commit kF2
theorem kC : kM2.cms = [⟨1, 0, kA⟩, ⟨2, 0, kB⟩] := rfl
theorem kL : kM2.low = 0 := rfl
theorem kT0 : told ⟨#[98]⟩ (([⟨1, 0, kA⟩, ⟨2, 0, kB⟩] : List CmM).take 0) = [] := by kernel_rfl
theorem kT1 : (told ⟨#[98]⟩ (([⟨1, 0, kA⟩, ⟨2, 0, kB⟩] : List CmM).take 1)).length = 0 := by kernel_rfl
theorem kT2 : told ⟨#[98]⟩ (([⟨1, 0, kA⟩, ⟨2, 0, kB⟩] : List CmM).take 2) = [⟨2, 0, kB⟩] := by kernel_rfl

set_option maxHeartbeats 4000000 in
set_option maxRecDepth 100000 in
theorem head17_any (W : World) : Calls Try.prog 35 #[] W fun e W' => e = .returned (.bool true) ∧ Below W.heap.size W W' := by
  have HN : Hid (∀ W1, Below W.heap.size W W1 → Calls Try.prog 53 #[.int .i64 0, .slice none 0 0] W1 fun e W' => ∃ s, e = .returned (.tuple #[.pointer (some ⟨s, 0, none⟩), .int .i64 0]) ∧ Hid (Sep W.heap.size (fun _ => False) W' s ((StM.new 0).write 0 []) ∧ Below W.heap.size W W')) := Lib.hid fun W1 hb => by
    refine (sep_new (n0 := W.heap.size) (cap := 0) 0 (.inl rfl : WrsIs W1 none []) rfl (by simp)).mono ?_
    rintro e W' ⟨hb1, ⟨h1, _⟩ | ⟨_, s, lo, h2, _, h3, h4⟩⟩
    · rw [hF0] at h1; cases h1
    · obtain rfl : lo = 0 := by omega
      refine ⟨s, h3, Lib.hid ⟨?_, hb.trans (hb1.mono hb.size)⟩⟩
      obtain ⟨⟨P, k1, k2⟩, k3, k4⟩ := h4
      exact ⟨⟨P, k1, fun q hq => ⟨by have := (k2 q hq).1; have := hb.size; omega, (k2 q hq).2⟩⟩, k3, by have := hb.size; omega⟩
  go_enter Try.func35, Try.ntmps35
  go_wp2_with fail
  refine (HN.out W (Below.refl _ _)).mono ?_
  rintro e w1 ⟨s, rfl, h1⟩
  have HC1 := Lib.hid (commit_one h1.out.1 (SG.base (n := 0) []) (by simp) 1 0 ⟨⟨#[97]⟩, ⟨#[]⟩, false⟩ kF1 _ (.inl rfl))
  have HB1 := Lib.hid h1.out.2
  clear h1 HN
  go_wp2_with fail
  refine HC1.out.mono ?_
  rintro e w2 ⟨rfl, h2⟩
  have HB2 := Lib.hid (HB1.out.trans h2.out.2)
  have HC2 := Lib.hid (commit_one (M := kM1) h2.out.1 kS1 (by omega) 2 0 ⟨⟨#[98]⟩, ⟨#[]⟩, false⟩ kF2 _ (.inl rfl))
  clear h2 HC1 HB1
  go_wp2_with fail
  refine HC2.out.mono ?_
  rintro e w3 ⟨rfl, h3⟩
  have HB3 := Lib.hid (HB2.out.trans h3.out.2)
  have HP : Hid (Calls Try.prog 37 #[.pointer (some ⟨s, 0, none⟩), .int .i64 0, .string ⟨#[98]⟩, .int .i64 5] w3 fun e w4 => ∃ b off oc, e = .returned (.tuple #[.agg #[.slice (some ⟨b, off, none⟩) 1 oc, .int .i64 2], .int .i64 0]) ∧ b < w4.heap.size ∧ w4.cell? ⟨b, off, none⟩ = some (.int .i64 2) ∧ Hid (Below W.heap.size W w4)) := Lib.hid (by
    obtain ⟨P, hP⟩ := Sep.at_ (M := kM2) h3.out.1
    refine (poll_told hP kS2 (by omega) 0 (Nat.zero_le _) 0 (by rw [kL]; rfl) ⟨#[98]⟩ (by decide) 5 (by omega) (by omega)).mono ?_
    rintro e w4 ⟨hb, z, oa, oc, mk, hz, hlt, hend, hmk, he, hci⟩
    rw [List.drop_zero, kC] at hz hlt hend hmk he hci
    have hz2 : z = 2 := by
      rcases hend with h | h
      · exact h
      · have : z = 0 ∨ z = 1 ∨ z = 2 := by simp at hz; omega
        rcases this with rfl | rfl | rfl
        · rw [kT0] at h; simp at h
        · rw [kT1] at h; simp at h
        · rfl
    subst hz2
    rw [kT2] at he hci
    have hmk2 : mk = 2 := by rw [hmk]; rfl
    subst hmk2
    rcases CmsOwn.is hci with h | ⟨b, off, rfl, hlt2, hv⟩
    · simp at h
    · obtain ⟨m0, _, _⟩ := hv 0 (by simp)
      exact ⟨b, off, oc, he, hlt2, by simpa using m0, Lib.hid (HB3.out.trans (hb.mono HB3.out.size))⟩)
  clear h3 HC2 HB2
  go_wp2_with fail
  refine HP.out.mono ?_
  rintro e w4 ⟨b, off, oc, rfl, hlt, m0, HB4⟩
  have m1 := (((Below.refl _ w4).alloc (Nat.le_refl _) (.cells #[.slice (some ⟨b, off, none⟩) 1 oc, .int .i64 2] 58)).cell (p := ⟨b, off, none⟩) hlt).trans m0
  have HBL := Lib.hid (HB4.out.trans (((Below.refl _ w4).alloc (Nat.le_refl _) (.cells #[.slice (some ⟨b, off, none⟩) 1 oc, .int .i64 2] 58)).mono HB4.out.size))
  have hoc : Hid (1 ≤ oc ∨ True) := Lib.hid (.inr trivial)
  clear HP HB3 hoc
  go_wp2
  go_ret
  exact ⟨rfl, HBL.out⟩

end Go.Proofs.Ytookplnegfheeaa.wT
