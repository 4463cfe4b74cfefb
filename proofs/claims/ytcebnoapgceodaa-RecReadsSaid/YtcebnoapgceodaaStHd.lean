/-
  mailbaglaw09.head: the document's example.
-/
import Derived.Test.YtcebnoapgceodaaSB
namespace Go.Proofs.Ytcebnoapgceodaa.sT
open Go.RowKit Go.Proofs.Ytcebnoapgceodaa.tC

set_option linter.unusedVariables false
set_option linter.unusedSimpArgs false

def hA : List Wr := [⟨⟨#[97]⟩, ⟨#[120]⟩, false⟩]
def hB : List Wr := [⟨⟨#[97]⟩, ⟨#[]⟩, true⟩]
def hM1 : StM := ((StM.new 0).write 0 []).commit 1 0 hA
def hM2 : StM := hM1.commit 2 0 hB
theorem hF0 : newOK 0 [] = true := by kernel_rfl
theorem hF1 : ((StM.new 0).write 0 []).fits 1 0 hA = true := by kernel_rfl
theorem hF2 : hM1.fits 2 0 hB = true := by kernel_rfl
theorem hG1 : hM2.get ⟨#[97]⟩ 1 = (⟨#[120]⟩, true) := by kernel_rfl
theorem hG2 : hM2.get ⟨#[97]⟩ 2 = (⟨#[]⟩, false) := by kernel_rfl
theorem hV : (hM2.vacuum 2).versions = 0 := by kernel_rfl
theorem hT : hM2.tells 2 = true := by kernel_rfl
theorem hL : hM2.low = 0 := by kernel_rfl
theorem hS1 : SG hM1 2 := by
  have := (SG.base (n := 0) []).commit hF1
  exact this
theorem hS2 : SG hM2 4 := hS1.commit hF2

/-- one write in a block -/
theorem wr_new (W : World) (x : Wr) : WrsIs (W.alloc (.cells #[.string x.key, .string x.val, .bool x.gone] 48)) (some ⟨W.heap.size, 0, none⟩) [x] := by
  refine .inr ⟨W.heap.size, 0, rfl, by simp, fun i hi => ?_⟩
  obtain rfl : i = 0 := by simpa using hi
  have hb := Box.new W 48 #[.string x.key, .string x.val, .bool x.gone]
  exact ⟨hb.cell 0, hb.cell 1, hb.cell 2⟩

/-- the head's own chain of calls -/
theorem commit_one {n0 : Nat} {W : World} {s : Nat} {M : StM} (h : Sep n0 (fun _ => False) W s M) {N : Nat} (hg : SG M N) (hN : N + 1 < 40000) (seq at_ : Int) (x : Wr) (hf : M.fits seq at_ [x] = true) (w1 : World) (hw1 : w1 = W.alloc (.cells #[.string x.key, .string x.val, .bool x.gone] 48) ∨ w1 = (W.alloc (.cells #[.string x.key, .string x.val, .bool x.gone] 48)).drew ∨ w1 = W.drew.alloc (.cells #[.string x.key, .string x.val, .bool x.gone] 48)) :
    Calls Try.prog 49 #[.pointer (some ⟨s, 0, none⟩), .agg #[.int .i64 seq, .int .i64 at_, .slice (some ⟨W.heap.size, 0, none⟩) 1 1]] w1 fun e W' => e = .returned (.int .i64 0) ∧ Hid (Sep n0 (fun _ => False) W' s (M.commit seq at_ [x]) ∧ Below n0 W W') := by
  have hb : Below W.heap.size W w1 := by
    rcases hw1 with rfl | rfl | rfl
    · exact (Below.refl _ _).alloc (Nat.le_refl _) _
    · exact ((Below.refl _ _).alloc (Nat.le_refl _) _).drew
    · exact (Below.refl _ _).drew.alloc (Nat.le_refl _) _
  have hz : w1.heap.size = W.heap.size + 1 := by
    rcases hw1 with rfl | rfl | rfl
    · simp
    · show (W.alloc _).heap.size = _; simp
    · show (W.alloc _).heap.size = _; simp
  have hw : WrsIs w1 (some ⟨W.heap.size, 0, none⟩) [x] := by
    rcases hw1 with rfl | rfl | rfl
    · exact wr_new W x
    · exact wr_new W x
    · exact wr_new W.drew x
  refine (sep_commit (cap := 1) (h.below hb) hg seq at_ hw rfl (by omega) (.inr fun b off e => .inr (.inr ?_))).mono ?_
  · injection e with e
    injection e with e
    omega
  · rintro e W' ⟨hk, ⟨c1, _⟩ | ⟨_, c2, c3⟩⟩
    · rw [hf] at c1; cases c1
    · exact ⟨c2, Lib.hid ⟨c3.less fun q hq => hq.elim, (hb.mono h.2.2).trans hk.below⟩⟩

set_option maxHeartbeats 4000000 in
set_option maxRecDepth 100000 in
theorem head_any (W : World) : Calls Try.prog 11 #[] W fun e W' => e = .returned (.bool true) ∧ Below W.heap.size W W' := by
  have HN : Hid (∀ W1, Below W.heap.size W W1 → Calls Try.prog 33 #[.int .i64 0, .slice none 0 0] W1 fun e W' => ∃ s, e = .returned (.tuple #[.pointer (some ⟨s, 0, none⟩), .int .i64 0]) ∧ Hid (Sep W.heap.size (fun _ => False) W' s ((StM.new 0).write 0 []) ∧ Below W.heap.size W W')) := Lib.hid fun W1 hb => by
    refine (sep_new (n0 := W.heap.size) (cap := 0) 0 (.inl rfl : WrsIs W1 none []) rfl (by simp)).mono ?_
    rintro e W' ⟨hb1, ⟨h1, _⟩ | ⟨_, s, lo, h2, _, h3, h4⟩⟩
    · rw [hF0] at h1; cases h1
    · obtain rfl : lo = 0 := by omega
      refine ⟨s, h3, Lib.hid ⟨?_, hb.trans (hb1.mono hb.size)⟩⟩
      obtain ⟨⟨P, k1, k2⟩, k3, k4⟩ := h4
      exact ⟨⟨P, k1, fun q hq => ⟨by have := (k2 q hq).1; have := hb.size; omega, (k2 q hq).2⟩⟩, k3, by have := hb.size; omega⟩
  go_enter Try.func11, Try.ntmps11
  go_wp2_with fail
  refine (HN.out W (Below.refl _ _)).mono ?_
  rintro e w1 ⟨s, rfl, h1⟩
  have HC1 := Lib.hid (commit_one h1.out.1 (SG.base (n := 0) []) (by simp) 1 0 ⟨⟨#[97]⟩, ⟨#[120]⟩, false⟩ hF1 _ (.inl rfl))
  have HB1 := Lib.hid h1.out.2
  clear h1 HN
  go_wp2_with fail
  refine HC1.out.mono ?_
  rintro e w2 ⟨rfl, h2⟩
  have HB2 := Lib.hid (HB1.out.trans h2.out.2)
  have HC2 := Lib.hid (commit_one (M := hM1) h2.out.1 hS1 (by omega) 2 0 ⟨⟨#[97]⟩, ⟨#[]⟩, true⟩ hF2 _ (.inl rfl))
  clear h2 HC1 HB1
  go_wp2_with fail
  refine HC2.out.mono ?_
  rintro e w3 ⟨rfl, h3⟩
  have HB3 := Lib.hid (HB2.out.trans h3.out.2)
  obtain ⟨P, hP⟩ := Sep.at_ (M := hM2) h3.out.1
  have HG1 := stGet_any hP (hS2.good (by omega)) ⟨#[97]⟩ 1
  rw [hG1] at HG1
  have HG1 := Lib.hid HG1
  have HS3 : Hid (Sep W.heap.size (fun _ => False) w3 s hM2) := Lib.hid h3.out.1
  clear h3 HC2 HB2 hP
  go_wp2_with fail
  refine HG1.out.mono ?_
  rintro e w4 ⟨rfl, hb4⟩
  have HS4 : Hid (Sep W.heap.size (fun _ => False) w4 s hM2) := Lib.hid ((HS3.out.below hb4).less fun q hq => hq.elim)
  have HB4 := Lib.hid (HB3.out.trans (hb4.mono HB3.out.size))
  obtain ⟨P4, hP4⟩ := HS4.out.at_
  have HG2 := stGet_any hP4 (hS2.good (by omega)) ⟨#[97]⟩ 2
  rw [hG2] at HG2
  have HG2 := Lib.hid HG2
  clear hb4 HG1 HS3 HB3 hP4
  go_wp2_with fail
  refine HG2.out.mono ?_
  rintro e w5 ⟨rfl, hb5⟩
  have HS5 : Hid (Sep W.heap.size (fun _ => False) w5 s hM2) := Lib.hid ((HS4.out.below hb5).less fun q hq => hq.elim)
  have HB5 := Lib.hid (HB4.out.trans (hb5.mono HB4.out.size))
  have HV : Hid (∀ w, (w = w5 ∨ w = w5.drew) → Calls Try.prog 50 #[.pointer (some ⟨s, 0, none⟩), .int .i64 2] w fun e W' => e = .returned (.int .i64 0) ∧ Hid (Calls Try.prog 51 #[.pointer (some ⟨s, 0, none⟩)] W' fun e W2 => e = .returned (.int .i64 0) ∧ Hid (Below W.heap.size W W2))) := Lib.hid fun w hw => by
    have hbw : Below w5.heap.size w5 w := by
      rcases hw with rfl | rfl
      · exact Below.refl _ _
      · exact (Below.refl _ _).drew
    have hSw := (HS5.out.below hbw).less (K' := fun _ => False) fun q hq => hq.elim
    refine (sep_vacuum hSw hS2 (by omega) 2).mono ?_
    rintro e W' ⟨hk, ⟨c1, _⟩ | ⟨n, _, c2, _, c3, c4⟩⟩
    · rw [hT] at c1; cases c1
    · rw [hL] at c2
      obtain rfl : n = 2 := by omega
      refine ⟨c3, Lib.hid ?_⟩
      obtain ⟨P', hP'⟩ := c4.at_
      refine (versions_any hP' (vac_good (M := { hM2 with low := hM2.low + 2, cms := hM2.cms.drop 2 }) (hS2.good (by omega)) _ _)).mono ?_
      rintro e W2 ⟨rfl, hb2⟩
      rw [hV]
      have h6 : Below W.heap.size W W' := (HB5.out.trans (hbw.mono HB5.out.size)).trans hk.below
      exact ⟨rfl, Lib.hid (h6.trans (hb2.mono h6.size))⟩
  clear hb5 HG2 HS4 HB4 HS5
  go_wp2_with fail
  refine (HV.out _ (by first | exact .inl rfl | exact .inr rfl)).mono ?_
  rintro e w6 ⟨rfl, hVer⟩
  clear HV
  go_wp2_with fail
  refine hVer.out.mono ?_
  rintro e w7 ⟨rfl, hF⟩
  go_wp2
  first | exact ⟨rfl, hF.out⟩ | (go_ret; exact ⟨rfl, hF.out⟩)

end Go.Proofs.Ytcebnoapgceodaa.sT
