/-
  The walk of mailbaglaw13.SchemaReads.
-/
import Derived.Test.YtidbiefenjnodaaSDec
import Derived.Test.YtidbiefenjnodaaSKey
namespace Go.Proofs.Ytidbiefenjnodaa.schemaReads
open Go.RowKit Go.Proofs.Ytidbiefenjnodaa.rdS

set_option linter.unusedVariables false
set_option linter.unusedSimpArgs false

set_option maxHeartbeats 4000000 in
set_option maxRecDepth 100000 in
theorem walk (nm : ByteArray) (hnm : nm.size ≤ maxLen) (s : ByteArray) (hs : s.size ≤ maxLen) (w : World) :
    Calls Try.prog 3 #[.string nm, .string s] w fun e w' => e = .returned (.bool true) ∧ Below w.heap.size w w' := by
  have HH := Lib.hid head13_any
  clear hnm hs
  by_cases h5 : s.size ≤ 500
  · by_cases h6 : nm.size ≤ 60
    · have h5' : ¬ (500 : Int) < (s.size : Int) := by omega
      have h6' : ¬ (60 : Int) < (nm.size : Int) := by omega
      have HD : Hid (∀ W, Calls Try.prog 7 #[.string nm, .string s] W (DecCoP nm (decCo nm s.data.toList) W)) := Lib.hid fun W => cdec_any nm s (by omega) W
      clear h5 h6
      go_enter Try.func3, Try.ntmps3
      go_wp2_with fail
      refine (HH.out _).mono ?_
      rintro e w1 ⟨rfl, hb1⟩
      go_wp2_with fail
      refine (HD.out w1).mono ?_
      rintro e w2 ⟨hb2, ⟨hq, rfl⟩ | ⟨xs, a, c, hq, rfl, hxc, hcm, hix, hnew⟩⟩
      · have hbw := hb1.trans (hb2.mono hb1.size)
        have HB := Lib.hid (hbw.alloc hbw.size (.cells #[.string ⟨#[]⟩, .slice none 0 0] 25))
        clear hb1 hb2 hbw hq
        go_wp2
        go_ret
        exact ⟨rfl, HB.out⟩
      · have hbw := hb1.trans (hb2.mono hb1.size)
        obtain ⟨hbk, hrt⟩ := decCo_back hq
        obtain ⟨_, hl8, hsz⟩ := rightCo_of hrt
        obtain ⟨W3, hW3⟩ : ∃ W3, W3 = w2.alloc (.cells #[.string nm, .slice a xs.length c] 25) := ⟨_, rfl⟩
        have hb23 : Below w2.heap.size w2 W3 := by rw [hW3]; exact (Below.refl _ w2).alloc (Nat.le_refl _) _
        have hix3 : IxsIs W3 a xs := hix.below hb23
        have hB3 : Box W3 w2.heap.size 25 #[.string nm, .slice a xs.length c] := by rw [hW3]; exact Box.new w2 _ _
        have hbw3 : Below w.heap.size w W3 := hbw.trans (hb23.mono hbw.size)
        have HR := Lib.hid (cright_any (cap := c) hix3 rfl (by omega) hxc nm)
        rw [hrt] at HR
        have HE : Hid (∀ W, Below W3.heap.size W3 W → Calls Try.prog 9 #[.agg #[.string nm, .slice a xs.length c]] W fun e w' => e = .returned (.string s) ∧ Below W.heap.size W w') := Lib.hid fun W hb => by
          have h := cenc_any (cap := c) (hix3.below hb) rfl (by omega) (fun x hx => by have := hsz x hx; omega) nm
          rw [← hbk] at h
          exact h
        have HK : Hid (∀ W, Below W3.heap.size W3 W → Below w.heap.size w W ∧ w2.heap.size < W.heap.size ∧ W.cell? ⟨w2.heap.size, 0, none⟩ = some (.string nm) ∧ W.cell? ⟨w2.heap.size, 1, none⟩ = some (.slice a xs.length c)) := Lib.hid fun W hb => by
          have h1 : Box W w2.heap.size 25 #[.string nm, .slice a xs.length c] := (hb.block _ hB3.lt).trans hB3
          exact ⟨hbw3.trans (hb.mono hbw3.size), h1.lt, h1.two.1, h1.two.2⟩
        generalize xs.length = n at HR HE HK hW3 hxc
        clear hb1 hb2 hbw hq hix hix3 hB3 hbw3 hnew hrt hbk hl8 hsz hxc hcm hb23
        go_wp2_with fail
        rw [← hW3]
        clear hW3
        refine HR.out.mono ?_
        rintro e w4 ⟨rfl, hb4⟩
        obtain ⟨_, l4, x0, x1⟩ := HK.out w4 hb4
        have HB4 := Lib.hid hb4
        clear hb4 HR
        go_wp2_with fail
        refine (HE.out w4 HB4.out).mono ?_
        rintro e w5 ⟨rfl, hb5⟩
        obtain ⟨hbw5, l5, z0, z1⟩ := HK.out w5 (HB4.out.trans (hb5.mono HB4.out.size))
        have HB5 := Lib.hid hbw5
        clear hb5 HE HK hbw5
        go_wp2
        go_ret
        exact ⟨rfl, HB5.out⟩
    · have h5' : ¬ (500 : Int) < (s.size : Int) := by omega
      have h6' : (60 : Int) < (nm.size : Int) := by omega
      clear h5 h6
      go_enter Try.func3, Try.ntmps3
      go_wp2_with fail
      refine (HH.out _).mono ?_
      rintro e w1 ⟨rfl, hb1⟩
      have HB := Lib.hid hb1
      clear hb1
      go_wp2
      go_ret
      exact ⟨rfl, HB.out⟩
  · have h5' : (500 : Int) < (s.size : Int) := by omega
    clear h5
    go_enter Try.func3, Try.ntmps3
    go_wp2_with fail
    refine (HH.out _).mono ?_
    rintro e w1 ⟨rfl, hb1⟩
    have HB := Lib.hid hb1
    clear hb1
    go_wp2
    go_ret
    exact ⟨rfl, HB.out⟩

end Go.Proofs.Ytidbiefenjnodaa.schemaReads
