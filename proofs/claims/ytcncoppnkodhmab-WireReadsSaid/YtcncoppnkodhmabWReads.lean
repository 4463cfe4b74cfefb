/-
  WireReads: its walk.
-/
import Derived.Test.YtcncoppnkodhmabWAnsR
import Derived.Test.YtcncoppnkodhmabWAsks
namespace Go.Proofs.Ytcncoppnkodhmab.wireReads
open Go.RowKit bsK rdS Go.Proofs.Ytcncoppnkodhmab.tRow

set_option linter.unusedVariables false
set_option linter.unusedSimpArgs false

/-- more bytes than a question has -/
theorem wread_long (s : ByteArray) (hs : 20000 < s.size) (w : World) :
    Calls Try.prog 13 #[.string s] w fun e w' => e = .returned (.tuple #[.agg (Ak.mk 0 ⟨#[]⟩ ⟨#[]⟩ ⟨#[]⟩ ⟨#[]⟩ 0 0).cells, .int .i64 4]) ∧ Below w.heap.size w w' := by
  have hlong : (20000 : Int) < (s.size : Int) := by omega
  go_enter Try.func13, Try.ntmps13
  go_wp2
  exact bodyPost_ret (v := .tuple #[.agg (Ak.mk 0 ⟨#[]⟩ ⟨#[]⟩ ⟨#[]⟩ ⟨#[]⟩ 0 0).cells, .int .i64 4]) (by simp [results, Try.results13, go_sem]) rfl ⟨rfl, (Below.refl _ w).alloc (Nat.le_refl _) _⟩

theorem ak_neq (W : World) : (binOp .neq 24 (.agg #[.int .i64 0, .string ⟨#[]⟩, .string ⟨#[]⟩, .string ⟨#[]⟩, .string ⟨#[]⟩, .int .i64 0, .int .i64 0]) (.agg #[.int .i64 0, .string ⟨#[]⟩, .string ⟨#[]⟩, .string ⟨#[]⟩, .string ⟨#[]⟩, .int .i64 0, .int .i64 0])).run Try.prog W = .ok (.bool false) W := by
  go_simp

attribute [-go_sem] run_neq_struct

theorem flat_le (ps : List ByteArray) : ∀ s ∈ ps, s.size ≤ (ps.flatMap octT).length := fun s hs => by
  obtain ⟨i, hi, rfl⟩ := List.getElem_of_mem hs
  have h : ps = ps.take i ++ (ps[i] :: ps.drop (i + 1)) := by rw [← List.drop_eq_getElem_cons hi, List.take_append_drop]
  conv => rhs; rw [h]
  rw [List.flatMap_append, List.flatMap_cons, List.length_append, List.length_append]
  unfold octT
  rw [List.length_append]
  have h2 : (ps[i]).data.toList.length = (ps[i]).size := Array.length_toList
  omega

set_option maxHeartbeats 8000000 in
set_option maxRecDepth 100000 in
theorem walk {w : World} (s : ByteArray) (_ : s.size ≤ maxLen) :
    Calls Try.prog 4 #[.string s] w fun r w' => r = .returned (.bool true) ∧ Below w.heap.size w w' := by
  by_cases hbig : 21000 < s.size
  · have hbigI : (21000 : Int) < (s.size : Int) := by omega
    go_enter Try.func4, Try.ntmps4
    go_wp2_with fail
    refine (head18_any _).mono ?_
    rintro e w1 ⟨rfl, hb1⟩
    have HB1 := Lib.hid hb1
    clear hb1
    go_wp2
    go_ret
    exact ⟨rfl, HB1.out⟩
  have hbigI : ¬ ((21000 : Int) < (s.size : Int)) := by omega
  have HAN : Hid (∀ W, Calls Try.prog 14 #[.string s] W fun r w' => Hid (Below W.heap.size W w') ∧ ((r = .returned (.tuple #[.agg #[.int .i64 0, .int .i64 0, .slice none 0 0], .int .i64 2])) ∨ ∃ (k n : Nat) (ps : List ByteArray) (a : Option Addr) (c : Nat), r = .returned (.tuple #[.agg #[.int .i64 (k : Int), .int .i64 (n : Int), .slice a ps.length c], .int .i64 0]) ∧
      Hid (∀ W2, Below w'.heap.size w' W2 → Calls Try.prog 16 #[.agg #[.int .i64 (k : Int), .int .i64 (n : Int), .slice a ps.length c]] W2 fun r w3 => r = .returned (.string s) ∧ Hid (Below W2.heap.size W2 w3)))) := Lib.hid fun W => by
    refine (wansr_any s (by omega) W).mono ?_
    rintro r w' ⟨hb, ⟨_, h⟩ | ⟨k, n, ps, a, c, hq, h, hrow⟩⟩
    · exact ⟨Lib.hid hb, .inl h⟩
    · refine ⟨Lib.hid hb, .inr ⟨k, n, ps, a, c, h, Lib.hid fun W2 hb2 => ?_⟩⟩
      obtain ⟨h1, h2, h3⟩ := readAn_back hq
      have hl : (octAn k n ps).length ≤ 21000 := by
        rw [← h1, Array.length_toList]
        show s.size ≤ 21000
        omega
      have hfl : (ps.flatMap octT).length ≤ 21000 := by
        unfold octAn at hl
        simp only [List.length_append] at hl
        omega
      have hpl := flat_pos ps
      refine (waenc_any (w := W2) (k : Int) (n : Int) (by omega) (by omega) (cap := c) (hrow.below hb2) (by omega) (by omega) (fun x hx => by have := flat_le ps x hx; omega)).mono ?_
      rintro r w3 ⟨rfl, hb3⟩
      rw [Int.toNat_natCast, Int.toNat_natCast, ← h1]
      exact ⟨rfl, Lib.hid hb3⟩
  have HSM : Hid (∀ W, Calls Try.prog 15 #[.agg #[.int .i64 0, .int .i64 0, .slice none 0 0], .agg #[.int .i64 0, .int .i64 0, .slice none 0 0]] W fun r w' => r = .returned (.bool true) ∧ Hid (Below W.heap.size W w')) := Lib.hid fun W => by
    refine (wsame_any (w := W) 0 0 0 0 (cap1 := 0) (cap2 := 0) (a1 := none) (a2 := none) (len1 := 0) (len2 := 0) (ps := []) (qs := []) (.inl rfl) rfl (.inl rfl) rfl (by omega) (by omega)).mono ?_
    rintro r w' ⟨rfl, hb⟩
    rw [smA_true ⟨rfl, rfl, rfl⟩]
    exact ⟨rfl, Lib.hid hb⟩
  have hnq := ak_neq
  by_cases hlong : 20000 < s.size
  · have hlongI : (20000 : Int) < (s.size : Int) := by omega
    have HCL := Lib.hid (fun W => wread_long s hlong W)
    clear hbig hlong
    go_enter Try.func4, Try.ntmps4
    go_wp2_with fail
    refine (head18_any _).mono ?_
    rintro e w1 ⟨rfl, hb1⟩
    have HB1 := Lib.hid hb1
    clear hb1
    go_wp2_with fail
    refine (HCL.out _).mono ?_
    rintro e w2 ⟨rfl, hb2⟩
    have HB2 := Lib.hid (HB1.out.trans (hb2.mono HB1.out.size))
    clear hb2 HB1
    have HGD : Hid (Below w.heap.size w (w2.alloc (.cells (Ak.mk 0 ⟨#[]⟩ ⟨#[]⟩ ⟨#[]⟩ ⟨#[]⟩ 0 0).cells 24))) := Lib.hid (HB2.out.alloc HB2.out.size (.cells (Ak.mk 0 ⟨#[]⟩ ⟨#[]⟩ ⟨#[]⟩ ⟨#[]⟩ 0 0).cells 24))
    clear HCL
    go_wp2_with fail
    refine (HAN.out _).mono ?_
    rintro e w6 ⟨HB6, hcase⟩
    have HBL := Lib.hid (HGD.out.trans (HB6.out.mono HGD.out.size))
    rcases hcase with ⟨rfl⟩ | ⟨k, n, ps, a, c, rfl, HENC⟩
    · have HZ : Hid (Box (w6.alloc (.cells #[.int .i64 0, .int .i64 0, .slice none 0 0] 35)) w6.heap.size 35 #[.int .i64 0, .int .i64 0, .slice none 0 0]) := Lib.hid (Box.new w6 _ _)
      go_wp2_with fail
      refine (HSM.out _).mono ?_
      rintro e w8 ⟨rfl, HB8⟩
      have HBM := Lib.hid ((HBL.out.alloc HBL.out.size _).trans (HB8.out.mono (by have := HBL.out.size; rw [World.size_alloc]; omega)))
      clear HB8
      go_wp2
      go_ret
      exact ⟨rfl, HBM.out⟩
    · have HENC2 := Lib.hid (HENC.out _ ((Below.refl _ w6).alloc (Nat.le_refl _) (.cells #[.int .i64 (k : Int), .int .i64 (n : Int), .slice a ps.length c] 35)))
      clear HENC
      go_wp2_with fail
      refine HENC2.out.mono ?_
      rintro e w8 ⟨rfl, HB8⟩
      have HBM := Lib.hid ((HBL.out.alloc HBL.out.size _).trans (HB8.out.mono (by have := HBL.out.size; rw [World.size_alloc]; omega)))
      clear HB8
      go_wp2
      go_ret
      exact ⟨rfl, HBM.out⟩
  have hlongI : ¬ ((20000 : Int) < (s.size : Int)) := by omega
  have hcl := fun W => wread_any s (by omega) W
  cases hq : readA s.data.toList with
  | none =>
    rw [hq] at hcl
    have HCL : Hid (∀ W, Calls Try.prog 13 #[.string s] W fun e w' => e = .returned (.tuple #[.agg (Ak.mk 0 ⟨#[]⟩ ⟨#[]⟩ ⟨#[]⟩ ⟨#[]⟩ 0 0).cells, .int .i64 2]) ∧ Below W.heap.size W w') := Lib.hid fun W => (hcl W).mono fun e w' ⟨hb, he⟩ => ⟨he, hb⟩
    clear hbig hlong hcl hq
    go_enter Try.func4, Try.ntmps4
    go_wp2_with fail
    refine (head18_any _).mono ?_
    rintro e w1 ⟨rfl, hb1⟩
    have HB1 := Lib.hid hb1
    clear hb1
    go_wp2_with fail
    refine (HCL.out _).mono ?_
    rintro e w2 ⟨rfl, hb2⟩
    have HB2 := Lib.hid (HB1.out.trans (hb2.mono HB1.out.size))
    clear hb2 HB1
    have HGD : Hid (Below w.heap.size w (w2.alloc (.cells (Ak.mk 0 ⟨#[]⟩ ⟨#[]⟩ ⟨#[]⟩ ⟨#[]⟩ 0 0).cells 24))) := Lib.hid (HB2.out.alloc HB2.out.size (.cells (Ak.mk 0 ⟨#[]⟩ ⟨#[]⟩ ⟨#[]⟩ ⟨#[]⟩ 0 0).cells 24))
    clear HCL
    go_wp2_with fail
    refine (HAN.out _).mono ?_
    rintro e w6 ⟨HB6, hcase⟩
    have HBL := Lib.hid (HGD.out.trans (HB6.out.mono HGD.out.size))
    rcases hcase with ⟨rfl⟩ | ⟨k, n, ps, a, c, rfl, HENC⟩
    · have HZ : Hid (Box (w6.alloc (.cells #[.int .i64 0, .int .i64 0, .slice none 0 0] 35)) w6.heap.size 35 #[.int .i64 0, .int .i64 0, .slice none 0 0]) := Lib.hid (Box.new w6 _ _)
      go_wp2_with fail
      refine (HSM.out _).mono ?_
      rintro e w8 ⟨rfl, HB8⟩
      have HBM := Lib.hid ((HBL.out.alloc HBL.out.size _).trans (HB8.out.mono (by have := HBL.out.size; rw [World.size_alloc]; omega)))
      clear HB8
      go_wp2
      go_ret
      exact ⟨rfl, HBM.out⟩
    · have HENC2 := Lib.hid (HENC.out _ ((Below.refl _ w6).alloc (Nat.le_refl _) (.cells #[.int .i64 (k : Int), .int .i64 (n : Int), .slice a ps.length c] 35)))
      clear HENC
      go_wp2_with fail
      refine HENC2.out.mono ?_
      rintro e w8 ⟨rfl, HB8⟩
      have HBM := Lib.hid ((HBL.out.alloc HBL.out.size _).trans (HB8.out.mono (by have := HBL.out.size; rw [World.size_alloc]; omega)))
      clear HB8
      go_wp2
      go_ret
      exact ⟨rfl, HBM.out⟩
  | some q =>
    rw [hq] at hcl
    obtain ⟨hb, hr⟩ := readA_back hq
    have HCL0 : Hid (∀ W, Calls Try.prog 13 #[.string s] W fun e w' => e = .returned (.tuple #[.agg q.cells, .int .i64 0]) ∧ Below W.heap.size W w') := Lib.hid fun W => (hcl W).mono fun e w' ⟨hb, he⟩ => ⟨he, hb⟩
    have HEN : Hid (∀ W, Calls Try.prog 10 #[.agg q.cells] W fun e w' => e = .returned (.tuple #[.string s, .int .i64 0]) ∧ Hid (Below W.heap.size W w')) := Lib.hid fun W => (wenc_yes q W hr).mono fun e w' ⟨he, hb2⟩ => ⟨by rw [he, ← hb], Lib.hid hb2⟩
    have HRT : Hid (∀ W, Calls Try.prog 11 #[.agg q.cells] W fun e w' => e = .returned (.bool true) ∧ Hid (Below W.heap.size W w')) := Lib.hid fun W => (wright_any q W).mono fun e w' ⟨he, hb2⟩ => ⟨by rw [he, hr], Lib.hid hb2⟩
    clear hbig hlong hcl hq hb hr hnq
    go_enter Try.func4, Try.ntmps4
    go_wp2_with fail
    refine (head18_any _).mono ?_
    rintro e w1 ⟨rfl, hb1⟩
    have HB1 := Lib.hid hb1
    clear hb1
    go_wp2_with fail
    refine (HCL0.out _).mono ?_
    rintro e w2 ⟨rfl, hb2⟩
    have HB2 := Lib.hid (HB1.out.trans (hb2.mono HB1.out.size))
    have HX := Lib.hid (Box.new w2 24 q.cells)
    clear hb2 HB1 HCL0
    go_wp2_with fail
    refine (HEN.out _).mono ?_
    rintro e w3 ⟨rfl, HB3⟩
    have HB4 := Lib.hid ((HB2.out.alloc HB2.out.size _).trans (HB3.out.mono (by have := HB2.out.size; rw [World.size_alloc]; omega)))
    have hx := (HB3.out.block _ HX.out.lt).trans HX.out
    obtain ⟨y0, y1, y2, y3, y4, y5, y6⟩ := Box.seven hx
    clear HB3 HEN hx
    go_wp2_with fail
    refine (HRT.out _).mono ?_
    rintro e w5 ⟨rfl, HB5⟩
    have HB2 := Lib.hid (HB4.out.trans (HB5.out.mono HB4.out.size))
    have HCL := Lib.hid trivial
    clear HB5 HB4 HX HRT y0 y1 y2 y3 y4 y5 y6
    have HGD : Hid (Below w.heap.size w w5) := Lib.hid HB2.out
    clear HCL
    go_wp2_with fail
    refine (HAN.out _).mono ?_
    rintro e w6 ⟨HB6, hcase⟩
    have HBL := Lib.hid (HGD.out.trans (HB6.out.mono HGD.out.size))
    rcases hcase with ⟨rfl⟩ | ⟨k, n, ps, a, c, rfl, HENC⟩
    · have HZ : Hid (Box (w6.alloc (.cells #[.int .i64 0, .int .i64 0, .slice none 0 0] 35)) w6.heap.size 35 #[.int .i64 0, .int .i64 0, .slice none 0 0]) := Lib.hid (Box.new w6 _ _)
      go_wp2_with fail
      refine (HSM.out _).mono ?_
      rintro e w8 ⟨rfl, HB8⟩
      have HBM := Lib.hid ((HBL.out.alloc HBL.out.size _).trans (HB8.out.mono (by have := HBL.out.size; rw [World.size_alloc]; omega)))
      clear HB8
      go_wp2
      go_ret
      exact ⟨rfl, HBM.out⟩
    · have HENC2 := Lib.hid (HENC.out _ ((Below.refl _ w6).alloc (Nat.le_refl _) (.cells #[.int .i64 (k : Int), .int .i64 (n : Int), .slice a ps.length c] 35)))
      clear HENC
      go_wp2_with fail
      refine HENC2.out.mono ?_
      rintro e w8 ⟨rfl, HB8⟩
      have HBM := Lib.hid ((HBL.out.alloc HBL.out.size _).trans (HB8.out.mono (by have := HBL.out.size; rw [World.size_alloc]; omega)))
      clear HB8
      go_wp2
      go_ret
      exact ⟨rfl, HBM.out⟩

end Go.Proofs.Ytcncoppnkodhmab.wireReads
