/-
  The walk of mailbaglaw04.DiskClones.
-/
import Derived.Test.YtkeopkhbcmeplaaDActs
import Derived.Test.YtkeopkhbcmeplaaDTwo
namespace Go.Proofs.Ytkeopkhbcmeplaa.diskClones
open Go.RowKit

/-- behind the clone: more's acts, so many of the disk, so many of its clone -/
def Rel (w wr : World) (d c m nd nc : Nat) (Md Mc Mm : MS) : Prop := ∃ v, Two wr w.heap.size d nd c nc m v Md Mc Mm ∧ Below w.heap.size w wr

abbrev A5 (x : ActS) : Array Value := #[.int .i64 x.k, .int .i64 x.n, .string x.name, .string x.dest, .string x.data]

set_option maxHeartbeats 8000000 in
set_option maxRecDepth 100000 in
theorem walk_few {w : World} (z : Int) (a : Option Addr) (len cap : Nat) (vs : List ActS) (hc : ActsCame w a len cap vs) (hf : fewB vs = true)
    (a2 : Option Addr) (len2 cap2 : Nat) (vs2 : List ActS) (hc2 : ActsCame w a2 len2 cap2 vs2) (hf2 : fewB vs2 = true) :
    Calls Try.prog 5 #[.int .i64 z, .slice a len cap, .slice a2 len2 cap2] w fun e w' => e = .returned (.bool true) ∧ Below w.heap.size w w' := by
  have HFW : Hid (∀ W, Below w.heap.size w W → Calls Try.prog 11 #[.slice a len cap] W fun e w' => e = .returned (.bool true) ∧ Below W.heap.size W w') := Lib.hid fun W hB => by
    have := few_any a len cap vs ⟨hc.1, hc.2.1, hc.2.2.1, hc.2.2.2.1.below hB, hc.2.2.2.2⟩
    rwa [hf] at this
  have HFW2 : Hid (∀ W, Below w.heap.size w W → Calls Try.prog 11 #[.slice a2 len2 cap2] W fun e w' => e = .returned (.bool true) ∧ Below W.heap.size W w') := Lib.hid fun W hB => by
    have := few_any a2 len2 cap2 vs2 ⟨hc2.1, hc2.2.1, hc2.2.2.1, hc2.2.2.2.1.below hB, hc2.2.2.2.2⟩
    rwa [hf2] at this
  obtain ⟨rfl, h1, h2, h3, h4⟩ := hc
  have HI := Lib.hid (And.intro h3 (And.intro h4 (fewB_ok hf)))
  have hlen := (fewB_ok hf).1
  clear hf h3 h4
  obtain ⟨rfl, g1, g2, g3, g4⟩ := hc2
  have HJ := Lib.hid (And.intro g3 (And.intro g4 (fewB_ok hf2)))
  have hlen2 := (fewB_ok hf2).1
  clear hf2 g3 g4
  go_enter Try.func5, Try.ntmps5
  go_wp2_with fail
  refine (dhead_any _).mono ?_
  rintro e w0 ⟨rfl, hb0⟩
  have H0 := Lib.hid hb0
  clear hb0
  go_wp2_with fail
  refine (HFW.out _ H0.out).mono ?_
  rintro e w1 ⟨rfl, hb1⟩
  have H1 := Lib.hid (H0.out.trans (hb1.mono H0.out.size))
  clear hb1 H0
  go_wp2_with fail
  refine (HFW2.out _ H1.out).mono ?_
  rintro e w1 ⟨rfl, hb1⟩
  have H1 := Lib.hid (H1.out.trans (hb1.mono H1.out.size))
  clear hb1 HFW HFW2
  go_wp2_with fail
  refine (new_dm _ z).mono ?_
  rintro e w2 ⟨d, rfl, hD2, hb2⟩
  have H2 := Lib.hid (And.intro (hD2.base H1.out.size) (H1.out.trans (hb2.mono H1.out.size)))
  clear hD2 hb2 H1
  go_wp2_with fail
  generalize min (max z 0) 1048576 = zz at H2 ⊢
  have HST : Hid (∃ M v, St (w2.alloc (.cells #[.slice none 0 0, .int .i64 zz, .bool false, .int .i64 (-1)] 30)) w.heap.size d 0 w2.heap.size v M M ∧ Below w.heap.size w (w2.alloc (.cells #[.slice none 0 0, .int .i64 zz, .bool false, .int .i64 (-1)] 30))) := Lib.hid (by
    have hb := (Below.refl w2.heap.size w2).alloc (Nat.le_refl _) (.cells #[.slice none 0 0, .int .i64 zz, .bool false, .int .i64 (-1)] 30)
    exact ⟨_, _, ⟨H2.out.1.below hb, model_new H2.out.2.size zz⟩, H2.out.2.trans (hb.mono H2.out.2.size)⟩)
  clear H2
  generalize hmm : w2.heap.size = m at HST ⊢
  clear hmm
  go_loopw [38] (fun i wr => ∃ k : Nat, k ≤ vs.length ∧ i = .int .i64 k ∧ Hid (∃ M v, St wr w.heap.size d k m v M M ∧ Below w.heap.size w wr)) (fun i _ => vs.length - (intOf i).toNat)
  case atStart => exact ⟨0, Nat.zero_le _, rfl, HST⟩
  case round =>
    obtain ⟨k, hk, rfl, HR⟩ := hrel
    clear HST
    by_cases hlt : k < vs.length
    · obtain ⟨M, v, hst, hbw⟩ := HR.out
      obtain ⟨b, off, rfl, hb, hcells⟩ : ∃ b off, a = some ⟨b, off, none⟩ ∧ b < w.heap.size ∧ ∀ i (h : i < vs.length), ActIn w b (off + i * 5) (vs[i]) := by
        rcases HI.out.1 with rfl | h
        · simp at hlt
        · exact h
      obtain ⟨c0, c1, c2, c3, c4⟩ := hcells k hlt
      replace c0 := (hbw.cell (p := ⟨b, off + k * 5, none⟩) hb).trans c0
      replace c1 := (hbw.cell (p := ⟨b, off + k * 5 + 1, none⟩) hb).trans c1
      replace c2 := (hbw.cell (p := ⟨b, off + k * 5 + 2, none⟩) hb).trans c2
      replace c3 := (hbw.cell (p := ⟨b, off + k * 5 + 3, none⟩) hb).trans c3
      replace c4 := (hbw.cell (p := ⟨b, off + k * 5 + 4, none⟩) hb).trans c4
      have hok := HI.out.2.1 _ (List.getElem_mem hlt)
      have hda := HI.out.2.2.2 _ (List.getElem_mem hlt)
      obtain ⟨x, hx⟩ : ∃ x, x = vs[k] := ⟨_, rfl⟩
      rw [← hx] at c0 c1 c2 c3 c4 hok hda
      have hkl : (k : Int) < (vs.length : Int) := by omega
      have HLT := Lib.hid hlt
      have hAl : Below wr.heap.size wr (wr.alloc (.cells (A5 x) 32)) := (Below.refl _ wr).alloc (Nat.le_refl _) _
      have hst1 := hst.below hAl
      have hbw1 := hbw.trans (hAl.mono hbw.size)
      have hbx : (wr.alloc (.cells (A5 x) 32)).heap[wr.heap.size]? = some (.cells (A5 x) 32 (0, 0)) := heap_alloc_new wr _
      obtain ⟨r, hr⟩ : ∃ r, r = M.act x := ⟨_, rfl⟩
      have hplay := play_any hst1.1 (by omega) x hok.1 hok.2.1 hok.2.2.2
      rw [← hr] at hplay
      have HPLAY := Lib.hid hplay
      have HBX : Hid (∀ w4 e, PlayPost (wr.alloc (.cells (A5 x) 32)) w4 w.heap.size d k r e → e = .returned (.int .i64 r.1) ∧ St w4 w.heap.size d (k + 1) m v r.2 M ∧ Below w.heap.size w w4 ∧ ABox w4 wr.heap.size x ∧ Calls Try.prog 14 #[.pointer (some ⟨m, 0, none⟩), .agg (A5 x)] w4 fun e w' => DoPost w4 w' w.heap.size m v r e) := Lib.hid fun w4 e hp => by
        obtain ⟨q1, q2, q3, q4⟩ := hst1.played hp
        refine ⟨q1, q2, hbw1.trans q3, (q4 _ _ _ _ hbx ⟨by decide, by decide, by decide, by decide⟩).trans hbx, ?_⟩
        have hkn := hst.1.known
        rw [hr]
        exact do_any q2.2 x (by omega) hkn.1 (by omega) ⟨hkn.2.2.1, hkn.2.2.2.1, hkn.2.2.2.2.1, hkn.2.2.2.2.2.1, hkn.2.2.2.2.2.2.1⟩
      clear hx hcells hb hlt hst hbw hok hda hAl hst1 hbw1 hbx hr hplay HR
      go_wp2_with fail
      refine HPLAY.out.mono ?_
      rintro e w4 hp4
      obtain ⟨rfl, hs4, hb4, hx4, hdo4⟩ := HBX.out w4 e hp4
      have HDO4 := Lib.hid hdo4
      obtain ⟨z0, z1, z2, z3, z4⟩ := hx4.five
      have HS4 := Lib.hid (And.intro hs4 hb4)
      clear hp4 hs4 hb4 hx4 hdo4 HPLAY HBX c0 c1 c2 c3 c4
      go_wp2_with fail
      refine HDO4.out.mono ?_
      rintro e w5 hd5
      obtain ⟨rfl, ⟨v5, hs5⟩, hb5, _⟩ := HS4.out.1.done hd5
      have HS5 : Hid (∃ M v, St w5 w.heap.size d (k + 1) m v M M ∧ Below w.heap.size w w5) := Lib.hid ⟨_, _, hs5, HS4.out.2.trans hb5⟩
      clear hd5 hs5 hb5 HS4 HDO4 z0 z1 z2 z3 z4
      go_wp2
      go_roundw
      case rel => exact ⟨k + 1, by have := HLT.out; omega, by go_num, HS5⟩
      case measure => have := HLT.out; simp [intOf]; omega
    · obtain rfl : k = vs.length := by omega
      have hge : ¬ (vs.length : Int) < (vs.length : Int) := by omega
      obtain ⟨M, v, hst, hbw⟩ := HR.out
      have HCL := Lib.hid (clone_dm hst.1 (by omega))
      have HB0 := Lib.hid (And.intro hst hbw)
      clear hlt HR hst hbw HI
      go_wp2_with fail
      refine HCL.out.mono ?_
      rintro e w3 ⟨c, rfl, hD3, hb3⟩
      have HST2 : Hid (Rel w w3 d c m (vs.length + 0) vs.length (actsK M vs2 0) M M) := Lib.hid ⟨v, Two.made HB0.out.1 hD3 hb3, HB0.out.2.trans (hb3.mono HB0.out.2.size)⟩
      clear hD3 hb3 HCL HB0
      clear v
      generalize vs.length = L at *
      go_wp2_with fail
      go_loopw [53] (fun i wr => ∃ k : Nat, k ≤ vs2.length ∧ i = .int .i64 k ∧ Hid (Rel w wr d c m (L + k) L (actsK M vs2 k) M M)) (fun i _ => vs2.length - (intOf i).toNat)
      case atStart => exact ⟨0, Nat.zero_le _, rfl, HST2⟩
      case round =>
        obtain ⟨k, hk, rfl, HR⟩ := hrel
        clear HST2
        by_cases hlt : k < vs2.length
        · obtain ⟨v, htw, hbw⟩ := HR.out
          obtain ⟨b, off, rfl, hb, hcells⟩ : ∃ b off, a2 = some ⟨b, off, none⟩ ∧ b < w.heap.size ∧ ∀ i (h : i < vs2.length), ActIn w b (off + i * 5) (vs2[i]) := by
            rcases HJ.out.1 with rfl | h
            · simp at hlt
            · exact h
          obtain ⟨c0, c1, c2, c3, c4⟩ := hcells k hlt
          replace c0 := (hbw.cell (p := ⟨b, off + k * 5, none⟩) hb).trans c0
          replace c1 := (hbw.cell (p := ⟨b, off + k * 5 + 1, none⟩) hb).trans c1
          replace c2 := (hbw.cell (p := ⟨b, off + k * 5 + 2, none⟩) hb).trans c2
          replace c3 := (hbw.cell (p := ⟨b, off + k * 5 + 3, none⟩) hb).trans c3
          replace c4 := (hbw.cell (p := ⟨b, off + k * 5 + 4, none⟩) hb).trans c4
          have hok := HJ.out.2.1 _ (List.getElem_mem hlt)
          have hnext := actsK_next M vs2 k hlt
          obtain ⟨x, hx⟩ : ∃ x, x = vs2[k] := ⟨_, rfl⟩
          rw [← hx] at c0 c1 c2 c3 c4 hok hnext
          have hkl : (k : Int) < (vs2.length : Int) := by omega
          have HLT := Lib.hid hlt
          have hAl : Below wr.heap.size wr (wr.alloc (.cells (A5 x) 32)) := (Below.refl _ wr).alloc (Nat.le_refl _) _
          have HPLAY := Lib.hid ((htw.below hAl).play (by omega) x hok.1 hok.2.1 hok.2.2.2)
          have HB1 := Lib.hid (hbw.trans (hAl.mono hbw.size))
          have HNX := Lib.hid hnext
          clear hx hcells hb hlt htw hbw hok hAl HR hnext
          go_wp2_with fail
          refine HPLAY.out.mono ?_
          rintro e w4 ⟨rfl, ht4, hb4, _⟩
          have HR4 : Hid (Rel w w4 d c m (L + (k + 1)) L (actsK M vs2 (k + 1)) M M) := Lib.hid ⟨v, by rw [HNX.out]; exact ht4, HB1.out.trans hb4⟩
          clear ht4 hb4 HPLAY HB1 HNX c0 c1 c2 c3 c4
          go_wp2
          go_roundw
          case rel => exact ⟨k + 1, by have := HLT.out; omega, by go_num, HR4⟩
          case measure => have := HLT.out; simp [intOf]; omega
        · obtain rfl : k = vs2.length := by omega
          have hge2 : ¬ (vs2.length : Int) < (vs2.length : Int) := by omega
          obtain ⟨v, htw, hbw⟩ := HR.out
          have HSM := Lib.hid (same_any htw.swap.st.1 htw.swap.st.2 (by omega))
          have HB1 := Lib.hid (And.intro htw hbw)
          clear hlt HR htw hbw
          go_wp2_with fail
          refine HSM.out.mono ?_
          rintro e w4 ⟨rfl, hb4⟩
          have HST3 : Hid (Rel w w4 c d m (L + 0) (L + vs2.length) (actsK M vs2 0) (actsK M vs2 vs2.length) (actsK M vs2 0)) := Lib.hid ⟨v, (HB1.out.1.below hb4).swap, HB1.out.2.trans (hb4.mono HB1.out.2.size)⟩
          clear hb4 HSM HB1
          clear v
          go_wp2_with fail
          go_loopw [67] (fun i wr => ∃ k : Nat, k ≤ vs2.length ∧ i = .int .i64 k ∧ Hid (Rel w wr c d m (L + k) (L + vs2.length) (actsK M vs2 k) (actsK M vs2 vs2.length) (actsK M vs2 k))) (fun i _ => vs2.length - (intOf i).toNat)
          case atStart => exact ⟨0, Nat.zero_le _, rfl, HST3⟩
          case round =>
            obtain ⟨k, hk, rfl, HR⟩ := hrel
            clear HST3
            by_cases hlt : k < vs2.length
            · obtain ⟨v, htw, hbw⟩ := HR.out
              obtain ⟨b, off, rfl, hb, hcells⟩ : ∃ b off, a2 = some ⟨b, off, none⟩ ∧ b < w.heap.size ∧ ∀ i (h : i < vs2.length), ActIn w b (off + i * 5) (vs2[i]) := by
                rcases HJ.out.1 with rfl | h
                · simp at hlt
                · exact h
              obtain ⟨c0, c1, c2, c3, c4⟩ := hcells k hlt
              replace c0 := (hbw.cell (p := ⟨b, off + k * 5, none⟩) hb).trans c0
              replace c1 := (hbw.cell (p := ⟨b, off + k * 5 + 1, none⟩) hb).trans c1
              replace c2 := (hbw.cell (p := ⟨b, off + k * 5 + 2, none⟩) hb).trans c2
              replace c3 := (hbw.cell (p := ⟨b, off + k * 5 + 3, none⟩) hb).trans c3
              replace c4 := (hbw.cell (p := ⟨b, off + k * 5 + 4, none⟩) hb).trans c4
              have hok := HJ.out.2.1 _ (List.getElem_mem hlt)
              have hda := HJ.out.2.2.2 _ (List.getElem_mem hlt)
              have hnext := actsK_next M vs2 k hlt
              obtain ⟨x, hx⟩ : ∃ x, x = vs2[k] := ⟨_, rfl⟩
              rw [← hx] at c0 c1 c2 c3 c4 hok hnext hda
              have hkl : (k : Int) < (vs2.length : Int) := by omega
              have HLT := Lib.hid hlt
              have hAl : Below wr.heap.size wr (wr.alloc (.cells (A5 x) 32)).drew := ((Below.refl _ wr).alloc (Nat.le_refl _) _).drew
              have hbx : (wr.alloc (.cells (A5 x) 32)).drew.heap[wr.heap.size]? = some (.cells (A5 x) 32 (0, 0)) := heap_alloc_new wr _
              have hbw1 := hbw.trans (hAl.mono hbw.size)
              obtain ⟨r, hr⟩ : ∃ r, r = (actsK M vs2 k).act x := ⟨_, rfl⟩
              have hplay := (htw.below hAl).play (by omega) x hok.1 hok.2.1 hok.2.2.2
              have hkn := htw.st.1.known
              have hlk : (actsK M vs2 k).files.length ≤ 100000 := by have := hkn.2.1; omega
              have hDO : ∀ w4, (∃ n c n2 Md Mc, Two w4 w.heap.size n c n2 d m v Md Mc (actsK M vs2 k)) → True := fun _ _ => trivial
              clear hDO
              have HDOA : Hid (∀ w4, MAt w4 w.heap.size m v (actsK M vs2 k) → Calls Try.prog 14 #[.pointer (some ⟨m, 0, none⟩), .agg (A5 x)] w4 fun e w' => DoPost w4 w' w.heap.size m v r e) := Lib.hid fun w4 hm4 => by
                rw [hr]
                exact do_any hm4 x (by omega) hkn.1 hlk ⟨hkn.2.2.1, hkn.2.2.2.1, hkn.2.2.2.2.1, hkn.2.2.2.2.2.1, hkn.2.2.2.2.2.2.1⟩
              rw [← hr] at hplay hnext
              have HPLAY := Lib.hid hplay
              have HB1 := Lib.hid (And.intro hbw1 hbx)
              have HNX := Lib.hid hnext
              clear hx hcells hb hlt htw hbw hok hda hAl HR hnext hbx hbw1 hkn hlk hr hplay
              go_upto_region 24 with (fail)
              go_cut [77] (fun s wx => s = .bool false ∧ Hid (Rel w wx c d m (L + (k + 1)) (L + vs2.length) (actsK M vs2 (k + 1)) (actsK M vs2 vs2.length) (actsK M vs2 (k + 1))))
              case first =>
                go_region_with (first
                  | (go_at_call 13; refine HPLAY.out.mono ?_; rintro e w4 ⟨rfl, ht4, hb4, hx4⟩; have hx4b : ABox w4 wr.heap.size x := (hx4 _ _ _ _ HB1.out.2 ⟨by decide, by decide, by decide, by decide⟩).trans HB1.out.2; obtain ⟨z0, z1, z2, z3, z4⟩ := hx4b.five; have HDO4 := Lib.hid (HDOA.out w4 ht4.st.2); have HS4 := Lib.hid (And.intro ht4 (HB1.out.1.trans hb4)); clear ht4 hb4 hx4 hx4b)
                  | (go_at_call 14; refine HDO4.out.mono ?_; rintro e w5 hd5; obtain ⟨rfl, ⟨v5, hs5⟩, hb5⟩ := HS4.out.1.done hd5; have HS5 : Hid (Rel w w5 c d m (L + (k + 1)) (L + vs2.length) (actsK M vs2 (k + 1)) (actsK M vs2 vs2.length) (actsK M vs2 (k + 1))) := Lib.hid ⟨v5, by rw [HNX.out]; exact hs5, HS4.out.2.trans hb5⟩; clear hd5 hs5 hb5))
                all_goals
                  go_wp2_with fail
                  go_meet
                  exact ⟨rfl, HS5⟩
              case rest =>
                obtain ⟨rfl, HC⟩ := hcut
                clear HPLAY HB1 HNX HDOA c0 c1 c2 c3 c4
                go_wp2
                go_roundw
                case rel => exact ⟨k + 1, by have := HLT.out; omega, by go_num, HC⟩
                case measure => have := HLT.out; simp [intOf]; omega
            · obtain rfl : k = vs2.length := by omega
              obtain ⟨v, htw, hbw⟩ := HR.out
              have HSM := Lib.hid (same_any htw.st.1 htw.st.2 (by omega))
              have HSM2 : Hid (∀ W, Below wr.heap.size wr W → Calls Try.prog 15 #[.pointer (some ⟨d, 0, none⟩), .pointer (some ⟨m, 0, none⟩)] W fun e w' => e = .returned (.bool true) ∧ Below W.heap.size W w') := Lib.hid fun W hB => same_any (htw.below hB).swap.st.1 (htw.below hB).swap.st.2 (by omega)
              have HB1 := Lib.hid hbw
              clear hlt HR htw hbw HJ
              clear v
              go_wp2_with fail
              refine (nil_read _ _).mono ?_
              rintro e w4 ⟨rfl, rfl⟩
              go_wp2_with fail
              refine (nil_fall _ _).mono ?_
              rintro e w4 ⟨rfl, rfl⟩
              go_wp2_with fail
              refine HSM.out.mono ?_
              rintro e w4 ⟨rfl, hb4⟩
              have H4 := Lib.hid hb4
              clear hb4 HSM
              go_wp2_with fail
              refine (HSM2.out _ H4.out).mono ?_
              rintro e w5 ⟨rfl, hb5⟩
              have H5 := Lib.hid (HB1.out.trans ((H4.out.trans (hb5.mono H4.out.size)).mono HB1.out.size))
              clear hb5 H4 HSM2 HB1
              go_wp2_with fail
              refine (nil_append _ _ _).mono ?_
              rintro e w6 ⟨rfl, rfl⟩
              go_wp2_with fail
              refine (nil_down _).mono ?_
              rintro e w6 ⟨rfl, rfl⟩
              go_wp2_with fail
              refine (nil_room _).mono ?_
              rintro e w6 ⟨rfl, rfl⟩
              go_wp2_with fail
              refine (nil_clone _).mono ?_
              rintro e w6 ⟨rfl, rfl⟩
              go_wp2_with fail
              refine (nil_crash _).mono ?_
              rintro e w6 ⟨d9, rfl, hD6, hb6⟩
              have hroom := room_dm hD6
              have HRM := Lib.hid hroom
              have H6 := Lib.hid (H5.out.trans (hb6.mono H5.out.size))
              clear hroom hD6 hb6 H5
              go_wp2_with fail
              refine HRM.out.mono ?_
              rintro e w7 ⟨rfl, hb7⟩
              obtain ⟨q, rfl⟩ := hb7
              have hF : Below w.heap.size w (w6.drewN q) := ⟨H6.out.os, H6.out.tape, H6.out.output, H6.out.size, H6.out.block⟩
              have HF := Lib.hid hF
              clear hF HRM H6
              rw [show (⟨[], 1048576, false, -1⟩ : MS).room = 1048576 from rfl]
              go_wp2_with fail
              refine (nil_names _).mono ?_
              rintro e w8 ⟨rfl, rfl⟩
              go_wp2
              go_ret
              exact ⟨rfl, HF.out⟩

end Go.Proofs.Ytkeopkhbcmeplaa.diskClones
