/-
  disk.Rename.
-/
import Derived.Test.YtkeopkhbcmeplaaDApp2
namespace Go.Proofs.Ytkeopkhbcmeplaa
open Go.RowKit

/-- Rename: the answer, and the disk behind it -/
def rnR (S : DS) (fs : List FP) (k : L8) (t : ByteArray) : Int × DS × List FP :=
  if S.turn.1 = false then (8, S.turn.2, fs) else if nameB t = false then (1, S.turn.2, fs) else match getP k fs with
    | none => (5, S.turn.2, fs)
    | some p => (0, { S.turn.2 with used := S.turn.2.used - lenOf k fs + ((p.1.data.length : Int) - lenOf t.data.toList (delP k fs)) }, putP (⟨t.data.toList, p.1.data, p.1.safe⟩, p.2) (delP k fs))

set_option maxHeartbeats 4000000 in
set_option maxRecDepth 100000 in
theorem rename_any {B d mb n : Nat} {S : DS} {fs : List FP} (w : World) (h : DiskAt w B d mb n S fs) (s t : ByteArray) (hs : s.size ≤ maxLen) (ht : t.size ≤ maxLen) (hl0 : 0 ≤ S.left) (hl1 : S.left ≤ 9223372036854775807) (hn : n < 1000000)
    (hu2 : S.used ≤ 100000000) (hl : (lenOf s.data.toList fs : Int) ≤ S.used) (hl2 : (lenOf t.data.toList (delP s.data.toList fs) : Int) ≤ S.used - lenOf s.data.toList fs) :
    Calls Try.prog 26 #[.pointer (some ⟨d, 0, none⟩), .string s, .string t] w fun e w' => e = .returned (.int .i64 (rnR S fs s.data.toList t).1) ∧
      (∃ m, m ≤ n + 1 ∧ DiskAt w' B d mb m (rnR S fs s.data.toList t).2.1 (rnR S fs s.data.toList t).2.2) ∧ DKept w w' (Foot d mb fs) := by
  have HT := Lib.hid (turn_any w h hl0 hl1)
  have hU := (turn_files (S := S)).1
  have hNm := isName_any t
  rw [show (!t.toList.isEmpty && decide ((t.size : Int) ≤ 40)) = nameB t from rfl] at hNm
  have HNM := Lib.hid hNm
  obtain ⟨T, hT⟩ : ∃ T, T = S.turn := ⟨_, rfl⟩
  have HR : Hid (rnR S fs s.data.toList t = if T.1 = false then ((8 : Int), T.2, fs) else if nameB t = false then (1, T.2, fs) else match getP s.data.toList fs with
    | none => (5, T.2, fs)
    | some p => (0, { T.2 with used := T.2.used - lenOf s.data.toList fs + ((p.1.data.length : Int) - lenOf t.data.toList (delP s.data.toList fs)) }, putP (⟨t.data.toList, p.1.data, p.1.safe⟩, p.2) (delP s.data.toList fs))) := Lib.hid (by rw [hT]; rfl)
  rw [← hT] at HT hU
  clear hT h hNm
  obtain ⟨tb, T2⟩ := T
  simp only at HT HR hU
  cases tb
  · go_enter Try.func26, Try.ntmps26
    go_wp2_with fail
    refine HT.out.mono ?_
    rintro e w1 ⟨rfl, hD1, hK1⟩
    have HD1 := Lib.hid (And.intro hD1 hK1)
    clear hD1 hK1
    go_wp2
    go_ret
    rw [HR.out]
    exact ⟨rfl, ⟨n, by omega, HD1.out.1⟩, HD1.out.2⟩
  · cases hnb : nameB t
    · rw [hnb] at HR HNM
      clear hnb
      go_enter Try.func26, Try.ntmps26
      go_wp2_with fail
      refine HT.out.mono ?_
      rintro e w1 ⟨rfl, hD1, hK1⟩
      have HD1 := Lib.hid (And.intro hD1 hK1)
      clear hD1 hK1
      go_wp2_with fail
      refine (HNM.out _).mono ?_
      rintro e w2 ⟨rfl, rfl⟩
      go_wp2
      go_ret
      rw [HR.out]
      exact ⟨rfl, ⟨n, by omega, HD1.out.1⟩, HD1.out.2⟩
    · rw [hnb] at HR HNM
      clear hnb
      cases hg : getP s.data.toList fs with
      | none =>
        rw [hg] at HR
        have HG := Lib.hid hg
        clear hg
        go_enter Try.func26, Try.ntmps26
        go_wp2_with fail
        refine HT.out.mono ?_
        rintro e w1 ⟨rfl, hD1, hK1⟩
        have HD1 := Lib.hid (And.intro hD1 hK1)
        clear hD1 hK1
        go_wp2_with fail
        refine (HNM.out _).mono ?_
        rintro e w2 ⟨rfl, rfl⟩
        obtain ⟨⟨b0, b1, b2, b3, b4, b5⟩, _⟩ := Box.six HD1.out.1.1
        have hlk := look_none HD1.out.1 s hs HG.out
        go_wp2
        go_ret
        rw [HR.out]
        exact ⟨rfl, ⟨n, by omega, HD1.out.1.alloc _⟩, HD1.out.2.alloc _⟩
      | some p =>
        rw [hg] at HR
        have HG := Lib.hid hg
        clear hg
        go_enter Try.func26, Try.ntmps26
        go_wp2_with fail
        refine HT.out.mono ?_
        rintro e w1 ⟨rfl, hD1, hK1⟩
        have HD1 := Lib.hid (And.intro hD1 hK1)
        clear hD1 hK1
        go_wp2_with fail
        refine (HNM.out _).mono ?_
        rintro e w2 ⟨rfl, rfl⟩
        obtain ⟨⟨b0, b1, b2, b3, b4, b5⟩, _⟩ := Box.six HD1.out.1.1
        obtain ⟨a1, c1, e1, hlk⟩ := look_some HD1.out.1 s hs p HG.out
        have hA := HD1.out.1.alloc (.cells #[.slice a1 p.1.data.length c1, .int .i64 p.1.safe] 69)
        have HDR := Lib.hid (drop_any _ hA s hs (by rw [hU]; omega) (by rw [hU]; exact hl))
        have HA := Lib.hid hA
        have HE := Lib.hid e1
        clear hA e1
        go_wp2_with fail
        refine HDR.out.mono ?_
        rintro e w3 ⟨rfl, hD3, hK3⟩
        have hlt : w1.heap.size < (w1.alloc (.cells #[.slice a1 p.1.data.length c1, .int .i64 p.1.safe] 69)).heap.size := by simp
        have hbox : w3.heap[w1.heap.size]? = some (.cells #[.slice a1 p.1.data.length c1, .int .i64 p.1.safe] 69 (0, 0)) := (hK3.2.2.2.2 _ hlt (fun hq => by have := HD1.out.1.foot_lt _ (foot2 (fs := fs) hq); omega)).trans (heap_alloc_new w1 _)
        have t0 : w3.cell? ⟨w1.heap.size, 0, none⟩ = some (.slice a1 p.1.data.length c1) := cell_of_row w3 _ 0 _ _ (0, 0) hbox
        have t1 : w3.cell? ⟨w1.heap.size, 1, none⟩ = some (.int .i64 p.1.safe) := cell_of_row w3 _ 1 _ _ (0, 0) hbox
        have hmem := (getP_name HG.out).2
        have hown := HA.out.2.2.2.2.2.2.1 p hmem
        have hrow : Bs 5 B w3 p.2 p.1.data := bs_keep (HA.out.2.2.1 p hmem) fun q hq => hK3.2.2.2.2 q (World.ownsRow.lt (HA.out.2.2.1 p hmem) q hq).2 (fun hf => by rcases hf with rfl | rfl; exact hown.1 hq; exact hown.2 hq)
        have hoth : ∀ q ∈ delP t.data.toList (delP s.data.toList fs), p.2.ownBlock = none ∨ p.2.ownBlock ≠ q.2.ownBlock := fun q hq => HA.out.other HG.out q (delP_mem hq)
        rw [HE.out] at hown hrow hoth
        have hlp : lenOf s.data.toList fs = p.1.data.length := by unfold lenOf; rw [HG.out]
        have hput := put_any w3 hD3 t ht ⟨t.data.toList, p.1.data, p.1.safe⟩ rfl a1 c1 hn hrow hown.1 hown.2 hoth (by show T2.used - (lenOf s.data.toList fs : Int) ≤ 1000000000; rw [hU]; omega) (by show p.1.data.length ≤ 1000000000; omega) (by show _ ≤ T2.used - (lenOf s.data.toList fs : Int); rw [hU]; exact hl2)
        have HPUT := Lib.hid hput
        have HK3 := Lib.hid hK3
        clear hput hD3 hK3 hbox hown hrow hoth
        go_wp2_with fail
        refine HPUT.out.mono ?_
        rintro e w4 ⟨rfl, hD4, hK4⟩
        have HD4 := Lib.hid (And.intro hD4 (((HD1.out.2.alloc _).trans (HK3.out.mono fun q hq => foot2 hq)).trans (hK4.mono fun q hq => hq.imp id (Or.imp id fun ⟨x, hx, hxq⟩ => ⟨x, delP_mem hx, hxq⟩))))
        clear hD4 hK4
        go_wp2
        go_ret
        rw [HR.out]
        refine ⟨rfl, ⟨n + 1, Nat.le_refl _, ?_⟩, HD4.out.2⟩
        have h9 := HD4.out.1
        rw [← HE.out] at h9
        exact h9

end Go.Proofs.Ytkeopkhbcmeplaa
