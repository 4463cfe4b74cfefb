/-
  The walk of mailbaglaw04.DiskCrashes.
-/
import Derived.Test.YtkeopkhbcmeplaaDCrM
namespace Go.Proofs.Ytkeopkhbcmeplaa.diskCrashes
open Go.RowKit

def LB (W : World) (lb : Nat) (x0 x1 : Value) : Prop := W.heap[lb]? = some (.cells #[x0, x1] 22 (0, 0))

/-- behind so many rounds -/
def Rel (w wr : World) (d n m lb : Nat) (x0 x1 : Value) : Prop := ∃ M v, St wr w.heap.size d n m v M M ∧ Below w.heap.size w wr ∧ LB wr lb x0 x1

/-- in the third loop -/
def Rel3 (w wr : World) (d n m lb : Nat) (x0 x1 : Value) (M : MS) (v : Value) (more : Nat → Int) (j : Nat) : Prop :=
  St wr w.heap.size d n m v (M.crash more) { M with files := crJ more M.files j } ∧ Below w.heap.size w wr ∧ LB wr lb x0 x1

theorem elseAct : Else 22 := ⟨by decide, by decide, by decide, by decide⟩

set_option maxHeartbeats 8000000 in
set_option maxRecDepth 100000 in
theorem walk_few {w : World} (z : Int) (a : Option Addr) (len cap : Nat) (vs : List ActS) (hc : ActsCame w a len cap vs) (hf : fewB vs = true) (ak : Option Addr) (lk ck : Nat) (zk : List Int) (hk : IsRow .i64 w ak lk ck zk) (hk50 : lk ≤ 50)
    (a2 : Option Addr) (len2 cap2 : Nat) (vs2 : List ActS) (hc2 : ActsCame w a2 len2 cap2 vs2) (hf2 : fewB vs2 = true) (ag : Option Addr) (lg cg : Nat) (zg : List Int) (hg : IsRow .i64 w ag lg cg zg) (hg50 : lg ≤ 50) :
    Calls Try.prog 4 #[.int .i64 z, .slice a len cap, .slice ak lk ck, .slice a2 len2 cap2, .slice ag lg cg] w fun e w' => e = .returned (.bool true) ∧ Below w.heap.size w w' := by
  have HFW : Hid (∀ W, Below w.heap.size w W → Calls Try.prog 11 #[.slice a len cap] W fun e w' => e = .returned (.bool true) ∧ Below W.heap.size W w') := Lib.hid fun W hB => by
    have := few_any a len cap vs ⟨hc.1, hc.2.1, hc.2.2.1, hc.2.2.2.1.below hB, hc.2.2.2.2⟩
    rwa [hf] at this
  have HFW2 : Hid (∀ W, Below w.heap.size w W → Calls Try.prog 11 #[.slice a2 len2 cap2] W fun e w' => e = .returned (.bool true) ∧ Below W.heap.size W w') := Lib.hid fun W hB => by
    have := few_any a2 len2 cap2 vs2 ⟨hc2.1, hc2.2.1, hc2.2.2.1, hc2.2.2.2.1.below hB, hc2.2.2.2.2⟩
    rwa [hf2] at this
  have HT : Hid (∀ t, t < 2 → ∃ (al : Option Addr) (ll cl : Nat) (vl : List ActS) (aq : Option Addr) (lq cq : Nat) (zq : List Int), ActsCame w al ll cl vl ∧ fewB vl = true ∧ IsRow .i64 w aq lq cq zq ∧ (∀ W lb, LB W lb (.slice a len cap) (.slice a2 len2 cap2) → W.cell? ⟨lb, t, none⟩ = some (.slice al ll cl)) ∧
      (#[.slice ak lk ck, .slice ag lg cg] : Array Value)[t]? = some (.slice aq lq cq)) := Lib.hid fun t ht => by
    have h0 : t = 0 ∨ t = 1 := by omega
    rcases h0 with rfl | rfl
    · exact ⟨a, len, cap, vs, ak, lk, ck, zk, hc, hf, hk, fun W lb h => cell_of_row W lb 0 _ _ (0, 0) h, rfl⟩
    · exact ⟨a2, len2, cap2, vs2, ag, lg, cg, zg, hc2, hf2, hg, fun W lb h => cell_of_row W lb 1 _ _ (0, 0) h, rfl⟩
  have k50 : ¬ (50 : Int) < (lk : Int) := by omega
  have g50 : ¬ (50 : Int) < (lg : Int) := by omega
  clear hc hf hk hk50 hc2 hf2 hg hg50
  go_enter Try.func4, Try.ntmps4
  go_wp2_with fail
  refine (dhead_any _).mono ?_
  rintro e w0 ⟨rfl, hb0⟩
  have H0 := Lib.hid hb0
  clear hb0
  go_wp2_with fail
  refine (HFW.out _ H0.out).mono ?_
  rintro e w1 ⟨rfl, hb1⟩
  have H1 := Lib.hid (H0.out.trans (hb1.mono H0.out.size))
  clear hb1 H0
  go_wp2_with fail
  refine (HFW2.out _ H1.out).mono ?_
  rintro e w1 ⟨rfl, hb1⟩
  have H1 := Lib.hid (H1.out.trans (hb1.mono H1.out.size))
  clear hb1 HFW HFW2
  go_wp2_with fail
  refine (new_dm _ z).mono ?_
  rintro e w2 ⟨d0, rfl, hD2, hb2⟩
  have H2 := Lib.hid (And.intro (hD2.base H1.out.size) (H1.out.trans (hb2.mono H1.out.size)))
  clear hD2 hb2 H1
  go_wp2_with fail
  generalize min (max z 0) 1048576 = zz at H2 ⊢
  have HST : Hid (Rel w ((w2.alloc (.cells #[.slice none 0 0, .int .i64 zz, .bool false, .int .i64 (-1)] 30)).alloc (.cells #[.slice a len cap, .slice a2 len2 cap2] 22)) d0 0 w2.heap.size (w2.heap.size + 1) (.slice a len cap) (.slice a2 len2 cap2)) := Lib.hid (by
    have hb := (Below.refl w2.heap.size w2).alloc (Nat.le_refl _) (.cells #[.slice none 0 0, .int .i64 zz, .bool false, .int .i64 (-1)] 30)
    have hs : St (w2.alloc (.cells #[.slice none 0 0, .int .i64 zz, .bool false, .int .i64 (-1)] 30)) w.heap.size d0 0 w2.heap.size _ _ _ := ⟨H2.out.1.below hb, model_new H2.out.2.size zz⟩
    have hb3 := (Below.refl _ (w2.alloc (.cells #[.slice none 0 0, .int .i64 zz, .bool false, .int .i64 (-1)] 30))).alloc (Nat.le_refl _) (.cells #[.slice a len cap, .slice a2 len2 cap2] 22)
    have hn := heap_alloc_new (w2.alloc (.cells #[.slice none 0 0, .int .i64 zz, .bool false, .int .i64 (-1)] 30)) (.cells #[.slice a len cap, .slice a2 len2 cap2] 22)
    rw [show (w2.alloc (.cells #[.slice none 0 0, .int .i64 zz, .bool false, .int .i64 (-1)] 30)).heap.size = w2.heap.size + 1 by simp] at hn
    have hbw := H2.out.2.trans (hb.mono H2.out.2.size)
    exact ⟨_, _, hs.below hb3, hbw.trans (hb3.mono hbw.size), hn⟩)
  clear H2
  generalize hlb : w2.heap.size + 1 = lb at HST ⊢
  clear hlb
  generalize hmm : w2.heap.size = m at HST ⊢
  clear hmm
  go_loopw [11, 51] (fun dp i wr => ∃ (t d : Nat), t ≤ 2 ∧ i = .int .i64 t ∧ dp = .pointer (some ⟨d, 0, none⟩) ∧ Hid (Rel w wr d (40 * t) m lb (.slice a len cap) (.slice a2 len2 cap2))) (fun _ i _ => 2 - (intOf i).toNat)
  case atStart => exact ⟨0, d0, by omega, rfl, rfl, HST⟩
  case round =>
    obtain ⟨t, d, ht, rfl, rfl, HR⟩ := hrel
    clear HST
    by_cases htl : t < 2
    · obtain ⟨al, ll, cl, vl, aq, lq, cq, zq, hcl, hfl, hrow, hcell, hkeep⟩ := HT.out t htl
      have hl0 := hcell wr lb (by obtain ⟨_, _, _, _, h⟩ := HR.out; exact h)
      obtain ⟨rfl, q1, q2, q3, q4⟩ := hcl
      have HI := Lib.hid (And.intro q3 (And.intro q4 (fewB_ok hfl)))
      have HROW := Lib.hid hrow
      have htl2 : (t : Int) < 2 := by omega
      have HTL := Lib.hid htl
      have hl40 := (fewB_ok hfl).1
      clear hfl q3 q4 hrow hcell htl
      go_wp2_with fail
      go_loopw [58] (fun i wq => ∃ k : Nat, k ≤ vl.length ∧ i = .int .i64 k ∧ Hid (Rel w wq d (40 * t + k) m lb (.slice a len cap) (.slice a2 len2 cap2))) (fun i _ => vl.length - (intOf i).toNat)
      case atStart => exact ⟨0, Nat.zero_le _, rfl, HR⟩
      case round =>
        obtain ⟨k, hk, rfl, HQ⟩ := hrel
        clear HR
        by_cases hlt : k < vl.length
        · obtain ⟨M, v, hst, hbw, hlb⟩ := HQ.out
          obtain ⟨b, off, rfl, hb, hcells⟩ : ∃ b off, al = some ⟨b, off, none⟩ ∧ b < w.heap.size ∧ ∀ i (h : i < vl.length), ActIn w b (off + i * 5) (vl[i]) := by
            rcases HI.out.1 with rfl | h
            · simp at hlt
            · exact h
          obtain ⟨c0, c1, c2, c3, c4⟩ := hcells k hlt
          replace c0 := (hbw.cell (p := ⟨b, off + k * 5, none⟩) hb).trans c0
          replace c1 := (hbw.cell (p := ⟨b, off + k * 5 + 1, none⟩) hb).trans c1
          replace c2 := (hbw.cell (p := ⟨b, off + k * 5 + 2, none⟩) hb).trans c2
          replace c3 := (hbw.cell (p := ⟨b, off + k * 5 + 3, none⟩) hb).trans c3
          replace c4 := (hbw.cell (p := ⟨b, off + k * 5 + 4, none⟩) hb).trans c4
          have hok := HI.out.2.1 _ (List.getElem_mem hlt)
          have hda := HI.out.2.2.2 _ (List.getElem_mem hlt)
          obtain ⟨x, hx⟩ : ∃ x, x = vl[k] := ⟨_, rfl⟩
          rw [← hx] at c0 c1 c2 c3 c4 hok hda
          have hkl : (k : Int) < (vl.length : Int) := by omega
          have HLT := Lib.hid hlt
          have hAl : Below wr.heap.size wr (wr.alloc (.cells #[.int .i64 x.k, .int .i64 x.n, .string x.name, .string x.dest, .string x.data] 32)).drew := ((Below.refl _ wr).alloc (Nat.le_refl _) _).drew
          have hst1 := hst.below hAl
          have hbw1 := hbw.trans (hAl.mono hbw.size)
          have hlb1 : LB (wr.alloc (.cells #[.int .i64 x.k, .int .i64 x.n, .string x.name, .string x.dest, .string x.data] 32)).drew lb (.slice a len cap) (.slice a2 len2 cap2) := (hAl.block lb (Array.getElem?_eq_some_iff.1 hlb).1).trans hlb
          have hbx : (wr.alloc (.cells #[.int .i64 x.k, .int .i64 x.n, .string x.name, .string x.dest, .string x.data] 32)).drew.heap[wr.heap.size]? = some (.cells #[.int .i64 x.k, .int .i64 x.n, .string x.name, .string x.dest, .string x.data] 32 (0, 0)) := heap_alloc_new wr _
          obtain ⟨r, hr⟩ : ∃ r, r = M.act x := ⟨_, rfl⟩
          have hplay := play_any hst1.1 (by omega) x hok.1 hok.2.1 hok.2.2.2
          rw [← hr] at hplay
          have HPLAY := Lib.hid hplay
          have HBX : Hid (∀ w4 e, PlayPost (wr.alloc (.cells #[.int .i64 x.k, .int .i64 x.n, .string x.name, .string x.dest, .string x.data] 32)).drew w4 w.heap.size d (40 * t + k) r e → e = .returned (.int .i64 r.1) ∧ St w4 w.heap.size d (40 * t + k + 1) m v r.2 M ∧ Below w.heap.size w w4 ∧ ABox w4 wr.heap.size x ∧ LB w4 lb (.slice a len cap) (.slice a2 len2 cap2) ∧ Calls Try.prog 14 #[.pointer (some ⟨m, 0, none⟩), .agg #[.int .i64 x.k, .int .i64 x.n, .string x.name, .string x.dest, .string x.data]] w4 fun e w' => DoPost w4 w' w.heap.size m v r e) := Lib.hid fun w4 e hp => by
            obtain ⟨q1, q2, q3, q4⟩ := hst1.played hp
            refine ⟨q1, q2, hbw1.trans q3, (q4 _ _ _ _ hbx ⟨by decide, by decide, by decide, by decide⟩).trans hbx, (q4 _ _ _ _ hlb1 elseAct).trans hlb1, ?_⟩
            have hkn := hst.1.known
            rw [hr]
            exact do_any q2.2 x (by omega) hkn.1 (by omega) ⟨hkn.2.2.1, hkn.2.2.2.1, hkn.2.2.2.2.1, hkn.2.2.2.2.2.1, hkn.2.2.2.2.2.2.1⟩
          clear hx hcells hb hlt hst hbw hlb hok hda hAl hst1 hbw1 hlb1 hbx hr hplay
          go_upto_region 13 with (fail)
          go_cut [68] (fun s wx => s = .bool false ∧ Hid (Rel w wx d (40 * t + k + 1) m lb (.slice a len cap) (.slice a2 len2 cap2)))
          case first =>
            go_region_with (first
              | (go_at_call 13; refine HPLAY.out.mono ?_; rintro e w4 hp4; obtain ⟨rfl, hs4, hb4, hx4, hl4, hdo4⟩ := HBX.out w4 e hp4; have HDO4 := Lib.hid hdo4; obtain ⟨z0, z1, z2, z3, z4⟩ := hx4.five; have HS4 := Lib.hid (And.intro hs4 (And.intro hb4 hl4)); clear hp4 hs4 hb4 hx4 hl4 hdo4)
              | (go_at_call 14; refine HDO4.out.mono ?_; rintro e w5 hd5; obtain ⟨rfl, ⟨v5, hs5⟩, hb5, hx5⟩ := HS4.out.1.done hd5; have HS5 := Lib.hid (And.intro hs5 (And.intro (HS4.out.2.1.trans hb5) ((hx5 _ _ _ _ HS4.out.2.2 elseAct).trans HS4.out.2.2))); clear hd5 hs5 hb5 hx5))
            all_goals
              go_wp2_with fail
              go_meet
              exact ⟨rfl, Lib.hid ⟨_, _, HS5.out⟩⟩
          case rest =>
            obtain ⟨rfl, HC⟩ := hcut
            clear HPLAY HBX HQ c0 c1 c2 c3 c4
            go_wp2
            go_roundw
            case rel => exact ⟨k + 1, by have := HLT.out; omega, by go_num, HC⟩
            case measure => have := HLT.out; simp [intOf]; omega
        · obtain rfl : k = vl.length := by omega
          have hge : ¬ (vl.length : Int) < (vl.length : Int) := by omega
          clear hlt
          obtain ⟨M, v, hst, hbw, hlb⟩ := HQ.out
          have hK : Below wr.heap.size wr (wr.alloc (.cells #[.slice ak lk ck, .slice ag lg cg] 40)) := (Below.refl _ wr).alloc (Nat.le_refl _) _
          have hrw : IsRow .i64 (wr.alloc (.cells #[.slice ak lk ck, .slice ag lg cg] 40)) aq lq cq zq := by
            rcases HROW.out with h | ⟨x, rfl, g1, g2, g3, g4, g5⟩
            · exact .inl h
            · exact .inr ⟨x, rfl, g1, g2, g3, fun i hi => ((hbw.trans (hK.mono hbw.size)).cell (World.block_lt_of_cell? w _ (g4 i hi))).trans (g4 i hi), g5⟩
          have HCR := Lib.hid (crash_dm (hst.1.below hK) (by omega) aq lq cq zq hrw)
          have HB0 := Lib.hid (And.intro hst (And.intro hbw (And.intro hlb hK)))
          clear hst hbw hlb hK hrw HQ
          go_wp2_with fail
          refine HCR.out.mono ?_
          rintro e w6 ⟨d2, rfl, hD6, hb6⟩
          obtain ⟨hst, hbw, hlb, hK⟩ := HB0.out
          have hbK := hK.trans (hb6.mono hK.size)
          have hST3 : Rel3 w w6 d2 (40 * t + vl.length) m lb (.slice a len cap) (.slice a2 len2 cap2) M v (moreAt zq lq) 0 := by
            refine ⟨⟨hD6.base (by have := hK.size; have := hbw.size; omega), ?_⟩, hbw.trans (hbK.mono hbw.size), (hbK.block lb (Array.getElem?_eq_some_iff.1 hlb).1).trans hlb⟩
            rw [crJ_zero]
            exact hst.2.below hbK
          obtain ⟨va, vc, rfl, hvc⟩ := hst.2.2.1.form
          have HK := Lib.hid (And.intro hst.1.known hst.1.safe_le)
          have HST3 := Lib.hid hST3
          have HDM := Lib.hid hst.1
          have c0 := (hST3.1.2.cells.1).1
          have hm6 := hST3.1.2.lt.1
          have hfl : M.files.length ≤ 1000 := by have := hst.1.known.2.1; omega
          clear hst hbw hlb hK hbK hST3 hD6 hb6 HCR HB0
          go_wp2_with fail
          go_loopw [84] (fun i wr => ∃ j : Nat, j ≤ M.files.length ∧ i = .int .i64 j ∧ Hid (Rel3 w wr d2 (40 * t + vl.length) m lb (.slice a len cap) (.slice a2 len2 cap2) M (.slice va M.files.length vc) (moreAt zq lq) j)) (fun i _ => M.files.length - (intOf i).toNat)
          case atStart => exact ⟨0, Nat.zero_le _, rfl, HST3⟩
          case round =>
            obtain ⟨j, hj, rfl, HR3⟩ := hrel
            clear HST3 c0 hm6
            by_cases hlt : j < M.files.length
            · obtain ⟨hs3, hb3, hl3⟩ := HR3.out
              have hlen := crJ_length (moreAt zq lq) M.files j hj
              have hj2 : j < (crJ (moreAt zq lq) M.files j).length := by omega
              obtain ⟨g, rfl, hg0, hg⟩ := hs3.2.2.1.blk (by show 0 < (crJ _ _ _).length; omega)
              obtain ⟨e0, e1, e2⟩ := hs3.2.2.1.cell j hj2
              have hat := crJ_at (moreAt zq lq) M.files j hlt hj2
              rw [show (({ M with files := crJ (moreAt zq lq) M.files j } : MS).files[j]'hj2) = M.files[j] from hat] at e0 e1 e2
              have hsafe := HK.out.2 _ (List.getElem_mem hlt)
              have hne : g ≠ m := fun e => hs3.2.2.1.ne hs3.2.1 (by rw [e]; rfl)
              obtain ⟨Z, hZ⟩ : ∃ Z, Z = crZ (M.files[j]).data.length (M.files[j]).safe (moreAt zq lq j) := ⟨_, rfl⟩
              have hzle := crZ_le (more := moreAt zq lq j) hsafe.1
              rw [← hZ] at hzle
              have hsz : (⟨(M.files[j]).data.toArray⟩ : ByteArray).size = (M.files[j]).data.length := by rw [← bl_length, bl_of]
              have hX : (⟨(M.files[j]).data.toArray⟩ : ByteArray).extract 0 Z = ⟨((M.files[j]).data.take Z).toArray⟩ := bl_inj (by rw [bl_extract, bl_of, bl_of]; simp)
              have hnext := crJ_next (moreAt zq lq) M.files j hlt
              rw [← hZ] at hnext
              have hmore : ∀ (hjl : j < lq), ∃ x, aq = some x ∧ wr.cell? (x.add j) = some (.int .i64 (moreAt zq lq j)) := fun hjl => by
                obtain ⟨x, rfl, hx⟩ := moreAt_in HROW.out j hjl
                exact ⟨x, rfl, (hb3.cell (World.block_lt_of_cell? w _ hx)).trans hx⟩
              have hmore0 : ¬ j < lq → moreAt zq lq j = 0 := fun h => by unfold moreAt; rw [if_neg h]
              obtain ⟨mo, hmo⟩ : ∃ mo, mo = moreAt zq lq j := ⟨_, rfl⟩
              rw [← hmo] at hmore hmore0 hZ
              obtain ⟨f, hf⟩ : ∃ f, f = M.files[j] := ⟨_, rfl⟩
              rw [← hf] at e0 e1 e2 hsafe hzle hsz hX hnext hZ
              have HFIN : Hid (∀ W, Below wr.heap.size wr W → St W w.heap.size d2 (40 * t + vl.length) m (.slice (some ⟨g, 0, none⟩) M.files.length vc) (M.crash (moreAt zq lq)) { M with files := crJ (moreAt zq lq) M.files j } ∧ W.cell? ⟨m, 0, none⟩ = some (.slice (some ⟨g, 0, none⟩) M.files.length vc) ∧ W.cell? ⟨g, j * 3 + 1, none⟩ = some (.string ⟨f.data.toArray⟩) ∧ W.cell? ⟨g, j * 3 + 2, none⟩ = some (.int .i64 f.safe) ∧ W.frozen? ⟨g, j * 3 + 1, none⟩ = false ∧ W.frozen? ⟨g, j * 3 + 2, none⟩ = false ∧
                  Rel3 w (((W.setCell ⟨g, j * 3 + 1, none⟩ (.string ((⟨f.data.toArray⟩ : ByteArray).extract 0 Z))).setCell ⟨g, j * 3 + 2, none⟩ (.int .i64 Z)).drew) d2 (40 * t + vl.length) m lb (.slice a len cap) (.slice a2 len2 cap2) M (.slice (some ⟨g, 0, none⟩) M.files.length vc) (moreAt zq lq) (j + 1)) := Lib.hid (fun W hB => by
                have hsW := hs3.below hB
                have hlW : LB W lb (.slice a len cap) (.slice a2 len2 cap2) := (hB.block lb (Array.getElem?_eq_some_iff.1 hl3).1).trans hl3
                have hbW := hb3.trans (hB.mono hb3.size)
                have hrow := hsW.2.2.1
                have hcut := St.cut (gs := crJ (moreAt zq lq) M.files j) rfl (by rw [hlen]; exact hsW) j hj2 _ Z (f.data.take Z) hX
                rw [hat, ← hf, hnext, hlen] at hcut
                obtain ⟨t1, t2, t3⟩ := hcut
                refine ⟨hsW, (hsW.2.cells.1).1, (hB.cell (p := ⟨g, j * 3 + 1, none⟩) hg).trans e1, (hB.cell (p := ⟨g, j * 3 + 2, none⟩) hg).trans e2, (World.ownsRow.frozenAt (show W.ownsRow w.heap.size _ 3 (.slice (some ⟨g, 0, none⟩) (crJ (moreAt zq lq) M.files j).length vc) (crJ (moreAt zq lq) M.files j).length (rcells (crJ (moreAt zq lq) M.files j)) by rw [hlen]; have := hrow; unfold MRow at this; rw [show ({ M with files := crJ (moreAt zq lq) M.files j } : MS).files = crJ (moreAt zq lq) M.files j from rfl, hlen] at this; exact this) _), (World.ownsRow.frozenAt (show W.ownsRow w.heap.size _ 3 (.slice (some ⟨g, 0, none⟩) (crJ (moreAt zq lq) M.files j).length vc) (crJ (moreAt zq lq) M.files j).length (rcells (crJ (moreAt zq lq) M.files j)) by rw [hlen]; have := hrow; unfold MRow at this; rw [show ({ M with files := crJ (moreAt zq lq) M.files j } : MS).files = crJ (moreAt zq lq) M.files j from rfl, hlen] at this; exact this) _), ?_⟩
                exact ⟨St.below t1 ((Below.refl _ _).drew), (hbW.trans t2).drew, (t3 _ _ _ _ hlW elseAct).trans hlW⟩)
              obtain ⟨dt, hdt⟩ : ∃ dt : ByteArray, dt = ⟨f.data.toArray⟩ := ⟨_, rfl⟩
              rw [← hdt] at e1 hsz HFIN
              have hzi : (Z : Int) ≤ (dt.size : Int) := by omega
              have hlaw : min (dt.size : Int) ((f.safe : Int) + min (max mo 0) 1048576) = (Z : Int) := by rw [hsz, hZ]; exact law_z hsafe.1 hsafe.2
              have hw : IntKind.i64.wrap ((f.safe : Int) + min (max mo 0) 1048576) = (f.safe : Int) + min (max mo 0) 1048576 := by rw [IntKind.wrap_i64]; omega
              have HZ0 : Hid (mo = 0 → (f.safe : Int) = (Z : Int)) := Lib.hid fun e => by rw [hZ, e]; exact law_z0
              have HMO := Lib.hid (And.intro hmore hmore0)
              have HLT := Lib.hid (And.intro hlt hj)
              have hjl9 : (j : Int) < (M.files.length : Int) := by omega
              obtain ⟨_, c0, _, d2, _, _, _⟩ := HFIN.out wr (Below.refl _ _)
              have hm9 := World.block_lt_of_cell? wr _ c0
              clear hs3 hb3 hl3 hlen hj2 hat hsafe hZ hzle hsz hX hnext hmore hmore0 hf hdt e0 e2 hg0 hmo hlt hj
              go_upto_if 98 with (fail)
              go_cut [19] (fun s wx => s = .int .i64 (Z : Int) ∧ Hid (Below wr.heap.size wr wx))
              case first =>
                by_cases hjl : j < lq
                · obtain ⟨x, rfl, hx⟩ := HMO.out.1 hjl
                  have hjl2 : (j : Int) < (lq : Int) := by omega
                  clear HMO HZ0 HFIN HR3
                  go_wp2
                  go_region
                  all_goals
                    go_wp2_with fail
                    go_meet
                    exact ⟨rfl, Lib.hid ((Below.refl wr.heap.size wr).drew)⟩
                · have hjl2 : ¬ (j : Int) < (lq : Int) := by omega
                  have HZ1 := Lib.hid (HZ0.out (HMO.out.2 hjl))
                  clear HMO HZ0 HFIN HR3 hlaw hw
                  go_wp2
                  go_meet
                  exact ⟨by rw [HZ1.out], Lib.hid (Below.refl wr.heap.size wr)⟩
              case rest =>
                obtain ⟨rfl, HBC⟩ := hcut
                obtain ⟨_, c0, d1, d2, k1, k2, hfin⟩ := HFIN.out wc HBC.out
                have HF := Lib.hid hfin
                have hm8 := World.block_lt_of_cell? wc _ c0
                clear HMO HZ0 HFIN HR3 hlaw hw hfin hm9 HBC e1
                go_wp2
                go_region
                all_goals
                  go_wp2
                  go_roundw
                  case rel => exact ⟨j + 1, by have := HLT.out.1; omega, by go_num, HF⟩
                  case measure => have := HLT.out.1; simp [intOf]; omega
            · obtain rfl : j = M.files.length := by omega
              have hge : ¬ (M.files.length : Int) < (M.files.length : Int) := by omega
              obtain ⟨hs3, hb3, hl3⟩ := HR3.out
              obtain ⟨⟨c0, c1, c2, c3⟩, f0, f1, f2, f3⟩ := hs3.2.cells
              obtain ⟨p1, p2, p3⟩ := hs3.power
              have hM : ({ ({ M with files := crJ (moreAt zq lq) M.files M.files.length } : MS) with down := false, falls := -1 } : MS) = M.crash (moreAt zq lq) := by rw [crJ_end]; rfl
              rw [hM] at p1
              have HS9 := Lib.hid (And.intro p1 (And.intro (hb3.trans p2) ((p3 _ _ _ _ hl3 elseAct).trans hl3)))
              have hm9 := hs3.2.lt.1
              have hN : 40 * t + vl.length ≤ 100000 := by have := HTL.out; omega
              have HN := Lib.hid hN
              clear hlt hs3 hb3 hl3 p1 p2 p3 hM HR3 hN
              go_wp2_with fail
              refine (same_any HS9.out.1.1 HS9.out.1.2 HN.out).mono ?_
              rintro e w7 ⟨rfl, hb7⟩
              have HS7 := Lib.hid (And.intro (HS9.out.1.below hb7) (And.intro (HS9.out.2.1.trans (hb7.mono HS9.out.2.1.size)) ((hb7.block lb (Array.getElem?_eq_some_iff.1 HS9.out.2.2).1).trans HS9.out.2.2)))
              clear hb7 HS9 c0 c1 c2 c3 f0 f1 f2 f3
              go_wp2_with fail
              refine (crash_dm HS7.out.1.1 HN.out none 0 0 [] (.inl ⟨rfl, rfl, rfl, rfl⟩)).mono ?_
              rintro e w8 ⟨d3, rfl, hD8, hb8⟩
              rw [crash_again HDM.out] at hD8
              have HS8 := Lib.hid (And.intro hD8 (And.intro (HS7.out.1.below hb8) (And.intro (HS7.out.2.1.trans (hb8.mono HS7.out.2.1.size)) ((hb8.block lb (Array.getElem?_eq_some_iff.1 HS7.out.2.2).1).trans HS7.out.2.2))))
              clear hb8 hD8 HS7
              go_wp2_with fail
              refine (same_any HS8.out.1 HS8.out.2.1.2 HN.out).mono ?_
              rintro e w9 ⟨rfl, hb9⟩
              have HF : Hid (Rel w w9 d2 (40 * (t + 1)) m lb (.slice a len cap) (.slice a2 len2 cap2)) := Lib.hid (by
                obtain ⟨_, h2, h3, h4⟩ := HS8.out
                have h5 := h2.below hb9
                exact ⟨_, _, ⟨h5.1.mono (by omega), h5.2⟩, h3.trans (hb9.mono h3.size), (hb9.block lb (Array.getElem?_eq_some_iff.1 h4).1).trans h4⟩)
              clear hb9 HS8
              go_wp2
              go_roundw
              case rel => exact ⟨t + 1, d2, by have := HTL.out; omega, by go_num, rfl, HF⟩
              case measure => have := HTL.out; simp [intOf]; omega
    · obtain rfl : t = 2 := by omega
      have HF : Hid (Below w.heap.size w wr) := Lib.hid (by obtain ⟨_, _, _, h, _⟩ := HR.out; exact h)
      clear htl HR
      go_wp2
      go_ret
      exact ⟨rfl, HF.out⟩

end Go.Proofs.Ytkeopkhbcmeplaa.diskCrashes
