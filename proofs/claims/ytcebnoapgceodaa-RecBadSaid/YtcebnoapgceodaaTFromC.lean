/-
  tree: From: the keys from one on, told one by one; the contract of its sequence (trees of chains).
-/
import Derived.Test.YtcebnoapgceodaaTFromMC
import Derived.RangeFuncNested
import Derived.RangeFuncBound
import Derived.RangeFuncLeaves
import Derived.Shelf.Abstract
import Derived.Shelf.RegionOpen
import Derived.OwnWalkIn
import Derived.TacticsInMore
import Derived.LoopNIn
import Derived.LoopIn
import Derived.WalkMore
namespace Go.Proofs.Ytcebnoapgceodaa.tC
open Go.RowKit

set_option linter.unusedVariables false
attribute [local go_sem] Oper.semAt_some

theorem sl_rows (g n c i : Nat) (h : i < n) (h2 : n ≤ c) (W : World) : (Instr.slice 101 (.slice (some ⟨g, 0, none⟩) n c) (some (.int .i64 (i : Int))) none none).run Try.prog W = .ok (.slice (some ⟨g, i, none⟩) (n - i) (c - i)) W := by
  have h1 : (i : Int) ≤ (n : Int) := by omega
  have h3 : (n : Int) ≤ (c : Int) := by omega
  have h4 : ¬ c = i := by omega
  go_simp
theorem sl_leaf (g n c i : Nat) (h : i ≤ n) (h2 : n ≤ c) : ∃ off, (∀ W, (Instr.slice 185 (.slice (some ⟨g, 0, none⟩) n c) (some (.int .i64 (i : Int))) none none).run Try.prog W = .ok (.slice (some ⟨g, off, none⟩) (n - i) (c - i)) W) ∧ (i < n → off = i * 2) := by
  have h1 : (i : Int) ≤ (n : Int) := by omega
  have h3 : (n : Int) ≤ (c : Int) := by omega
  by_cases hc : c = i
  · refine ⟨0, fun W => ?_, fun h => by omega⟩
    subst hc
    go_simp
  · refine ⟨i * 2, fun W => ?_, fun _ => rfl⟩
    go_simp

def IsV (v : Value) : Prop := ∃ a n c, v = .slice a n c

theorem piece {α : Type} (P : List (List α)) (k : Nat) (h : k < P.length) : P.flatten = (P.take k).flatten ++ (P[k] ++ (P.drop (k + 1)).flatten) := by
  have e : P = P.take k ++ P[k] :: P.drop (k + 1) := by rw [← List.drop_eq_getElem_cons h, List.take_append_drop]
  have e2 : (P.take k ++ P[k] :: P.drop (k + 1)).flatten = (P.take k).flatten ++ (P[k] ++ (P.drop (k + 1)).flatten) := by rw [List.flatten_append, List.flatten_cons]
  exact (congrArg List.flatten e).trans e2
theorem piece_next {α : Type} (P : List (List α)) (k : Nat) (h : k < P.length) : (P.take (k + 1)).flatten = (P.take k).flatten ++ P[k] := by
  rw [List.take_succ_eq_append_getElem h, List.flatten_append, List.flatten_cons, List.flatten_nil, List.append_nil]

/-- what comes of a sequence, from the one side -/
def Told (xs : List KV) (J Jx : List KV → World → Prop) (e : Ending) (W' : World) : Prop := (∃ v, e = .returned v) ∧ ((∃ ys, ys = xs ∧ J ys W') ∨ (∃ pre, pre <+: xs ∧ Jx pre W'))

set_option maxHeartbeats 4000000 in
set_option maxRecDepth 100000 in
theorem from1_in [hd : Inhabited Hd] (n l bt bk n0 : Nat) (B : Nat → Prop) (t : Nat) (ls : List (List KV)) (key : ByteArray) (J Jx : List KV → World → Prop) (W : World) (hB : ∀ q, B q → q < n0) (hn0 : n0 ≤ W.heap.size) (hT : TreeAt B W t ls) (hV : ∀ p ∈ ls.flatten, IsV p.2) (Pp : KV → Prop) (hPp : ∀ p ∈ ls.flatten, Pp p)
    (hJ : AbidesFrom W.heap.size J)
    (hY : ∀ pre x W1, J pre W1 → Pp x → pre.length < (fromK ls.flatten key).length → YieldAt Fence.wide (n - 1) Try.prog l #[.string x.1, x.2] W1 fun e W' =>
      (e = .returned (.bool true) ∧ J (pre ++ [x]) W' ∧ KpB B n0 W1 W') ∨ (e = .returned (.bool false) ∧ Jx (pre ++ [x]) W'))
    (hbt : W.cell? ⟨bt, 0, none⟩ = some (.pointer (some ⟨t, 2, none⟩))) (hbk : W.cell? ⟨bk, 0, none⟩ = some (.string key)) (hlt : bt < W.heap.size) (h0 : J [] W) :
    CallsIn Fence.wide n Try.prog 134 #[.func (.yield l) #[] #[], .pointer (some ⟨bt, 0, none⟩), .pointer (some ⟨bk, 0, none⟩)] W (Told (fromK ls.flatten key) J Jx) := by
  refine callsIn_wide.2 ?_
  have hlen := len_any hT
  by_cases hne : ls = []
  · subst hne
    have hz : (total ([] : List (List KV)) : Int) = 0 := rfl
    rw [hz] at hlen
    have HF : Hid (Told (fromK ([] : List (List KV)).flatten key) J Jx (.returned (.tuple #[])) W) := Lib.hid ⟨⟨_, rfl⟩, .inl ⟨[], rfl, h0⟩⟩
    obtain ⟨P, hP⟩ : ∃ P, P = Told (fromK ([] : List (List KV)).flatten key) J Jx := ⟨_, rfl⟩
    rw [← hP] at HF ⊢
    clear hz hT hJ hY h0 hP hB hn0
    go_enter Try.func134, Try.ntmps134
    go_step3
    go_wp2_with fail
    refine hlen.mono ?_
    rintro e w1 ⟨rfl, rfl⟩
    go_wp2
    simp only [Exit.noGoto_ret]
    refine bodyPost_ret (results_none rfl _ _ _) rfl ?_
    exact HF.out
  · have hz : ¬ (total ls : Int) = 0 := by
      intro e
      exact hne ((total_zero hT.2.1).1 (by omega))
    have hpl := place_any hT key
    obtain ⟨A, l0, C, hls, hp1, hp2, hfr⟩ := from_cut hT.2.1 hne key
    obtain ⟨rg, lc, ⟨hBt, hbx⟩, hBr, hrl, hn1, hn2, hel⟩ := hT.readsB hne
    have hT50 := hT.2.2.1
    have hlsl := Nat.le_trans (ls_le hT.2.1.1) hT50
    have hnn : ls.length = A.length + (C.length + 1) := by rw [hls]; simp
    obtain ⟨at0, hat⟩ : ∃ at0, at0 = (placeT ls key).2.1 := ⟨_, rfl⟩
    obtain ⟨pb, hpb⟩ : ∃ pb, pb = (placeT ls key).2.2 := ⟨_, rfl⟩
    rw [hp1, ← hat, ← hpb] at hpl
    rw [← hat] at hp2 hfr
    have hc0 := hbx.cell 2
    simp only [List.getElem?_toArray, List.getElem?_cons_zero, List.getElem?_cons_succ] at hc0
    have htl := hbx.lt
    have hsr := sl_rows rg ls.length lc A.length (by omega) hn1
    -- the leaves from the first one on
    have HEL : Hid (∀ k (hk : k < (l0 :: C).length) (L : List KV), L = (l0 :: C)[k] → ∃ g c, W.cell? ⟨rg, A.length + k, none⟩ = some (.slice (some ⟨g, 0, none⟩) L.length c) ∧ B g ∧ L.length ≤ 50000 ∧ L.length ≤ c ∧ c ≤ maxLen ∧
        ∀ j (hj : j < L.length), W.cell? ⟨g, j * 2, none⟩ = some (.string (L[j]).1) ∧ W.cell? ⟨g, j * 2 + 1, none⟩ = some (L[j]).2) := Lib.hid fun k hk L hL => by
      subst hls
      have hk2 : k < C.length + 1 := by simpa using hk
      have hz2 : A.length + k < (A ++ l0 :: C).length := by simp; omega
      obtain ⟨g, c, h1, h2, _, ⟨h3, h4⟩, h5⟩ := hel (A.length + k) hz2
      have h6 := Nat.le_trans (leaf_le (List.getElem_mem hz2)) hT50
      have e : (A ++ l0 :: C)[A.length + k]'hz2 = L := by rw [hL, List.getElem_append_right (by omega)]; congr 1; omega
      obtain ⟨M, hM⟩ : ∃ M, M = (A ++ l0 :: C)[A.length + k]'hz2 := ⟨_, rfl⟩
      rw [← hM] at e
      have h7 : ∀ j (hj : j < M.length), W.cell? ⟨g, j * 2, none⟩ = some (.string (M[j]).1) ∧ W.cell? ⟨g, j * 2 + 1, none⟩ = some (M[j]).2 := by subst hM; exact h5
      rw [← hM] at h1 h3 h6
      subst e
      exact ⟨g, c, h1, h2, h6, h3, h4, h7⟩
    obtain ⟨m, hm⟩ : ∃ m, m = C.length + 1 := ⟨_, rfl⟩
    obtain ⟨i0, hi0⟩ : ∃ i0, i0 = A.length := ⟨_, rfl⟩
    obtain ⟨N, hN⟩ : ∃ N, N = ls.length := ⟨_, rfl⟩
    rw [← hi0] at hpl HEL hsr hnn
    rw [← hN] at hc0 hsr hnn hn1 hlsl
    rw [← hm] at hnn
    have HJ := Lib.hid hJ
    have HY := Lib.hid hY
    have HFR := Lib.hid hfr
    have H0 := Lib.hid h0
    have HB := Lib.hid hB
    have HV : Hid (∀ p ∈ (l0 :: C).flatten, IsV p.2 ∧ Pp p) := Lib.hid fun p hp => (fun h9 => ⟨hV p h9, hPp p h9⟩) (by rw [hls, List.flatten_append]; exact List.mem_append_right _ hp)
    have HM := Lib.hid hm
    have hm0 : 0 < m := by omega
    have hlc : ¬ lc = i0 := by omega
    clear hel hT hV hPp hls hp1 hat hpb hi0 hN hT50 hJ hY hfr h0 hB hbx hm
    go_enter Try.func134, Try.ntmps134
    go_step3
    go_wp2_with fail
    refine hlen.mono ?_
    rintro e w1 ⟨rfl, rfl⟩
    go_wp2_with fail
    refine hpl.mono ?_
    rintro e w2 ⟨rfl, hb2⟩
    have hc0' : w2.cell? ⟨t, 2, none⟩ = some (.slice (some ⟨rg, 0, none⟩) N lc) := (hb2.cell (p := ⟨t, 2, none⟩) htl).trans hc0
    have hbt' : w2.cell? ⟨bt, 0, none⟩ = some (.pointer (some ⟨t, 2, none⟩)) := (hb2.cell (p := ⟨bt, 0, none⟩) hlt).trans hbt
    have hJ2 := Lib.hid (HJ.out [] _ _ none H0.out (below_grown hb2) (fun r e => by cases e))
    have HB2 := Lib.hid hb2
    clear hb2 hpl hlen
    go_wp2_with fail
    go_step3
    go_wp2_with fail
    refine (wpIn_wide (n := n)).1 ?_
    have HK2 : Hid (KpB B n0 W w2) := Lib.hid (KpB.below HB2.out hn0)
    clear HB2 hc0' hbt' hz hc0 htl hBt hbk hbt hlt hsr
    gi_loopw [28, 5] (fun i a wr => ∃ k a0 : Nat, k ≤ m ∧ i = .int .i64 k ∧ a = .int .i64 a0 ∧ (a0 = if k = 0 then at0 else 0) ∧ Hid (J ((l0.drop at0 :: C).take k).flatten wr) ∧ Hid (KpB B n0 W wr)) (fun i _ _ => m - (intOf i).toNat)
    case atStart => exact ⟨0, at0, Nat.zero_le _, rfl, rfl, rfl, hJ2, HK2⟩
    case round =>
      obtain ⟨k, a0, hk, rfl, rfl, ha0, hJs, hKp⟩ := hrel
      by_cases hlt : k < m
      · have hk3 : k < (l0 :: C).length := by have := HM.out; simp; omega
        have hk4 : k < (l0.drop at0 :: C).length := by have := HM.out; simp; omega
        obtain ⟨L, hL⟩ : ∃ L, L = (l0 :: C)[k] := ⟨_, rfl⟩
        obtain ⟨g, c, h1, h2, h3, h4, h5, h6⟩ := HEL.out k hk3 L hL
        have hcell : wr.cell? ⟨rg, i0 + k, none⟩ = some (.slice (some ⟨g, 0, none⟩) L.length c) := (hKp.out.cell hBr (HB.out _ hBr)).trans h1
        have hPk : (l0.drop at0 :: C)[k]'hk4 = L.drop a0 := by
          rw [hL]
          cases k with
          | zero => rw [ha0]; rfl
          | succ k => rw [ha0]; rfl
        have hal : a0 ≤ L.length := by
          rw [hL]
          cases k with
          | zero => rw [ha0]; exact hp2
          | succ k => rw [ha0]; exact Nat.zero_le _
        have hP1 := piece (l0.drop at0 :: C) k hk4
        have hP2 := piece_next (l0.drop at0 :: C) k hk4
        rw [hPk] at hP1 hP2
        have hvL : ∀ p ∈ L, IsV p.2 ∧ Pp p := fun p hp => HV.out p (List.mem_flatten.2 ⟨_, List.getElem_mem hk3, by rw [← hL]; exact hp⟩)
        obtain ⟨pre, hpre⟩ : ∃ pre, pre = ((l0.drop at0 :: C).take k).flatten := ⟨_, rfl⟩
        obtain ⟨post, hpost⟩ : ∃ post, post = ((l0.drop at0 :: C).drop (k + 1)).flatten := ⟨_, rfl⟩
        have hxs : fromK ls.flatten key = pre ++ (L.drop a0 ++ post) := by rw [HFR.out, hP1, hpre, hpost]
        rw [← hpre] at hJs hP2
        have HXS := Lib.hid hxs
        have HP2 := Lib.hid hP2
        have HVL := Lib.hid hvL
        have H6 := Lib.hid h6
        have HA0 := Lib.hid ha0
        obtain ⟨q, hq⟩ : ∃ q, q = L.length - a0 := ⟨_, rfl⟩
        obtain ⟨n1, hn1'⟩ : ∃ n1, n1 = L.length := ⟨_, rfl⟩
        rw [← hn1'] at hcell h3 h4 hal hq
        have HN1 := Lib.hid hn1'
        clear hL hpre hpost hP1 hPk hxs hP2 hvL h6 hn1' h1 ha0
        gi_wp2_with fail
        · -- no room behind: nothing is told of this leaf
          have hz1 : ((n1 - a0 : Nat) : Int) = 0 := by omega
          have hdz : L.drop a0 = [] := List.drop_of_length_le (by rw [← HN1.out]; omega)
          rw [hz1]
          have HDZ := Lib.hid hdz
          clear hz1 hdz
          gi_loopw [36] (fun j wr2 => j = .int .i64 0 ∧ Hid (J pre wr2) ∧ Hid (KpB B n0 W wr2)) (fun j _ => 0)
          case atStart => exact ⟨rfl, hJs, hKp⟩
          case round =>
            obtain ⟨rfl, hJ3, hK3⟩ := hrel
            gi_wp2
            go_roundw
            case rel =>
              refine ⟨k + 1, 0, by omega, by simp, rfl, by simp, ?_, hK3⟩
              rw [HP2.out, HDZ.out, List.append_nil]
              exact hJ3
            case measure => simp [intOf]; omega
        · -- key by key
          gi_loopw [36] (fun j wr2 => ∃ jn : Nat, jn ≤ n1 - a0 ∧ j = .int .i64 jn ∧ Hid (J (pre ++ (L.drop a0).take jn) wr2) ∧ Hid (KpB B n0 W wr2)) (fun j _ => (n1 - a0) - (intOf j).toNat)
          case atStart => exact ⟨0, Nat.zero_le _, rfl, by simpa using hJs, hKp⟩
          case round =>
            obtain ⟨jn, hjn, rfl, hJ3, hK3⟩ := hrel
            by_cases hjl : jn < n1 - a0
            · have hLn : n1 = L.length := HN1.out
              have hja : a0 + jn < L.length := by omega
              obtain ⟨h61, h62⟩ := H6.out (a0 + jn) hja
              obtain ⟨hxv, hxp⟩ := HVL.out _ (List.getElem_mem hja)
              have hdr : L.drop a0 = (L.drop a0).take jn ++ L[a0 + jn] :: L.drop (a0 + jn + 1) := by
                have e1 : jn < (L.drop a0).length := by rw [List.length_drop]; omega
                have e2 : L.drop a0 = (L.drop a0).take jn ++ (L.drop a0)[jn] :: (L.drop a0).drop (jn + 1) := by rw [← List.drop_eq_getElem_cons e1, List.take_append_drop]
                rw [List.getElem_drop, List.drop_drop] at e2
                exact e2
              have htk : (L.drop a0).take (jn + 1) = (L.drop a0).take jn ++ [L[a0 + jn]] := by
                have e1 : jn < (L.drop a0).length := by rw [List.length_drop]; omega
                rw [List.take_succ_eq_append_getElem e1, List.getElem_drop]
              obtain ⟨x, hx⟩ : ∃ x, x = L[a0 + jn] := ⟨_, rfl⟩
              simp only [← hx] at h61 h62 hxv hxp hdr htk
              obtain ⟨xk, xv⟩ := x
              obtain ⟨za, zn, zc, rfl⟩ := hxv
              dsimp only at h61 h62
              have hgB := HB.out _ h2
              have hs1 : wr.cell? ⟨g, a0 * 2 + jn * 2, none⟩ = some (.string xk) := by
                rw [← Nat.add_mul]; exact (hK3.out.cell h2 hgB).trans h61
              have hs2 : wr.cell? ⟨g, a0 * 2 + jn * 2 + 1, none⟩ = some (.slice za zn zc) := by
                rw [← Nat.add_mul]; exact (hK3.out.cell h2 hgB).trans h62
              obtain ⟨tk, htkk⟩ : ∃ tk, tk = (L.drop a0).take jn := ⟨_, rfl⟩
              rw [← htkk] at hJ3 hdr htk
              have hxs2 : fromK ls.flatten key = pre ++ tk ++ (xk, .slice za zn zc) :: (L.drop (a0 + jn + 1) ++ post) := by rw [HXS.out, hdr]; simp
              have HX2 := Lib.hid hxs2
              have HTK := Lib.hid htk
              have hszB := Nat.le_trans hn0 hK3.out.1
              have hJ4 := HJ.out _ _ _ none hJ3.out (World.grownBy_alloc wr (.cells #[.string xk, .slice za zn zc] 184) none) (fun r e => by cases e)
              have hK4 : KpB B n0 wr (wr.alloc (.cells #[.string xk, .slice za zn zc] 184)) := KpB.below ((Below.refl wr.heap.size wr).alloc (Nat.le_refl _) _) (Nat.le_trans hn0 hK3.out.1)
              have HK5 := Lib.hid (hK3.out.trans hK4)
              obtain ⟨fn, tmps, assign, body, hy, hR⟩ := HY.out _ (xk, .slice za zn zc) _ hJ4 hxp (by rw [hxs2]; simp)
              dsimp only at hy
              clear hxp hdr htk hx htkk hxs2 h61 h62 hJ4 hK4 hja hLn hJ3 hK3
              gi_wp2
              refine ⟨fun h => (by simp [Fence.wide] at h), hR.mono ?_⟩
              rintro e W3 (⟨rfl, hJ5, hk5⟩ | ⟨rfl, hJx⟩)
              · have HJ5 := Lib.hid hJ5
                have HK6 := Lib.hid (HK5.out.trans hk5)
                clear hJ5 hk5 hR hy
                gi_wp2
                go_roundw
                case rel =>
                  refine ⟨jn + 1, by omega, by simp, ?_, HK6⟩
                  rw [HTK.out, ← List.append_assoc]
                  exact HJ5
                case measure => simp [intOf]; omega
              · have HJX := Lib.hid hJx
                clear hJx hR hy
                gi_wp2
                simp only [Exit.noGoto_normal]
                refine bodyPost_end (results_none rfl _ _ _) rfl ?_
                exact ⟨⟨_, rfl⟩, .inr ⟨_, ⟨L.drop (a0 + jn + 1) ++ post, by rw [HX2.out]; simp⟩, HJX.out⟩⟩
            · obtain rfl : jn = n1 - a0 := by omega
              gi_wp2
              go_roundw
              case rel =>
                refine ⟨k + 1, 0, by omega, by simp, rfl, by simp, ?_, hK3⟩
                rw [HP2.out]
                have h9 := hJ3.out
                rw [List.take_of_length_le (by rw [List.length_drop, ← HN1.out]; omega)] at h9
                exact Lib.hid h9
              case measure => simp [intOf]; omega
      · obtain rfl : k = m := by omega
        have HE := Lib.hid hJs.out
        clear hJs
        gi_wp2
        simp only [Exit.noGoto_normal]
        refine bodyPost_end (results_none rfl _ _ _) rfl ?_
        refine ⟨⟨_, rfl⟩, .inl ⟨_, rfl, ?_⟩⟩
        have h9 := HE.out
        rw [HFR.out]
        rw [List.take_of_length_le (by have := HM.out; simp; omega)] at h9
        exact h9

/-- From makes a sequence -/
theorem from_any (pt : Option Addr) (key : ByteArray) (w : World) :
    Calls Try.prog 100 #[.pointer pt, .string key] w fun e w' => e = .returned (.func (.func 134) #[] #[.pointer (some ⟨w.heap.size, 0, none⟩), .pointer (some ⟨w.heap.size + 1, 0, none⟩)]) ∧
      w' = (w.alloc (.cells #[.pointer pt] 110)).alloc (.cells #[.string key] 9) := by
  go_enter Try.func100, Try.ntmps100
  go_wp2
  go_ret
  exact ⟨rfl, rfl⟩

theorem from_stops [hd : Inhabited Hd] (n bt bk n0 : Nat) (B : Nat → Prop) (t : Nat) (ls : List (List KV)) (key : ByteArray) (w : World) (Pp : KV → Prop) (hB : ∀ q, B q → q < n0) (hn0 : n0 ≤ w.heap.size) (hT : TreeAt B w t ls) (hV : ∀ p ∈ ls.flatten, IsV p.2) (hPp : ∀ p ∈ ls.flatten, Pp p)
    (hbt : w.cell? ⟨bt, 0, none⟩ = some (.pointer (some ⟨t, 2, none⟩))) (hbk : w.cell? ⟨bk, 0, none⟩ = some (.string key)) (hlt : bt < w.heap.size) (hlk : bk < w.heap.size) :
    SeqStopsK Fence.wide n Try.prog 134 #[.pointer (some ⟨bt, 0, none⟩), .pointer (some ⟨bk, 0, none⟩)] (fun x : { p : KV // Pp p } => #[.string x.1.1, x.1.2]) (KpB B n0) (fun ys => ys.map Subtype.val = fromK ls.flatten key) (fun pre => pre.map Subtype.val <+: fromK ls.flatten key) (fromK ls.flatten key).length w := fun l J Jx W hW hJ hJx hY h0 => by
  refine (from1_in n l bt bk n0 B t ls key (fun ks W => ∃ ys : List { p : KV // Pp p }, ys.map Subtype.val = ks ∧ J ys W) (fun ks W => ∃ ys : List { p : KV // Pp p }, ys.map Subtype.val = ks ∧ Jx ys W) W hB (Nat.le_trans hn0 hW.size) (hT.below hW) hV Pp hPp ?_ ?_ ((hW.cell (p := ⟨bt, 0, none⟩) hlt).trans hbt) ((hW.cell (p := ⟨bk, 0, none⟩) hlk).trans hbk) (Nat.lt_of_lt_of_le hlt hW.size) ⟨[], rfl, h0⟩).mono ?_
  · rintro s A C row ⟨ys, e, hj⟩ hg hr
    exact ⟨ys, e, hJ ys A C row hj hg hr⟩
  · rintro pre x W1 ⟨ys, rfl, hj⟩ hx hl
    refine (hY ys ⟨x, hx⟩ W1 hj (by simpa using hl)).mono ?_
    rintro e W' (⟨rfl, h1, h2⟩ | ⟨rfl, h1⟩)
    · exact .inl ⟨rfl, ⟨_, by simp, h1⟩, h2⟩
    · exact .inr ⟨rfl, ⟨_, by simp, h1⟩⟩
  · rintro e W' ⟨h1, (⟨ks, rfl, ys, e2, h2⟩ | ⟨pre, h2, ys, rfl, h3⟩)⟩
    · exact ⟨h1, .inl ⟨ys, e2, h2⟩⟩
    · exact ⟨h1, .inr ⟨ys, h2, h3⟩⟩

end Go.Proofs.Ytcebnoapgceodaa.tC
