/-
  StoreSorts: writes sorted; the calls at a nil store.
-/
import Derived.Test.YtmphcafffblnmaaStNl
import Derived.Test.YtmphcafffblnmaaStFr
namespace Go.Proofs.Ytmphcafffblnmaa.storeSorts
open Go.RowKit Go.Proofs.Ytmphcafffblnmaa.tC Go.Proofs.Ytmphcafffblnmaa.sT Go.Proofs.Ytmphcafffblnmaa.storeFrees Go.ChangeMaps Go.MapKept Go.WideMaps

set_option linter.unusedVariables false
set_option linter.unusedSimpArgs false

theorem zeroWr (w : World) : (zeroValue 51).run Try.prog w = .ok (.agg #[.string ⟨#[]⟩, .string ⟨#[]⟩, .bool false]) w := by kernel_rfl
theorem get_wkv {l : List Wr} (h : RiseW l) {x : Wr} (hx : x ∈ l) : getK (l.map wkv) x.key = some (.agg (wrcells x).toArray) := by
  unfold getK
  cases hf : (l.map wkv).find? fun p => decide (p.1 = x.key) with
  | none =>
    have := List.find?_eq_none.1 hf (wkv x) (List.mem_map.2 ⟨x, hx, rfl⟩)
    simp [wkv] at this
  | some p =>
    obtain ⟨y, hy, rfl⟩ := List.mem_map.1 (List.mem_of_find?_eq_some hf)
    have h1 := List.find?_some hf
    have e : y = x := riseW_same h y hy x hx (of_decide_eq_true h1)
    rw [e]
    rfl
theorem wmap_look {W wr : World} {b n : Nat} {l : List Wr} (h : WMap W wr b n l) (hr : RiseW l) {x : Wr} (hx : x ∈ l) (hs : x.key.size ≤ maxLen) : (Instr.lookup 57 (.map (some b)) (.string x.key) false).run Try.prog wr = .ok (.agg (wrcells x).toArray) wr := by
  have h1 := h.1.look (e := 51) Try.underlying9 Try.underlying57 (zeroWr wr) x.key hs false
  rw [get_map, get_wkv hr hx] at h1
  exact h1

attribute [-go_sem] run_neq_struct
attribute [local irreducible] wpStill
set_option maxHeartbeats 2000000 in
set_option maxRecDepth 100000 in
theorem walk_main {W : World} (a : Option Addr) (cap : Nat) (ws : List Wr) (h : WrsIs W a ws) (hk : ∀ x ∈ ws, x.key.size ≤ maxLen) (hle : ws.length ≤ 60) :
    Calls Try.prog 7 #[.slice a ws.length cap] W fun e W' => e = .returned (.bool true) ∧ Below W.heap.size W W' := by
  have hmm := @run_makeMap Try.prog
  have h60 : ¬ ((60 : Int) < (ws.length : Int)) := by omega
  have HW := Lib.hid (And.intro h hk)
  clear h hk
  go_enter Try.func7, Try.ntmps7
  go_wp2_with fail
  refine (head_any _).mono ?_
  rintro e w1 ⟨rfl, hb1⟩
  obtain ⟨b, hb⟩ : ∃ b, b = w1.heap.size := ⟨_, rfl⟩
  have H0 : Hid (WMap w1 (w1.alloc (.map #[] 0)) b 0 (sortW (ws.take 0))) := Lib.hid ⟨by rw [hb]; exact MapAt.made _ w1, by omega, (Below.refl _ _).alloc (Nat.le_refl _) _⟩
  have HB := Lib.hid hb
  have HB1 := Lib.hid hb1
  clear hb1
  go_wp2_with fail
  rw [← HB.out]
  clear hb
  go_loopw [18] (fun iv wr => ∃ z : Nat, z ≤ ws.length ∧ iv = .int .i64 (z : Int) ∧ Hid (WMap w1 wr b z (sortW (ws.take z)))) (fun iv _ => ws.length - (intOf iv).toNat)
  case atStart => exact ⟨0, Nat.zero_le _, rfl, H0⟩
  case round =>
    obtain ⟨z, hz, rfl, hst⟩ := hrel
    clear H0
    by_cases hzl : z < ws.length
    · have hzI : (z : Int) < (ws.length : Int) := by omega
      obtain ⟨b2, off2, rfl, hblt2, ⟨m0, m1, m2⟩, _⟩ := HW.out.1.at_ z hzl
      have hlow : Below W.heap.size W wr := HB1.out.trans (hst.out.2.2.mono HB1.out.size)
      replace m0 := (hlow.cell (p := ⟨b2, off2 + z * 3, none⟩) hblt2).trans m0
      replace m1 := (hlow.cell (p := ⟨b2, off2 + z * 3 + 1, none⟩) hblt2).trans m1
      replace m2 := (hlow.cell (p := ⟨b2, off2 + z * 3 + 2, none⟩) hblt2).trans m2
      obtain ⟨x, hx⟩ : ∃ x, x = ws[z] := ⟨_, rfl⟩
      rw [← hx] at m0 m1 m2
      have hxk : x.key.size ≤ maxLen := HW.out.2 x (by rw [hx]; exact List.getElem_mem hzl)
      have hb3 : Below wr.heap.size wr (wr.alloc (.cells #[.string x.key, .string x.val, .bool x.gone] 51)) := (Below.refl _ _).alloc (Nat.le_refl _) _
      obtain ⟨w5, hrun, hK5⟩ := (hst.out.low hb3).next (sortW_rise _) x hxk (by omega)
      have HN : Hid (WMap w1 w5 b (z + 1) (sortW (ws.take (z + 1)))) := Lib.hid (by
        rw [List.take_succ_eq_append_getElem hzl, ← hx, sortW_snoc]
        exact hK5)
      obtain ⟨xk, xv, xg⟩ := x
      simp only [wrcells] at m0 m1 m2 hrun
      clear hx hst hxk hb3 hK5 hlow
      go_wp2_with fail
      go_roundw
      case rel => exact ⟨z + 1, by omega, by go_num, HN⟩
      case measure => simp [intOf]; omega
    · obtain rfl : z = ws.length := by omega
      have hzI : ¬ (ws.length : Int) < (ws.length : Int) := by omega
      have hM : WMap w1 wr b ws.length (sortW ws) := by have := hst.out; rwa [List.take_length] at this
      have hlow : Below W.heap.size W wr := HB1.out.trans (hM.2.2.mono HB1.out.size)
      have HSO := Lib.hid (sorted_any (cap := cap) (HW.out.1.below hlow) rfl (by omega) HW.out.2)
      have hrl := sortW_rise ws
      have hll := sortW_len ws
      have hmk : ∀ x ∈ sortW ws, x.key.size ≤ maxLen := fun x hx => HW.out.2 x (sortW_mem x hx)
      obtain ⟨L, hL⟩ : ∃ L, L = sortW ws := ⟨_, rfl⟩
      unfold SortedP at HSO
      rw [← hL] at hM hrl hll hmk HSO
      have HM := Lib.hid (And.intro hM (And.intro hlow (And.intro hrl hmk)))
      clear hst hzl hz hM hlow hrl hmk hL
      go_wp2_with fail
      refine HSO.out.mono ?_
      rintro e w5 ⟨ga, gc, rfl, k1, k2⟩
      obtain ⟨ga2, gc2, e3, hgw⟩ := wrs_of_row (B := fun _ => True) (v := .slice ga L.length gc) (ws := L) ⟨k1.keep fun q hq => ⟨rfl, Nat.zero_le _⟩, fun _ _ => trivial⟩
      injection e3 with e4
      subst e4
      have HX : Hid (WMap w1 w5 b ws.length L ∧ Below W.heap.size W w5 ∧ WrsIs w5 ga L) := Lib.hid ⟨HM.out.1.low k2, HM.out.2.1.trans (k2.mono HM.out.2.1.size), hgw⟩
      have HR := Lib.hid HM.out.2.2
      clear k1 k2 hgw HM HSO
      go_wp2_with fail
      go_loopw [31] (fun iv wr => ∃ y : Nat, y ≤ L.length ∧ iv = .int .i64 (y : Int) ∧ Hid (Below w5.heap.size w5 wr)) (fun iv _ => L.length - (intOf iv).toNat)
      case atStart => exact ⟨0, Nat.zero_le _, rfl, Lib.hid (Below.refl _ _)⟩
      case round =>
        obtain ⟨y, hy, rfl, hst⟩ := hrel
        by_cases hyl : y < L.length
        · have hyI : (y : Int) < (L.length : Int) := by omega
          obtain ⟨b4, off4, e4, hblt4, ⟨r0, r1, r2⟩, _⟩ := HX.out.2.2.at_ y hyl
          subst e4
          obtain ⟨x, hx⟩ : ∃ x, x = L[y] := ⟨_, rfl⟩
          have hlow := hst.out
          have hmem : x ∈ L := by rw [hx]; exact List.getElem_mem hyl
          rw [← hx] at r0 r1 r2
          have hcmp := neq_self x
          replace r0 := (hlow.cell (p := ⟨b4, off4 + y * 3, none⟩) hblt4).trans r0
          replace r1 := (hlow.cell (p := ⟨b4, off4 + y * 3 + 1, none⟩) hblt4).trans r1
          replace r2 := (hlow.cell (p := ⟨b4, off4 + y * 3 + 2, none⟩) hblt4).trans r2
          obtain ⟨wA, hwA⟩ : ∃ wA, wA = wr.alloc (.cells #[.string x.key, .string x.val, .bool x.gone] 51) := ⟨_, rfl⟩
          have hlowA : Below w5.heap.size w5 wA := by rw [hwA]; exact hlow.alloc hlow.size _
          have hbx : Box wA wr.heap.size 51 #[.string x.key, .string x.val, .bool x.gone] := by rw [hwA]; exact Box.new wr _ _
          have c0 : wA.cell? ⟨wr.heap.size, 0, none⟩ = some (.string x.key) := hbx.cell 0
          have c1 : wA.cell? ⟨wr.heap.size, 1, none⟩ = some (.string x.val) := hbx.cell 1
          have c2 : wA.cell? ⟨wr.heap.size, 2, none⟩ = some (.bool x.gone) := hbx.cell 2
          have hlk := wmap_look (HX.out.1.low hlowA.drew) HR.out.1 hmem (HR.out.2 x hmem)
          have HN : Hid (Below w5.heap.size w5 wA.drew) := Lib.hid hlowA.drew
          have hzw : w5.heap.size ≤ wA.heap.size := hlowA.size
          cases y with
          | zero =>
            simp only [Nat.zero_mul, Nat.add_zero] at r0 r1 r2
            obtain ⟨xk, xv, xg⟩ := x
            simp only [wrcells] at r0 r1 r2 hlk hcmp c0 c1 c2 hwA
            clear hx hst hlow hmem hlowA hbx hzw
            go_wp2_with fail
            rw [← hwA]
            clear hwA
            refine wp_region_still_lit (by rfl) (by kernel_rfl) ?_
            change wpStill _ _ (World.drew _) (fun a' => _) _ _
            repeat still_step
            refine wpStill_nil ?_
            go_wp2_with fail
            go_roundw
            case rel => exact ⟨1, by omega, by go_num, HN⟩
            case measure => simp [intOf]; omega
          | succ j =>
            obtain ⟨b6, off6, e6, hblt6, ⟨p0, _, _⟩, _⟩ := HX.out.2.2.at_ j (by omega)
            obtain ⟨rfl, rfl⟩ : b6 = b4 ∧ off6 = off4 := by
              injection e6 with e6
              injection e6 with e6 e7
              exact ⟨e6.symm, e7.symm⟩
            have hlt : Lt (L[j]).key x.key := by
              rw [hx]
              exact List.pairwise_iff_getElem.1 HR.out.1 j (j + 1) (by omega) hyl (by omega)
            obtain ⟨pk, hpk⟩ : ∃ pk, pk = (L[j]).key := ⟨_, rfl⟩
            rw [← hpk] at p0 hlt
            have hless : Op.bytesLess pk.toList x.key.toList = true := by
              rw [Lib.toList_data, Lib.toList_data, bytesLess_eq]
              exact decide_eq_true hlt
            have hp2 : wA.cell? ⟨b6, off6 + j * 3, none⟩ = some (.string pk) := (hlowA.cell (p := ⟨b6, off6 + j * 3, none⟩) hblt6).trans p0
            obtain ⟨xk, xv, xg⟩ := x
            simp only [wrcells] at r0 r1 r2 hlk hcmp hless c0 c1 c2 hwA
            have hw1 : IntKind.i64.wrap ((j : Int) + 1 - 1) = (j : Int) := by rw [IntKind.wrap_i64]; omega
            have hw2 : IntKind.i64.wrap (j : Int) = (j : Int) := by rw [IntKind.wrap_i64]; omega
            have hj0 : ¬ ((j : Int) < 0) := by omega
            have hj00 : (0 : Int) ≤ (j : Int) := by omega
            have hj1 : (0 : Int) < ((j + 1 : Nat) : Int) := by omega
            have hjl : (j : Int) < (L.length : Int) := by omega
            clear hx hst hlow hmem hpk p0 hlt e6 hlowA hbx hzw
            go_wp2_with fail
            rw [← hwA]
            clear hwA
            refine wp_region_still_lit (by rfl) (by kernel_rfl) ?_
            change wpStill _ _ (World.drew _) (fun a' => _) _ _
            repeat still_step
            refine wpStill_nil ?_
            go_wp2_with fail
            go_roundw
            case rel => exact ⟨j + 2, by omega, by go_num, HN⟩
            case measure => simp [intOf]; omega
        · obtain rfl : y = L.length := by omega
          have hyI : ¬ (L.length : Int) < (L.length : Int) := by omega
          have hlow := hst.out
          have hlen : ∀ ty, (Builtin.len_ #[57] ty #[.map (some b)]).run Try.prog wr = .ok (.int .i64 (L.length : Int)) wr := fun ty => by
            have := World.ownsMap.len (P := Try.prog) (HX.out.1.low hlow).1 Try.underlying57 ty
            rwa [toF_length_map, List.length_map] at this
          have HF : Hid (Below W.heap.size W wr) := Lib.hid (HX.out.2.1.trans (hlow.mono HX.out.2.1.size))
          clear hst hlow
          go_wp2_with fail
          refine (last_nil _).mono ?_
          rintro e w6 ⟨rfl, rfl⟩
          go_wp2_with fail
          refine (low_nil _).mono ?_
          rintro e w6 ⟨rfl, rfl⟩
          go_wp2_with fail
          refine (commit_nil _ ⟨_, _, _, rfl⟩ _).mono ?_
          rintro e w6 ⟨rfl, hb6⟩
          have H6 : Hid (Below W.heap.size W w6) := Lib.hid (HF.out.trans (hb6.mono HF.out.size))
          clear HF hb6
          go_wp2_with fail
          refine (vacuum_nil _).mono ?_
          rintro e w7 ⟨rfl, hb7⟩
          have H7 : Hid (Below W.heap.size W w7) := Lib.hid (H6.out.trans (hb7.mono H6.out.size))
          clear H6 hb7
          go_wp2_with fail
          refine (versions_nil _).mono ?_
          rintro e w8 ⟨rfl, hb8⟩
          have H8 : Hid (Below W.heap.size W w8) := Lib.hid (H7.out.trans (hb8.mono H7.out.size))
          clear H7 hb8
          go_wp2
          first | exact ⟨rfl, H8.out⟩ | (go_ret; exact ⟨rfl, H8.out⟩)

theorem walk_out {W : World} (a : Option Addr) (len cap : Nat) (h : 60 < len) :
    Calls Try.prog 7 #[.slice a len cap] W fun e W' => e = .returned (.bool true) ∧ Below W.heap.size W W' := by
  have h60 : ((60 : Int) < (len : Int)) := by omega
  go_enter Try.func7, Try.ntmps7
  go_wp2_with fail
  refine (head_any _).mono ?_
  rintro e w1 ⟨rfl, hb1⟩
  have HB1 := Lib.hid hb1
  clear hb1
  go_wp2
  first | exact ⟨rfl, HB1.out⟩ | (go_ret; exact ⟨rfl, HB1.out⟩)

theorem walk {w : World} (a : Option Addr) (len cap : Nat) (h : ∃ ws, WrsCame w a len cap ws ∧ SizedW ws) :
    Calls Try.prog 7 #[.slice a len cap] w fun e W' => e = .returned (.bool true) ∧ Below w.heap.size w W' := by
  by_cases hl : 60 < len
  · exact walk_out a len cap hl
  · obtain ⟨ws, ⟨h1, h2, h3, h4, h5⟩, _⟩ := h
    subst h1
    exact walk_main a cap ws h4 (fun x hx => (h5 x hx).1) (by omega)

end Go.Proofs.Ytmphcafffblnmaa.storeSorts
