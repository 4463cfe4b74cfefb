/-
  mailbaglaw09.Some: writes like others, that are right.
-/
import Derived.Test.YtcebnoapgceodaaStPl2
import Derived.Test.YtcebnoapgceodaaStArg
namespace Go.Proofs.Ytcebnoapgceodaa.sT
open Go.RowKit Go.Proofs.Ytcebnoapgceodaa.tC

set_option linter.unusedVariables false
set_option linter.unusedSimpArgs false

/-- what Some answers -/
def SomeP (W : World) (ws : List Wr) (e : Ending) (W' : World) : Prop := ∃ a c, e = .returned (.slice a (someW ws).length c) ∧ RowK 48 3 W.heap.size W' (.slice a (someW ws).length c) (someW ws).length ((someW ws).flatMap wrcells) ∧ Below W.heap.size W W'

/-- what is laid so far -/
def SmI (W : World) (ws : List Wr) (z : Nat) (v : Value) (wr : World) : Prop := RowK 48 3 W.heap.size wr v z (((ws.take z).map some1).flatMap wrcells) ∧ Below W.heap.size W wr

theorem sm_step {W wr : World} {ws : List Wr} {z : Nat} {va : Option Addr} {vc : Nat} (h : SmI W ws z (.slice va z vc) wr) (hz : z < ws.length) (hz2 : z ≤ 12) {x y : Wr} (hx : x = ws[z]) (hy : some1 x = y) :
    ∃ a2 c2 W2, (Builtin.append_ #[22, 22] 22 #[.slice va z vc, .slice (some ⟨wr.heap.size + 1 + 1, 0, none⟩) 1 1]).run Try.prog (((wr.alloc (.cells #[.string x.key, .string x.val, .bool x.gone] 48)).alloc (.cells #[.string y.key, .string y.val, .bool y.gone] 48)).alloc (.cells #[.string y.key, .string y.val, .bool y.gone] 48)) = .ok (.slice a2 (z + 1) c2) W2 ∧ Hid (SmI W ws (z + 1) (.slice a2 (z + 1) c2) W2) := by
  obtain ⟨hr, hb⟩ := h
  have hbA : Below wr.heap.size wr (((wr.alloc (.cells #[.string x.key, .string x.val, .bool x.gone] 48)).alloc (.cells #[.string y.key, .string y.val, .bool y.gone] 48)).alloc (.cells #[.string y.key, .string y.val, .bool y.gone] 48)) := (((Below.refl _ wr).alloc (Nat.le_refl _) _).alloc (by simp) _).alloc (by simp; omega) _
  have hlen : ((ws.take z).map some1).length = z := by rw [List.length_map, List.length_take]; omega
  have hr2 := hr.below hbA
  have hsz : ((wr.alloc (.cells #[.string x.key, .string x.val, .bool x.gone] 48)).alloc (.cells #[.string y.key, .string y.val, .bool y.gone] 48)).heap.size = wr.heap.size + 1 + 1 := by simp
  have hp := heap_alloc_new ((wr.alloc (.cells #[.string x.key, .string x.val, .bool x.gone] 48)).alloc (.cells #[.string y.key, .string y.val, .bool y.gone] 48)) (.cells #[.string y.key, .string y.val, .bool y.gone] 48)
  rw [hsz] at hp
  obtain ⟨a2, c2, W2, hrun, hrow2, hup⟩ := app_wr (B := W.heap.size) _ (.slice va z vc) ((ws.take z).map some1) (by rw [hlen]; exact hr2) y (wr.heap.size + 1 + 1) hp (by omega) (Nat.le_trans hb.size hbA.size) 22
  rw [hlen] at hrun hrow2 hup
  refine ⟨a2, c2, W2, hrun, Lib.hid ⟨?_, ?_⟩⟩
  · rw [List.take_succ_eq_append_getElem hz, List.map_append, List.map_singleton, ← hx, hy]
    exact hrow2
  · exact (hb.trans (hbA.mono hb.size)).grown hup.1 (Nat.le_trans hb.size hbA.size) fun q hq => (hr2.lt q hq).1

theorem sm_end {W W1 : World} {ws : List Wr} {z : Nat} {va : Option Addr} {vc : Nat} (h : SmI W ws z (.slice va z vc) W1) (hz : z = ws.length ∨ z = 12) (hle : z ≤ ws.length) (hz12 : z ≤ 12) : Calls Try.prog 52 #[.slice va z vc] W1 fun e W' => ∃ v, e = .returned v ∧ Hid (SomeP W ws (.returned v) W') := by
  have e : (ws.take z).map some1 = (ws.take 12).map some1 := by
    rcases hz with hz | hz
    · rw [hz, List.take_length, List.take_of_length_le (by omega)]
    · rw [hz]
  obtain ⟨h1, h2⟩ := h
  rw [e] at h1
  have hl : ((ws.take 12).map some1).length = z := by rw [← e, List.length_map, List.length_take]; omega
  obtain ⟨wa, wc, e3, hw⟩ := wrs_of_row (B := fun _ => True) (v := .slice va z vc) (ws := (ws.take 12).map some1) ⟨by rw [hl]; exact h1.keep fun q hq => ⟨rfl, Nat.zero_le _⟩, fun _ _ => trivial⟩
  injection e3 with e4 _ e5
  subst e4
  refine (sorted_any hw hl (by rw [← hl, List.length_map, List.length_take]; omega) fun x hx => ?_).mono ?_
  · obtain ⟨y, _, rfl⟩ := List.mem_map.1 hx
    have := (some1_ok y).2.1
    unfold maxLen
    omega
  · rintro e6 W' ⟨a, c, rfl, k1, k2⟩
    exact ⟨_, rfl, Lib.hid ⟨a, c, rfl, k1.keep fun q hq => ⟨rfl, Nat.le_trans h2.size (k1.lt q hq).1⟩, h2.trans (k2.mono h2.size)⟩⟩

attribute [-go_sem] Builtin.append_
set_option maxHeartbeats 1000000 in
set_option maxRecDepth 100000 in
theorem some_any {W : World} {a : Option Addr} {len cap : Nat} {ws : List Wr} (h : WrsIs W a ws) (hl : ws.length = len) (hcap : len ≤ 9223372036854775807) (hk : SizedW ws) :
    Calls Try.prog 14 #[.slice a len cap] W (SomeP W ws) := by
  subst hl
  have HW := Lib.hid (And.intro h hk)
  have H0 : Hid (SmI W ws 0 (.slice (some ⟨W.heap.size, 0, none⟩) 0 0) (W.alloc (.cells #[] 48))) := Lib.hid ⟨RowK.mk (Box.new W 48 #[]) rfl (Nat.le_refl _) (Nat.le_refl _) (by omega) (by simp) (fun q hq => absurd hq (by simp)) (fun u hu => by simp at hu), (Below.refl _ _).alloc (Nat.le_refl _) _⟩
  obtain ⟨Q, hQ⟩ : ∃ Q, Q = SomeP W ws := ⟨_, rfl⟩
  have HQ := Lib.hid hQ
  rw [← hQ]
  clear h hk hQ
  go_enter Try.func14, Try.ntmps14
  go_wp2_with fail
  go_loopw [10, 3] (fun iv v wr => ∃ z : Nat, z ≤ ws.length ∧ z ≤ 12 ∧ iv = .int .i64 (z : Int) ∧ (∃ va vc, v = .slice va z vc) ∧ Hid (SmI W ws z v wr)) (fun iv _ _ => ws.length - (intOf iv).toNat)
  case atStart => exact ⟨0, Nat.zero_le _, by omega, rfl, ⟨_, _, rfl⟩, H0⟩
  case round =>
    obtain ⟨z, hz, hz12, rfl, ⟨va, vc, rfl⟩, hst⟩ := hrel
    clear H0
    by_cases hzl : z < ws.length
    · have hzI : (z : Int) < (ws.length : Int) := by omega
      obtain ⟨b2, off2, rfl, hblt2, ⟨m0, m1, m2⟩, _⟩ := HW.out.1.at_ z hzl
      have hlow : Below W.heap.size W wr := hst.out.2
      replace m0 := (hlow.cell (p := ⟨b2, off2 + z * 3, none⟩) hblt2).trans m0
      replace m1 := (hlow.cell (p := ⟨b2, off2 + z * 3 + 1, none⟩) hblt2).trans m1
      replace m2 := (hlow.cell (p := ⟨b2, off2 + z * 3 + 2, none⟩) hblt2).trans m2
      obtain ⟨x, hx⟩ : ∃ x, x = ws[z] := ⟨_, rfl⟩
      rw [← hx] at m0 m1 m2
      obtain ⟨hs1, hs2⟩ := HW.out.2 x (by rw [hx]; exact List.getElem_mem hzl)
      have hr : reachBytes = 140737488351232 := rfl
      rw [hr] at hs1 hs2
      have hfin : z = 12 → Hid (Calls Try.prog 52 #[.slice va z vc] (wr.alloc (.cells #[.string x.key, .string x.val, .bool x.gone] 48)) fun e W' => ∃ v, e = .returned v ∧ Hid (Q (.returned v) W')) := fun h12 => Lib.hid (by
        have hbA : Below wr.heap.size wr (wr.alloc (.cells #[.string x.key, .string x.val, .bool x.gone] 48)) := (Below.refl _ wr).alloc (Nat.le_refl _) _
        have := sm_end (W1 := wr.alloc (.cells #[.string x.key, .string x.val, .bool x.gone] 48)) ⟨hst.out.1.below hbA, hst.out.2.trans (hbA.mono hst.out.2.size)⟩ (.inr h12) hz hz12
        rw [← HQ.out] at this
        exact this)
      by_cases h12 : z = 12
      · have HF := hfin h12
        subst h12
        obtain ⟨xk, xv, xg⟩ := x
        simp only at m0 m1 m2 HF
        clear hx hlow hr hs1 hs2 hst hfin HW HQ
        go_wp2_with fail
        refine HF.out.mono ?_
        rintro e w5 ⟨v5, rfl, h5⟩
        go_wp2
        first | exact h5.out | (go_ret; exact h5.out)
      · have h12I : (12 ≤ (z : Int)) = False := eq_false (by omega)
        have hz2 : z ≤ 12 := by omega
        have hsx := fun y hy => sm_step hst.out hzl hz2 hx (y := y) hy
        obtain ⟨xk, xv, xg⟩ := x
        simp only at m0 m1 m2 hs1 hs2 hsx
        have hk9 : (xk.size : Int) ≤ 140737488351232 := by omega
        have hsz1 : ((⟨#[107]⟩ : ByteArray) ++ xk).size = 1 + xk.size := by rw [ByteArray.size_append]; rfl
        have hkey1 : 20 < 1 + xk.size → cutB (⟨#[107]⟩ ++ xk) 20 = (⟨#[107]⟩ ++ xk).extract 0 20 := fun h => by unfold cutB; rw [hsz1, if_pos h]
        have hkey2 : ¬ 20 < 1 + xk.size → cutB (⟨#[107]⟩ ++ xk) 20 = ⟨#[107]⟩ ++ xk := fun h => by unfold cutB; rw [hsz1, if_neg h]
        have hval1 : 40 < xv.size → cutB xv 40 = xv.extract 0 40 := fun h => by unfold cutB; rw [if_pos h]
        have hval2 : ¬ 40 < xv.size → cutB xv 40 = xv := fun h => by unfold cutB; rw [if_neg h]
        have HS := Lib.hid (And.intro hsx (And.intro hkey1 (And.intro hkey2 (And.intro hval1 hval2))))
        have hz12' : z < 12 := by omega
        clear hx hlow hr h12 hsx hkey1 hkey2 hval1 hval2 hst hfin HW HQ hsz1 hz2
        by_cases h20 : 20 < 1 + xk.size
        · have h20I : (20 : Int) < 1 + (xk.size : Int) := by omega
          have hkx := HS.out.2.1 h20
          clear h20
          cases xg
          · by_cases h40 : 40 < xv.size
            · have h40I : (40 : Int) < (xv.size : Int) := by omega
              have hvx := HS.out.2.2.2.1 h40
              clear h40
              obtain ⟨a2, c2, W2, hrun, HN⟩ := HS.out.1 _ (by unfold some1; simp only [Bool.false_eq_true, if_false]; rw [hkx, hvx])
              simp only at hrun
              clear HS hkx hvx
              go_wp2_with fail
              go_roundw
              case rel => exact ⟨z + 1, by omega, by omega, by go_num, ⟨_, _, rfl⟩, HN⟩
              case measure => simp [intOf]; omega
            · have h40I : (40 < (xv.size : Int)) = False := eq_false (by omega)
              have hvx := HS.out.2.2.2.2 h40
              clear h40
              obtain ⟨a2, c2, W2, hrun, HN⟩ := HS.out.1 _ (by unfold some1; simp only [Bool.false_eq_true, if_false]; rw [hkx, hvx])
              simp only at hrun
              clear HS hkx hvx
              go_wp2_with fail
              go_roundw
              case rel => exact ⟨z + 1, by omega, by omega, by go_num, ⟨_, _, rfl⟩, HN⟩
              case measure => simp [intOf]; omega
          · have hvx : cutB ⟨#[]⟩ 40 = ⟨#[]⟩ := rfl
            obtain ⟨a2, c2, W2, hrun, HN⟩ := HS.out.1 _ (by unfold some1; simp only [if_true]; rw [hkx, hvx])
            simp only at hrun
            clear HS hkx hvx
            go_wp2_with fail
            go_roundw
            case rel => exact ⟨z + 1, by omega, by omega, by go_num, ⟨_, _, rfl⟩, HN⟩
            case measure => simp [intOf]; omega
        · have h20I : (20 < 1 + (xk.size : Int)) = False := eq_false (by omega)
          have hkx := HS.out.2.2.1 h20
          clear h20
          cases xg
          · by_cases h40 : 40 < xv.size
            · have h40I : (40 : Int) < (xv.size : Int) := by omega
              have hvx := HS.out.2.2.2.1 h40
              clear h40
              obtain ⟨a2, c2, W2, hrun, HN⟩ := HS.out.1 _ (by unfold some1; simp only [Bool.false_eq_true, if_false]; rw [hkx, hvx])
              simp only at hrun
              clear HS hkx hvx
              go_wp2_with fail
              go_roundw
              case rel => exact ⟨z + 1, by omega, by omega, by go_num, ⟨_, _, rfl⟩, HN⟩
              case measure => simp [intOf]; omega
            · have h40I : (40 < (xv.size : Int)) = False := eq_false (by omega)
              have hvx := HS.out.2.2.2.2 h40
              clear h40
              obtain ⟨a2, c2, W2, hrun, HN⟩ := HS.out.1 _ (by unfold some1; simp only [Bool.false_eq_true, if_false]; rw [hkx, hvx])
              simp only at hrun
              clear HS hkx hvx
              go_wp2_with fail
              go_roundw
              case rel => exact ⟨z + 1, by omega, by omega, by go_num, ⟨_, _, rfl⟩, HN⟩
              case measure => simp [intOf]; omega
          · have hvx : cutB ⟨#[]⟩ 40 = ⟨#[]⟩ := rfl
            obtain ⟨a2, c2, W2, hrun, HN⟩ := HS.out.1 _ (by unfold some1; simp only [if_true]; rw [hkx, hvx])
            simp only at hrun
            clear HS hkx hvx
            go_wp2_with fail
            go_roundw
            case rel => exact ⟨z + 1, by omega, by omega, by go_num, ⟨_, _, rfl⟩, HN⟩
            case measure => simp [intOf]; omega
    · obtain rfl : z = ws.length := by omega
      have hzI : ¬ (ws.length : Int) < (ws.length : Int) := by omega
      have HF : Hid (Calls Try.prog 52 #[.slice va ws.length vc] wr fun e W' => ∃ v, e = .returned v ∧ Hid (Q (.returned v) W')) := Lib.hid (by
        have := sm_end (W1 := wr) hst.out (.inl rfl) hz hz12
        rw [← HQ.out] at this
        exact this)
      clear hst hzl hz HW HQ
      go_wp2_with fail
      refine HF.out.mono ?_
      rintro e w5 ⟨v5, rfl, h5⟩
      go_wp2
      first | exact h5.out | (go_ret; exact h5.out)

end Go.Proofs.Ytcebnoapgceodaa.sT
