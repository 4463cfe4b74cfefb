/-
  mailbaglaw09.there: writes without those that are gone.
-/
import Derived.Test.YtcebnoapgceodaaSC
namespace Go.Proofs.Ytcebnoapgceodaa.sT
open Go.RowKit Go.Proofs.Ytcebnoapgceodaa.tC

set_option linter.unusedVariables false
set_option linter.unusedSimpArgs false

def thereL (ws : List Wr) : List Wr := ws.filter fun w => !w.gone
theorem there_next {ws : List Wr} {z : Nat} (h : z < ws.length) : thereL (ws.take (z + 1)) = if (ws[z]).gone then thereL (ws.take z) else thereL (ws.take z) ++ [ws[z]] := by
  unfold thereL
  rw [List.take_succ_eq_append_getElem h, List.filter_append]
  cases hg : (ws[z]).gone with
  | true => rw [List.filter_cons_of_neg (by simp [hg])]; simp
  | false => rw [List.filter_cons_of_pos (by simp [hg])]; simp
theorem there_len (ws : List Wr) : (thereL ws).length ≤ ws.length := List.length_filter_le _ _
theorem there_not {ws : List Wr} : ∀ w ∈ thereL ws, w.gone = false := fun w hw => by simpa using (List.mem_filter.1 hw).2
theorem there_mem {ws : List Wr} : ∀ w ∈ thereL ws, w ∈ ws := fun w hw => (List.mem_filter.1 hw).1

def ThI (W : World) (ws : List Wr) (z : Nat) (va : Option Addr) (vc : Nat) (wr : World) : Prop := RowK 48 3 W.heap.size wr (.slice va (thereL (ws.take z)).length vc) (thereL (ws.take z)).length ((thereL (ws.take z)).flatMap wrcells) ∧ Below W.heap.size W wr
/-- what there answers -/
def ThP (W : World) (ws : List Wr) (e : Ending) (W' : World) : Prop := ∃ a c, e = .returned (.slice a (thereL ws).length c) ∧ RowK 48 3 W.heap.size W' (.slice a (thereL ws).length c) (thereL ws).length ((thereL ws).flatMap wrcells) ∧ Below W.heap.size W W'

theorem th_add {W wr w4 : World} {ws : List Wr} {z : Nat} {va : Option Addr} {vc : Nat} (h : ThI W ws z va vc wr) (hb : Below wr.heap.size wr w4) (hz : z < ws.length) (hl : ws.length ≤ 1000000) (hg : (ws[z]).gone = false) :
    ∃ a2 c2 W2, (Builtin.append_ #[22, 22] 22 #[.slice va (thereL (ws.take z)).length vc, .slice (some ⟨w4.heap.size, 0, none⟩) 1 1]).run Try.prog (w4.alloc (.cells #[.string (ws[z]).key, .string (ws[z]).val, .bool (ws[z]).gone] 48)) = .ok (.slice a2 ((thereL (ws.take z)).length + 1) c2) W2 ∧ (thereL (ws.take (z + 1))).length = (thereL (ws.take z)).length + 1 ∧ Hid (ThI W ws (z + 1) a2 c2 W2) := by
  obtain ⟨h1, h2⟩ := h
  have hbA : Below w4.heap.size w4 (w4.alloc (.cells #[.string (ws[z]).key, .string (ws[z]).val, .bool (ws[z]).gone] 48)) := (Below.refl _ _).alloc (Nat.le_refl _) _
  have hz2 := h2.size
  have hzb := hb.size
  have hlz : (thereL (ws.take z)).length ≤ 1000000 := by
    have := there_len (ws.take z)
    rw [List.length_take] at this
    omega
  obtain ⟨a2, c2, W2, hrun, hrow2, hup⟩ := app_wr (B := W.heap.size) (w4.alloc (.cells #[.string (ws[z]).key, .string (ws[z]).val, .bool (ws[z]).gone] 48)) _ (thereL (ws.take z)) ((h1.below hb).below hbA) ws[z] w4.heap.size (heap_alloc_new w4 _) hlz (by rw [World.size_alloc]; omega) 22
  have e : thereL (ws.take (z + 1)) = thereL (ws.take z) ++ [ws[z]] := by rw [there_next hz, hg]; rfl
  refine ⟨a2, c2, W2, hrun, by rw [e, List.length_append, List.length_singleton], Lib.hid ⟨?_, ?_⟩⟩
  · rw [e, List.length_append, List.length_singleton]
    exact hrow2
  · exact (h2.trans ((hb.trans (hbA.mono hzb)).mono hz2)).grown hup.1 (by rw [World.size_alloc]; omega) fun q hq => (h1.lt q hq).1

attribute [-go_sem] Builtin.append_
set_option maxHeartbeats 1000000 in
set_option maxRecDepth 100000 in
theorem there_any {W : World} {a : Option Addr} {len cap : Nat} {ws : List Wr} (h : WrsIs W a ws) (hl : ws.length = len) (hle : len ≤ 1000000) :
    Calls Try.prog 13 #[.slice a len cap] W (ThP W ws) := by
  subst hl
  have HW := Lib.hid h
  have H0 : Hid (ThI W ws 0 (some ⟨W.heap.size, 0, none⟩) 0 (W.alloc (.cells #[] 48))) := Lib.hid ⟨RowK.mk (Box.new W 48 #[]) rfl (Nat.le_refl _) (Nat.le_refl _) (by omega) (by simp [thereL]) (fun q hq => absurd hq (by simp [thereL])) (fun u hu => by simp [thereL] at hu), (Below.refl _ _).alloc (Nat.le_refl _) _⟩
  obtain ⟨Q, hQ⟩ : ∃ Q, Q = ThP W ws := ⟨_, rfl⟩
  have HQ := Lib.hid hQ
  rw [← hQ]
  clear h hQ
  go_enter Try.func13, Try.ntmps13
  go_wp2_with fail
  go_loopw [9, 3] (fun iv v wr => ∃ z k : Nat, z ≤ ws.length ∧ iv = .int .i64 (z : Int) ∧ k = (thereL (ws.take z)).length ∧ ∃ va vc, v = .slice va k vc ∧ Hid (ThI W ws z va vc wr)) (fun iv _ _ => ws.length - (intOf iv).toNat)
  case atStart => exact ⟨0, 0, Nat.zero_le _, rfl, by simp [thereL], _, _, rfl, H0⟩
  case round =>
    obtain ⟨z, k, hz, rfl, hk, va, vc, rfl, hst⟩ := hrel
    clear H0
    by_cases hzl : z < ws.length
    · have hzI : (z : Int) < (ws.length : Int) := by omega
      obtain ⟨b2, off2, rfl, hblt2, ⟨m0, m1, m2⟩, _⟩ := HW.out.at_ z hzl
      have hlow : Below W.heap.size W wr := hst.out.2
      replace m0 := (hlow.cell (p := ⟨b2, off2 + z * 3, none⟩) hblt2).trans m0
      replace m1 := (hlow.cell (p := ⟨b2, off2 + z * 3 + 1, none⟩) hblt2).trans m1
      replace m2 := (hlow.cell (p := ⟨b2, off2 + z * 3 + 2, none⟩) hblt2).trans m2
      have hb3 : Below wr.heap.size wr (wr.alloc (.cells #[.string (ws[z]).key, .string (ws[z]).val, .bool (ws[z]).gone] 48)) := (Below.refl _ _).alloc (Nat.le_refl _) _
      have HNEXT := Lib.hid (there_next hzl)
      by_cases hg : (ws[z]).gone = true
      · have HN : Hid (k = (thereL (ws.take (z + 1))).length ∧ ThI W ws (z + 1) va vc (wr.alloc (.cells #[.string (ws[z]).key, .string (ws[z]).val, .bool (ws[z]).gone] 48))) := Lib.hid (by
          unfold ThI
          rw [HNEXT.out, if_pos hg]
          exact ⟨hk, hst.out.1.below hb3, hst.out.2.trans (hb3.mono hst.out.2.size)⟩)
        obtain ⟨x, hx⟩ : ∃ x, x = ws[z] := ⟨_, rfl⟩
        rw [← hx] at m0 m1 m2 HN hg
        obtain ⟨xk, xv, xg⟩ := x
        simp only at m0 m1 m2 HN hg
        subst hg
        clear hx hst hlow hb3 hk HNEXT
        go_wp2_with fail
        go_roundw
        case rel => exact ⟨z + 1, k, by omega, by go_num, HN.out.1, va, vc, rfl, Lib.hid HN.out.2⟩
        case measure => simp [intOf]; omega
      · have hg2 : (ws[z]).gone = false := by simpa using hg
        obtain ⟨a2, c2, W2, hrun, hlen, HN⟩ := th_add hst.out hb3 hzl hle hg2
        rw [← hk] at hrun hlen
        simp only [World.size_alloc] at hrun
        have HLEN := Lib.hid hlen.symm
        obtain ⟨x, hx⟩ : ∃ x, x = ws[z] := ⟨_, rfl⟩
        rw [← hx] at m0 m1 m2 hrun hg2
        obtain ⟨xk, xv, xg⟩ := x
        simp only at m0 m1 m2 hrun hg2
        subst hg2
        clear hx hst hlow hb3 hk HNEXT hg hlen
        go_wp2_with fail
        go_roundw
        case rel => exact ⟨z + 1, k + 1, by omega, by go_num, HLEN.out, a2, c2, rfl, HN⟩
        case measure => simp [intOf]; omega
    · obtain rfl : z = ws.length := by omega
      have hzI : ¬ (ws.length : Int) < (ws.length : Int) := by omega
      have HF : Hid (Q (.returned (.slice va k vc)) wr) := Lib.hid (by
        rw [HQ.out, hk]
        have := hst.out
        unfold ThI at this
        rw [List.take_length] at this ⊢
        exact ⟨va, vc, rfl, this.1, this.2⟩)
      clear hst hk hzl hz
      go_wp2
      first | exact HF.out | (go_ret; exact HF.out)

end Go.Proofs.Ytcebnoapgceodaa.sT
