/-
  val's decoder: a value that is no list and no map.
-/
import Derived.Test.YtacphlceggbfcaaValDec
import Derived.Test.YtacphlceggbfcaaValMath
namespace Go.Proofs.Ytacphlceggbfcaa
open Go.RowKit

attribute [local irreducible] wpStill

theorem text_read4 (b : Nat) (l : L8) (hl : l.length ≤ 100000) (w : World) (h : Rd w b ⟨l.toArray⟩ false) :
    Calls Try.prog 60 #[.pointer (some ⟨b, 0, none⟩), .int .i64 4096] w (ReadPost (.string ⟨#[]⟩) (fun t : List UInt8 => .string ⟨t.toArray⟩) (textRead l 4096) b false w) :=
  text_read b false l (by omega) 4096 (by omega) w h

set_option maxHeartbeats 4000000 in
set_option maxRecDepth 100000 in
theorem value_bool (d o : Nat) (hd : o ≤ 31) (b : Nat) (r : L8) (hr : r.length ≤ 5000) (w : World) (h : Rd w b ⟨(1 :: r).toArray⟩ false) :
    Calls Try.prog 54 #[.agg #[.pointer (some ⟨b, 0, none⟩)], .int .i64 o] w (DecP (decV (d + 1) (1 :: r)) b w) := by
  have hbl := h.lt
  have hg0 : Goes w b ⟨(1 :: r).toArray⟩ false ((w.alloc (.cells #[.pointer (some ⟨b, 0, none⟩)] 85)).alloc (.cells #[.int .i64 0, .bool false, .int .i64 0, .string ⟨#[]⟩, .slice none 0 0, .slice none 0 0] 26)) :=
    (Goes.refl h).below (((Below.refl _ w).alloc (Nat.le_refl _) _).alloc (by simp) _)
  have hraw := raw_one b 1 r (by omega) _ hg0.1
  have ho : ((o : Int) == 32) = false := by rw [beq_eq_false_iff_ne]; omega
  have hc0 : ∀ h, ((({ data := #[1] } : ByteArray)[0]'h).toNat : Int) = 1 := fun _ => rfl
  go_enter Try.func54, Try.ntmps54
  go_wp2_with fail
  refine hraw.mono ?_
  rintro e w1 ⟨rfl, hg1⟩
  have hB1 : Box w1 w.heap.size 85 #[.pointer (some ⟨b, 0, none⟩)] := (((Box.new w 85 #[.pointer (some ⟨b, 0, none⟩)]).alloc _).goes hg1 (by omega))
  have hB2 : Box w1 (w.heap.size + 1) 26 #[.int .i64 0, .bool false, .int .i64 0, .string ⟨#[]⟩, .slice none 0 0, .slice none 0 0] := by
    have := Box.new (w.alloc (.cells #[.pointer (some ⟨b, 0, none⟩)] 85)) 26 #[.int .i64 0, .bool false, .int .i64 0, .string ⟨#[]⟩, .slice none 0 0, .slice none 0 0]
    rw [show (w.alloc (.cells #[.pointer (some ⟨b, 0, none⟩)] 85)).heap.size = w.heap.size + 1 by simp] at this
    exact this.goes hg1 (by omega)
  have hz1 : w.heap.size + 2 ≤ w1.heap.size := by
    have := hg1.2.size
    simp at this
    omega
  have hV := Box.new w1 26 #[.int .i64 1, .bool false, .int .i64 0, .string ⟨#[]⟩, .slice none 0 0, .slice none 0 0]
  have hP := hB1.alloc (.cells #[.int .i64 1, .bool false, .int .i64 0, .string ⟨#[]⟩, .slice none 0 0, .slice none 0 0] 26)
  have hO := hB2.alloc (.cells #[.int .i64 1, .bool false, .int .i64 0, .string ⟨#[]⟩, .slice none 0 0, .slice none 0 0] 26)
  have hG := (hg0.trans hg1).alloc (.cells #[.int .i64 1, .bool false, .int .i64 0, .string ⟨#[]⟩, .slice none 0 0, .slice none 0 0] 26)
  have p0 := hP.cell 0
  simp only [List.getElem?_toArray, List.getElem?_cons_zero] at p0
  have hcall := flag_read b false r _ hG.1
  clear hraw
  go_wp2_with fail
  refine hcall.mono ?_
  rintro e w2 (⟨ho2, rfl, hg2⟩ | ⟨y, r2, ho2, rfl, hg2⟩)
  · have hDec : Hid (decV (d + 1) (1 :: r) = .inl 2) := Lib.hid (by rw [decV_bool, ho2])
    clear ho2
    have hV2 := hV.goes hg2 (by omega)
    have hP2 := hP.goes hg2 (by omega)
    have hO2 := hO.goes hg2 (by omega)
    have hG2 := hG.trans hg2
    obtain ⟨⟨a0, a1, a2, a3, a4, a5⟩, b0, b1, b2, b3, b4, b5⟩ := hV2.six
    have hV3 : Box (w2.setCell ⟨w1.heap.size, 1, none⟩ (.bool false)) w1.heap.size 26 #[.int .i64 1, .bool false, .int .i64 0, .string ⟨#[]⟩, .slice none 0 0, .slice none 0 0] := hV2.setSame 1 (.bool false)
    have hP3 := hP2.setFar (p := ⟨w1.heap.size, 1, none⟩) (show w.heap.size ≠ w1.heap.size by omega) (.bool false)
    have hO3 := hO2.setFar (p := ⟨w1.heap.size, 1, none⟩) (show w.heap.size + 1 ≠ w1.heap.size by omega) (.bool false)
    have hG3 := hG2.set hbl (p := ⟨w1.heap.size, 1, none⟩) (show w.heap.size ≤ w1.heap.size by omega) (.bool false)
    clear hV hP hO hG hV2 hP2 hO2 hG2 hg2 hB1 hB2 hg0 hcall
    have hE := err_flip' b _ _ hG3.drew.1
    obtain ⟨⟨v0, v1, v2, v3, v4, v5⟩, _⟩ := hV3.six
    obtain ⟨⟨o0, o1, o2, o3, o4, o5⟩, f0, f1, f2, f3, f4, f5⟩ := hO3.six
    have p3 := hP3.cell 0
    simp only [List.getElem?_toArray, List.getElem?_cons_zero] at p3
    go_wp2_with fail
    refine wp_region_still_tail 4 (by kernel_rfl) (by kernel_rfl) ?_
    change wpStill _ _ (World.drew _) (fun a' => wpList _ _ _ _ a' (World.drew _)) _ _
    simp only [List.take_succ_cons, List.take_zero, List.drop_succ_cons, List.drop_zero]
    still_step
    still_step
    still_step
    refine wpStill_step (fun K hK => ?_)
    go_simp
    refine ⟨_, hE, hK _ ?_⟩
    clear hK K
    refine wpStill_nil ?_
    go_wp2
    have hF := ((((((hO3.setSame 0 (.int .i64 1)).setSame 1 (.bool false)).setSame 2 (.int .i64 0)).setSame 3 (.string ⟨#[]⟩)).setSame 4 (.slice none 0 0)).setSame 5 (.slice none 0 0))
    obtain ⟨⟨k0, k1, k2, k3, k4, k5⟩, _⟩ := Box.six (c0 := (.int .i64 1)) (c1 := (.bool false)) (c2 := (.int .i64 0)) (c3 := (.string ⟨#[]⟩)) (c4 := (.slice none 0 0)) (c5 := (.slice none 0 0)) hF
    refine bodyPost_ret (v := .tuple #[.agg #[.int .i64 1, .bool false, .int .i64 0, .string ⟨#[]⟩, .slice none 0 0, .slice none 0 0], .int .i64 2]) (by simp [results, Try.results54, go_sem, k0, k1, k2, k3, k4, k5]) rfl ?_
    exact .inl ⟨2, _, _, _, _, _, _, _, _, _, _, _, _, hDec.out, rfl, ((((((hG3.set hbl (by simp) _).set hbl (by simp) _).set hbl (by simp) _).set hbl (by simp) _).set hbl (by simp) _).set hbl (by simp) _).drew⟩
  · have hDec : Hid (decV (d + 1) (1 :: r) = .inr (V.ofBool y, r2)) := Lib.hid (by rw [decV_bool, ho2])
    clear ho2
    have hV2 := hV.goes hg2 (by omega)
    have hP2 := hP.goes hg2 (by omega)
    have hO2 := hO.goes hg2 (by omega)
    have hG2 := hG.trans hg2
    obtain ⟨⟨a0, a1, a2, a3, a4, a5⟩, b0, b1, b2, b3, b4, b5⟩ := hV2.six
    have hV3 : Box (w2.setCell ⟨w1.heap.size, 1, none⟩ (.bool y)) w1.heap.size 26 #[.int .i64 1, .bool y, .int .i64 0, .string ⟨#[]⟩, .slice none 0 0, .slice none 0 0] := hV2.setSame 1 (.bool y)
    have hP3 := hP2.setFar (p := ⟨w1.heap.size, 1, none⟩) (show w.heap.size ≠ w1.heap.size by omega) (.bool y)
    have hO3 := hO2.setFar (p := ⟨w1.heap.size, 1, none⟩) (show w.heap.size + 1 ≠ w1.heap.size by omega) (.bool y)
    have hG3 := hG2.set hbl (p := ⟨w1.heap.size, 1, none⟩) (show w.heap.size ≤ w1.heap.size by omega) (.bool y)
    clear hV hP hO hG hV2 hP2 hO2 hG2 hg2 hB1 hB2 hg0 hcall
    have hE := err_flip b _ _ hG3.drew.1
    obtain ⟨⟨v0, v1, v2, v3, v4, v5⟩, _⟩ := hV3.six
    obtain ⟨⟨o0, o1, o2, o3, o4, o5⟩, f0, f1, f2, f3, f4, f5⟩ := hO3.six
    have p3 := hP3.cell 0
    simp only [List.getElem?_toArray, List.getElem?_cons_zero] at p3
    go_wp2_with fail
    refine wp_region_still_tail 4 (by kernel_rfl) (by kernel_rfl) ?_
    change wpStill _ _ (World.drew _) (fun a' => wpList _ _ _ _ a' (World.drew _)) _ _
    simp only [List.take_succ_cons, List.take_zero, List.drop_succ_cons, List.drop_zero]
    still_step
    still_step
    still_step
    refine wpStill_step (fun K hK => ?_)
    go_simp
    refine ⟨_, hE, hK _ ?_⟩
    clear hK K
    refine wpStill_nil ?_
    go_wp2
    have hF := ((((((hO3.setSame 0 (.int .i64 1)).setSame 1 (.bool y)).setSame 2 (.int .i64 0)).setSame 3 (.string ⟨#[]⟩)).setSame 4 (.slice none 0 0)).setSame 5 (.slice none 0 0))
    obtain ⟨⟨k0, k1, k2, k3, k4, k5⟩, _⟩ := Box.six (c0 := (.int .i64 1)) (c1 := (.bool y)) (c2 := (.int .i64 0)) (c3 := (.string ⟨#[]⟩)) (c4 := (.slice none 0 0)) (c5 := (.slice none 0 0)) hF
    refine bodyPost_ret (v := .tuple #[.agg #[.int .i64 1, .bool y, .int .i64 0, .string ⟨#[]⟩, .slice none 0 0, .slice none 0 0], .int .i64 0]) (by simp [results, Try.results54, go_sem, k0, k1, k2, k3, k4, k5]) rfl ?_
    exact .inr ⟨V.ofBool y, r2, _, _, hDec.out, rfl, at_plain _ _, ((((((hG3.set hbl (by simp) _).set hbl (by simp) _).set hbl (by simp) _).set hbl (by simp) _).set hbl (by simp) _).set hbl (by simp) _).drew⟩

set_option maxHeartbeats 4000000 in
set_option maxRecDepth 100000 in
theorem value_text (d o : Nat) (hd : o ≤ 31) (b : Nat) (r : L8) (hr : r.length ≤ 5000) (w : World) (h : Rd w b ⟨(3 :: r).toArray⟩ false) :
    Calls Try.prog 54 #[.agg #[.pointer (some ⟨b, 0, none⟩)], .int .i64 o] w (DecP (decV (d + 1) (3 :: r)) b w) := by
  have hbl := h.lt
  have hg0 : Goes w b ⟨(3 :: r).toArray⟩ false ((w.alloc (.cells #[.pointer (some ⟨b, 0, none⟩)] 85)).alloc (.cells #[.int .i64 0, .bool false, .int .i64 0, .string ⟨#[]⟩, .slice none 0 0, .slice none 0 0] 26)) :=
    (Goes.refl h).below (((Below.refl _ w).alloc (Nat.le_refl _) _).alloc (by simp) _)
  have hraw := raw_one b 3 r (by omega) _ hg0.1
  have ho : ((o : Int) == 32) = false := by rw [beq_eq_false_iff_ne]; omega
  have hc0 : ∀ h, ((({ data := #[3] } : ByteArray)[0]'h).toNat : Int) = 3 := fun _ => rfl
  go_enter Try.func54, Try.ntmps54
  go_wp2_with fail
  refine hraw.mono ?_
  rintro e w1 ⟨rfl, hg1⟩
  have hB1 : Box w1 w.heap.size 85 #[.pointer (some ⟨b, 0, none⟩)] := (((Box.new w 85 #[.pointer (some ⟨b, 0, none⟩)]).alloc _).goes hg1 (by omega))
  have hB2 : Box w1 (w.heap.size + 1) 26 #[.int .i64 0, .bool false, .int .i64 0, .string ⟨#[]⟩, .slice none 0 0, .slice none 0 0] := by
    have := Box.new (w.alloc (.cells #[.pointer (some ⟨b, 0, none⟩)] 85)) 26 #[.int .i64 0, .bool false, .int .i64 0, .string ⟨#[]⟩, .slice none 0 0, .slice none 0 0]
    rw [show (w.alloc (.cells #[.pointer (some ⟨b, 0, none⟩)] 85)).heap.size = w.heap.size + 1 by simp] at this
    exact this.goes hg1 (by omega)
  have hz1 : w.heap.size + 2 ≤ w1.heap.size := by
    have := hg1.2.size
    simp at this
    omega
  have hV := Box.new w1 26 #[.int .i64 3, .bool false, .int .i64 0, .string ⟨#[]⟩, .slice none 0 0, .slice none 0 0]
  have hP := hB1.alloc (.cells #[.int .i64 3, .bool false, .int .i64 0, .string ⟨#[]⟩, .slice none 0 0, .slice none 0 0] 26)
  have hO := hB2.alloc (.cells #[.int .i64 3, .bool false, .int .i64 0, .string ⟨#[]⟩, .slice none 0 0, .slice none 0 0] 26)
  have hG := (hg0.trans hg1).alloc (.cells #[.int .i64 3, .bool false, .int .i64 0, .string ⟨#[]⟩, .slice none 0 0, .slice none 0 0] 26)
  have p0 := hP.cell 0
  simp only [List.getElem?_toArray, List.getElem?_cons_zero] at p0
  have hcall := text_read4 b r (by omega) _ hG.1
  clear hraw
  go_wp2_with fail
  refine hcall.mono ?_
  rintro e w2 (⟨ho2, rfl, hg2⟩ | ⟨t, r2, ho2, rfl, hg2⟩)
  · have hDec : Hid (decV (d + 1) (3 :: r) = .inl 2) := Lib.hid (by rw [decV_text, ho2])
    clear ho2
    have hV2 := hV.goes hg2 (by omega)
    have hP2 := hP.goes hg2 (by omega)
    have hO2 := hO.goes hg2 (by omega)
    have hG2 := hG.trans hg2
    obtain ⟨⟨a0, a1, a2, a3, a4, a5⟩, b0, b1, b2, b3, b4, b5⟩ := hV2.six
    have hV3 : Box (w2.setCell ⟨w1.heap.size, 3, none⟩ (.string ⟨#[]⟩)) w1.heap.size 26 #[.int .i64 3, .bool false, .int .i64 0, .string ⟨#[]⟩, .slice none 0 0, .slice none 0 0] := hV2.setSame 3 (.string ⟨#[]⟩)
    have hP3 := hP2.setFar (p := ⟨w1.heap.size, 3, none⟩) (show w.heap.size ≠ w1.heap.size by omega) (.string ⟨#[]⟩)
    have hO3 := hO2.setFar (p := ⟨w1.heap.size, 3, none⟩) (show w.heap.size + 1 ≠ w1.heap.size by omega) (.string ⟨#[]⟩)
    have hG3 := hG2.set hbl (p := ⟨w1.heap.size, 3, none⟩) (show w.heap.size ≤ w1.heap.size by omega) (.string ⟨#[]⟩)
    clear hV hP hO hG hV2 hP2 hO2 hG2 hg2 hB1 hB2 hg0 hcall
    have hE := err_flip' b _ _ hG3.drew.1
    obtain ⟨⟨v0, v1, v2, v3, v4, v5⟩, _⟩ := hV3.six
    obtain ⟨⟨o0, o1, o2, o3, o4, o5⟩, f0, f1, f2, f3, f4, f5⟩ := hO3.six
    have p3 := hP3.cell 0
    simp only [List.getElem?_toArray, List.getElem?_cons_zero] at p3
    go_wp2_with fail
    refine wp_region_still_tail 4 (by kernel_rfl) (by kernel_rfl) ?_
    change wpStill _ _ (World.drew _) (fun a' => wpList _ _ _ _ a' (World.drew _)) _ _
    simp only [List.take_succ_cons, List.take_zero, List.drop_succ_cons, List.drop_zero]
    still_step
    still_step
    still_step
    refine wpStill_step (fun K hK => ?_)
    go_simp
    refine ⟨_, hE, hK _ ?_⟩
    clear hK K
    refine wpStill_nil ?_
    go_wp2
    have hF := ((((((hO3.setSame 0 (.int .i64 3)).setSame 1 (.bool false)).setSame 2 (.int .i64 0)).setSame 3 (.string ⟨#[]⟩)).setSame 4 (.slice none 0 0)).setSame 5 (.slice none 0 0))
    obtain ⟨⟨k0, k1, k2, k3, k4, k5⟩, _⟩ := Box.six (c0 := (.int .i64 3)) (c1 := (.bool false)) (c2 := (.int .i64 0)) (c3 := (.string ⟨#[]⟩)) (c4 := (.slice none 0 0)) (c5 := (.slice none 0 0)) hF
    refine bodyPost_ret (v := .tuple #[.agg #[.int .i64 3, .bool false, .int .i64 0, .string ⟨#[]⟩, .slice none 0 0, .slice none 0 0], .int .i64 2]) (by simp [results, Try.results54, go_sem, k0, k1, k2, k3, k4, k5]) rfl ?_
    exact .inl ⟨2, _, _, _, _, _, _, _, _, _, _, _, _, hDec.out, rfl, ((((((hG3.set hbl (by simp) _).set hbl (by simp) _).set hbl (by simp) _).set hbl (by simp) _).set hbl (by simp) _).set hbl (by simp) _).drew⟩
  · have hDec : Hid (decV (d + 1) (3 :: r) = .inr (V.ofText ⟨t.toArray⟩, r2)) := Lib.hid (by rw [decV_text, ho2])
    clear ho2
    have hV2 := hV.goes hg2 (by omega)
    have hP2 := hP.goes hg2 (by omega)
    have hO2 := hO.goes hg2 (by omega)
    have hG2 := hG.trans hg2
    obtain ⟨⟨a0, a1, a2, a3, a4, a5⟩, b0, b1, b2, b3, b4, b5⟩ := hV2.six
    have hV3 : Box (w2.setCell ⟨w1.heap.size, 3, none⟩ (.string ⟨t.toArray⟩)) w1.heap.size 26 #[.int .i64 3, .bool false, .int .i64 0, .string ⟨t.toArray⟩, .slice none 0 0, .slice none 0 0] := hV2.setSame 3 (.string ⟨t.toArray⟩)
    have hP3 := hP2.setFar (p := ⟨w1.heap.size, 3, none⟩) (show w.heap.size ≠ w1.heap.size by omega) (.string ⟨t.toArray⟩)
    have hO3 := hO2.setFar (p := ⟨w1.heap.size, 3, none⟩) (show w.heap.size + 1 ≠ w1.heap.size by omega) (.string ⟨t.toArray⟩)
    have hG3 := hG2.set hbl (p := ⟨w1.heap.size, 3, none⟩) (show w.heap.size ≤ w1.heap.size by omega) (.string ⟨t.toArray⟩)
    clear hV hP hO hG hV2 hP2 hO2 hG2 hg2 hB1 hB2 hg0 hcall
    have hE := err_flip b _ _ hG3.drew.1
    obtain ⟨⟨v0, v1, v2, v3, v4, v5⟩, _⟩ := hV3.six
    obtain ⟨⟨o0, o1, o2, o3, o4, o5⟩, f0, f1, f2, f3, f4, f5⟩ := hO3.six
    have p3 := hP3.cell 0
    simp only [List.getElem?_toArray, List.getElem?_cons_zero] at p3
    go_wp2_with fail
    refine wp_region_still_tail 4 (by kernel_rfl) (by kernel_rfl) ?_
    change wpStill _ _ (World.drew _) (fun a' => wpList _ _ _ _ a' (World.drew _)) _ _
    simp only [List.take_succ_cons, List.take_zero, List.drop_succ_cons, List.drop_zero]
    still_step
    still_step
    still_step
    refine wpStill_step (fun K hK => ?_)
    go_simp
    refine ⟨_, hE, hK _ ?_⟩
    clear hK K
    refine wpStill_nil ?_
    go_wp2
    have hF := ((((((hO3.setSame 0 (.int .i64 3)).setSame 1 (.bool false)).setSame 2 (.int .i64 0)).setSame 3 (.string ⟨t.toArray⟩)).setSame 4 (.slice none 0 0)).setSame 5 (.slice none 0 0))
    obtain ⟨⟨k0, k1, k2, k3, k4, k5⟩, _⟩ := Box.six (c0 := (.int .i64 3)) (c1 := (.bool false)) (c2 := (.int .i64 0)) (c3 := (.string ⟨t.toArray⟩)) (c4 := (.slice none 0 0)) (c5 := (.slice none 0 0)) hF
    refine bodyPost_ret (v := .tuple #[.agg #[.int .i64 3, .bool false, .int .i64 0, .string ⟨t.toArray⟩, .slice none 0 0, .slice none 0 0], .int .i64 0]) (by simp [results, Try.results54, go_sem, k0, k1, k2, k3, k4, k5]) rfl ?_
    exact .inr ⟨V.ofText ⟨t.toArray⟩, r2, _, _, hDec.out, rfl, at_plain _ _, ((((((hG3.set hbl (by simp) _).set hbl (by simp) _).set hbl (by simp) _).set hbl (by simp) _).set hbl (by simp) _).set hbl (by simp) _).drew⟩

set_option maxHeartbeats 4000000 in
set_option maxRecDepth 100000 in
theorem value_int (d o : Nat) (hd : o ≤ 31) (b : Nat) (r : L8) (hr : r.length ≤ 5000) (w : World) (h : Rd w b ⟨(2 :: r).toArray⟩ false) :
    Calls Try.prog 54 #[.agg #[.pointer (some ⟨b, 0, none⟩)], .int .i64 o] w (DecP (decV (d + 1) (2 :: r)) b w) := by
  have hbl := h.lt
  have hg0 : Goes w b ⟨(2 :: r).toArray⟩ false ((w.alloc (.cells #[.pointer (some ⟨b, 0, none⟩)] 85)).alloc (.cells #[.int .i64 0, .bool false, .int .i64 0, .string ⟨#[]⟩, .slice none 0 0, .slice none 0 0] 26)) :=
    (Goes.refl h).below (((Below.refl _ w).alloc (Nat.le_refl _) _).alloc (by simp) _)
  have hraw := raw_one b 2 r (by omega) _ hg0.1
  have ho : ((o : Int) == 32) = false := by rw [beq_eq_false_iff_ne]; omega
  have hc0 : ∀ h, ((({ data := #[2] } : ByteArray)[0]'h).toNat : Int) = 2 := fun _ => rfl
  go_enter Try.func54, Try.ntmps54
  go_wp2_with fail
  refine hraw.mono ?_
  rintro e w1 ⟨rfl, hg1⟩
  have hB1 : Box w1 w.heap.size 85 #[.pointer (some ⟨b, 0, none⟩)] := (((Box.new w 85 #[.pointer (some ⟨b, 0, none⟩)]).alloc _).goes hg1 (by omega))
  have hB2 : Box w1 (w.heap.size + 1) 26 #[.int .i64 0, .bool false, .int .i64 0, .string ⟨#[]⟩, .slice none 0 0, .slice none 0 0] := by
    have := Box.new (w.alloc (.cells #[.pointer (some ⟨b, 0, none⟩)] 85)) 26 #[.int .i64 0, .bool false, .int .i64 0, .string ⟨#[]⟩, .slice none 0 0, .slice none 0 0]
    rw [show (w.alloc (.cells #[.pointer (some ⟨b, 0, none⟩)] 85)).heap.size = w.heap.size + 1 by simp] at this
    exact this.goes hg1 (by omega)
  have hz1 : w.heap.size + 2 ≤ w1.heap.size := by
    have := hg1.2.size
    simp at this
    omega
  have hV := Box.new w1 26 #[.int .i64 2, .bool false, .int .i64 0, .string ⟨#[]⟩, .slice none 0 0, .slice none 0 0]
  have hP := hB1.alloc (.cells #[.int .i64 2, .bool false, .int .i64 0, .string ⟨#[]⟩, .slice none 0 0, .slice none 0 0] 26)
  have hO := hB2.alloc (.cells #[.int .i64 2, .bool false, .int .i64 0, .string ⟨#[]⟩, .slice none 0 0, .slice none 0 0] 26)
  have hG := (hg0.trans hg1).alloc (.cells #[.int .i64 2, .bool false, .int .i64 0, .string ⟨#[]⟩, .slice none 0 0, .slice none 0 0] 26)
  have p0 := hP.cell 0
  simp only [List.getElem?_toArray, List.getElem?_cons_zero] at p0
  have hcall := number_dec b r _ hG.1
  clear hraw
  go_wp2_with fail
  refine hcall.mono ?_
  rintro e w2 (⟨ho2, ⟨n0, rfl⟩, hg2⟩ | ⟨n, r2, ho2, rfl, hg2⟩)
  · have hDec : Hid (decV (d + 1) (2 :: r) = .inl 2) := Lib.hid (by rw [decV_int, ho2])
    clear ho2
    have hV2 := hV.goes hg2 (by omega)
    have hP2 := hP.goes hg2 (by omega)
    have hO2 := hO.goes hg2 (by omega)
    have hG2 := hG.trans hg2
    obtain ⟨⟨a0, a1, a2, a3, a4, a5⟩, b0, b1, b2, b3, b4, b5⟩ := hV2.six
    have hV3 : Box (w2.setCell ⟨w1.heap.size, 2, none⟩ (.int .i64 n0)) w1.heap.size 26 #[.int .i64 2, .bool false, .int .i64 n0, .string ⟨#[]⟩, .slice none 0 0, .slice none 0 0] := hV2.setSame 2 (.int .i64 n0)
    have hP3 := hP2.setFar (p := ⟨w1.heap.size, 2, none⟩) (show w.heap.size ≠ w1.heap.size by omega) (.int .i64 n0)
    have hO3 := hO2.setFar (p := ⟨w1.heap.size, 2, none⟩) (show w.heap.size + 1 ≠ w1.heap.size by omega) (.int .i64 n0)
    have hG3 := hG2.set hbl (p := ⟨w1.heap.size, 2, none⟩) (show w.heap.size ≤ w1.heap.size by omega) (.int .i64 n0)
    clear hV hP hO hG hV2 hP2 hO2 hG2 hg2 hB1 hB2 hg0 hcall
    have hE := err_flip' b _ _ hG3.drew.1
    obtain ⟨⟨v0, v1, v2, v3, v4, v5⟩, _⟩ := hV3.six
    obtain ⟨⟨o0, o1, o2, o3, o4, o5⟩, f0, f1, f2, f3, f4, f5⟩ := hO3.six
    have p3 := hP3.cell 0
    simp only [List.getElem?_toArray, List.getElem?_cons_zero] at p3
    go_wp2_with fail
    refine wp_region_still_tail 4 (by kernel_rfl) (by kernel_rfl) ?_
    change wpStill _ _ (World.drew _) (fun a' => wpList _ _ _ _ a' (World.drew _)) _ _
    simp only [List.take_succ_cons, List.take_zero, List.drop_succ_cons, List.drop_zero]
    still_step
    still_step
    still_step
    refine wpStill_step (fun K hK => ?_)
    go_simp
    refine ⟨_, hE, hK _ ?_⟩
    clear hK K
    refine wpStill_nil ?_
    go_wp2
    have hF := ((((((hO3.setSame 0 (.int .i64 2)).setSame 1 (.bool false)).setSame 2 (.int .i64 n0)).setSame 3 (.string ⟨#[]⟩)).setSame 4 (.slice none 0 0)).setSame 5 (.slice none 0 0))
    obtain ⟨⟨k0, k1, k2, k3, k4, k5⟩, _⟩ := Box.six (c0 := (.int .i64 2)) (c1 := (.bool false)) (c2 := (.int .i64 n0)) (c3 := (.string ⟨#[]⟩)) (c4 := (.slice none 0 0)) (c5 := (.slice none 0 0)) hF
    refine bodyPost_ret (v := .tuple #[.agg #[.int .i64 2, .bool false, .int .i64 n0, .string ⟨#[]⟩, .slice none 0 0, .slice none 0 0], .int .i64 2]) (by simp [results, Try.results54, go_sem, k0, k1, k2, k3, k4, k5]) rfl ?_
    exact .inl ⟨2, _, _, _, _, _, _, _, _, _, _, _, _, hDec.out, rfl, ((((((hG3.set hbl (by simp) _).set hbl (by simp) _).set hbl (by simp) _).set hbl (by simp) _).set hbl (by simp) _).set hbl (by simp) _).drew⟩
  · have hDec : Hid (decV (d + 1) (2 :: r) = .inr (V.ofInt n, r2)) := Lib.hid (by rw [decV_int, ho2])
    clear ho2
    have hV2 := hV.goes hg2 (by omega)
    have hP2 := hP.goes hg2 (by omega)
    have hO2 := hO.goes hg2 (by omega)
    have hG2 := hG.trans hg2
    obtain ⟨⟨a0, a1, a2, a3, a4, a5⟩, b0, b1, b2, b3, b4, b5⟩ := hV2.six
    have hV3 : Box (w2.setCell ⟨w1.heap.size, 2, none⟩ (.int .i64 n)) w1.heap.size 26 #[.int .i64 2, .bool false, .int .i64 n, .string ⟨#[]⟩, .slice none 0 0, .slice none 0 0] := hV2.setSame 2 (.int .i64 n)
    have hP3 := hP2.setFar (p := ⟨w1.heap.size, 2, none⟩) (show w.heap.size ≠ w1.heap.size by omega) (.int .i64 n)
    have hO3 := hO2.setFar (p := ⟨w1.heap.size, 2, none⟩) (show w.heap.size + 1 ≠ w1.heap.size by omega) (.int .i64 n)
    have hG3 := hG2.set hbl (p := ⟨w1.heap.size, 2, none⟩) (show w.heap.size ≤ w1.heap.size by omega) (.int .i64 n)
    clear hV hP hO hG hV2 hP2 hO2 hG2 hg2 hB1 hB2 hg0 hcall
    have hE := err_flip b _ _ hG3.drew.1
    obtain ⟨⟨v0, v1, v2, v3, v4, v5⟩, _⟩ := hV3.six
    obtain ⟨⟨o0, o1, o2, o3, o4, o5⟩, f0, f1, f2, f3, f4, f5⟩ := hO3.six
    have p3 := hP3.cell 0
    simp only [List.getElem?_toArray, List.getElem?_cons_zero] at p3
    go_wp2_with fail
    refine wp_region_still_tail 4 (by kernel_rfl) (by kernel_rfl) ?_
    change wpStill _ _ (World.drew _) (fun a' => wpList _ _ _ _ a' (World.drew _)) _ _
    simp only [List.take_succ_cons, List.take_zero, List.drop_succ_cons, List.drop_zero]
    still_step
    still_step
    still_step
    refine wpStill_step (fun K hK => ?_)
    go_simp
    refine ⟨_, hE, hK _ ?_⟩
    clear hK K
    refine wpStill_nil ?_
    go_wp2
    have hF := ((((((hO3.setSame 0 (.int .i64 2)).setSame 1 (.bool false)).setSame 2 (.int .i64 n)).setSame 3 (.string ⟨#[]⟩)).setSame 4 (.slice none 0 0)).setSame 5 (.slice none 0 0))
    obtain ⟨⟨k0, k1, k2, k3, k4, k5⟩, _⟩ := Box.six (c0 := (.int .i64 2)) (c1 := (.bool false)) (c2 := (.int .i64 n)) (c3 := (.string ⟨#[]⟩)) (c4 := (.slice none 0 0)) (c5 := (.slice none 0 0)) hF
    refine bodyPost_ret (v := .tuple #[.agg #[.int .i64 2, .bool false, .int .i64 n, .string ⟨#[]⟩, .slice none 0 0, .slice none 0 0], .int .i64 0]) (by simp [results, Try.results54, go_sem, k0, k1, k2, k3, k4, k5]) rfl ?_
    exact .inr ⟨V.ofInt n, r2, _, _, hDec.out, rfl, at_plain _ _, ((((((hG3.set hbl (by simp) _).set hbl (by simp) _).set hbl (by simp) _).set hbl (by simp) _).set hbl (by simp) _).set hbl (by simp) _).drew⟩

set_option maxHeartbeats 4000000 in
set_option maxRecDepth 100000 in
theorem value_empty (d o : Nat) (hd : o ≤ 31) (b : Nat)  (w : World) (h : Rd w b ⟨#[]⟩ false) :
    Calls Try.prog 54 #[.agg #[.pointer (some ⟨b, 0, none⟩)], .int .i64 o] w (DecP (decV (d + 1) []) b w) := by
  have hbl := h.lt
  have hg0 : Goes w b ⟨#[]⟩ false ((w.alloc (.cells #[.pointer (some ⟨b, 0, none⟩)] 85)).alloc (.cells #[.int .i64 0, .bool false, .int .i64 0, .string ⟨#[]⟩, .slice none 0 0, .slice none 0 0] 26)) :=
    (Goes.refl h).below (((Below.refl _ w).alloc (Nat.le_refl _) _).alloc (by simp) _)
  have hraw := raw_few b ⟨#[]⟩ false 1 (by omega) (by decide) _ hg0.1
  have ho : ((o : Int) == 32) = false := by rw [beq_eq_false_iff_ne]; omega
  go_enter Try.func54, Try.ntmps54
  go_wp2_with fail
  refine hraw.mono ?_
  rintro e w1 ⟨rfl, hg1⟩
  have hB1 : Box w1 w.heap.size 85 #[.pointer (some ⟨b, 0, none⟩)] := (((Box.new w 85 #[.pointer (some ⟨b, 0, none⟩)]).alloc _).goes hg1 (by omega))
  have hB2 : Box w1 (w.heap.size + 1) 26 #[.int .i64 0, .bool false, .int .i64 0, .string ⟨#[]⟩, .slice none 0 0, .slice none 0 0] := by
    have := Box.new (w.alloc (.cells #[.pointer (some ⟨b, 0, none⟩)] 85)) 26 #[.int .i64 0, .bool false, .int .i64 0, .string ⟨#[]⟩, .slice none 0 0, .slice none 0 0]
    rw [show (w.alloc (.cells #[.pointer (some ⟨b, 0, none⟩)] 85)).heap.size = w.heap.size + 1 by simp] at this
    exact this.goes hg1 (by omega)
  have hz1 : w.heap.size + 2 ≤ w1.heap.size := by
    have := hg1.2.size
    simp at this
    omega
  have hG1 := hg0.trans hg1
  obtain ⟨⟨o0, o1, o2, o3, o4, o5⟩, f0, f1, f2, f3, f4, f5⟩ := hB2.six
  clear hraw
  go_wp2
  have hF := ((((((hB2.setSame 0 (.int .i64 0)).setSame 1 (.bool false)).setSame 2 (.int .i64 0)).setSame 3 (.string ⟨#[]⟩)).setSame 4 (.slice none 0 0)).setSame 5 (.slice none 0 0))
  obtain ⟨⟨k0, k1, k2, k3, k4, k5⟩, _⟩ := Box.six (c0 := (.int .i64 0)) (c1 := (.bool false)) (c2 := (.int .i64 0)) (c3 := (.string ⟨#[]⟩)) (c4 := (.slice none 0 0)) (c5 := (.slice none 0 0)) hF
  refine bodyPost_ret (v := .tuple #[.agg #[.int .i64 0, .bool false, .int .i64 0, .string ⟨#[]⟩, .slice none 0 0, .slice none 0 0], .int .i64 2]) (by simp [results, Try.results54, go_sem, k0, k1, k2, k3, k4, k5]) rfl ?_
  exact .inl ⟨2, _, _, _, _, _, _, _, _, _, _, _, _, rfl, rfl, ((((((hG1.set hbl (by simp) _).set hbl (by simp) _).set hbl (by simp) _).set hbl (by simp) _).set hbl (by simp) _).set hbl (by simp) _)⟩

set_option maxHeartbeats 4000000 in
set_option maxRecDepth 100000 in
theorem value_other (d o : Nat) (hd : o ≤ 31) (b : Nat) (c : UInt8) (hc5 : 5 < c.toNat) (r : L8) (hr : r.length ≤ 5000) (w : World) (h : Rd w b ⟨(c :: r).toArray⟩ false) :
    Calls Try.prog 54 #[.agg #[.pointer (some ⟨b, 0, none⟩)], .int .i64 o] w (DecP (decV (d + 1) (c :: r)) b w) := by
  have hbl := h.lt
  have hg0 : Goes w b ⟨(c :: r).toArray⟩ false ((w.alloc (.cells #[.pointer (some ⟨b, 0, none⟩)] 85)).alloc (.cells #[.int .i64 0, .bool false, .int .i64 0, .string ⟨#[]⟩, .slice none 0 0, .slice none 0 0] 26)) :=
    (Goes.refl h).below (((Below.refl _ w).alloc (Nat.le_refl _) _).alloc (by simp) _)
  have hraw := raw_one b c r (by omega) _ hg0.1
  have ho : ((o : Int) == 32) = false := by rw [beq_eq_false_iff_ne]; omega
  have hcn : ¬ (c.toNat : Int) ≤ 5 := by omega
  have hcn2 : (5 : Int) < (c.toNat : Int) := by omega
  have hcb0 := c.toNat_lt
  have hcb : (c.toNat : Int) < 256 := by omega
  have hc0 : ∀ h, ((({ data := #[c] } : ByteArray)[0]'h).toNat : Int) = c.toNat := fun _ => rfl
  go_enter Try.func54, Try.ntmps54
  go_wp2_with fail
  refine hraw.mono ?_
  rintro e w1 ⟨rfl, hg1⟩
  have hB1 : Box w1 w.heap.size 85 #[.pointer (some ⟨b, 0, none⟩)] := (((Box.new w 85 #[.pointer (some ⟨b, 0, none⟩)]).alloc _).goes hg1 (by omega))
  have hB2 : Box w1 (w.heap.size + 1) 26 #[.int .i64 0, .bool false, .int .i64 0, .string ⟨#[]⟩, .slice none 0 0, .slice none 0 0] := by
    have := Box.new (w.alloc (.cells #[.pointer (some ⟨b, 0, none⟩)] 85)) 26 #[.int .i64 0, .bool false, .int .i64 0, .string ⟨#[]⟩, .slice none 0 0, .slice none 0 0]
    rw [show (w.alloc (.cells #[.pointer (some ⟨b, 0, none⟩)] 85)).heap.size = w.heap.size + 1 by simp] at this
    exact this.goes hg1 (by omega)
  have hz1 : w.heap.size + 2 ≤ w1.heap.size := by
    have := hg1.2.size
    simp at this
    omega
  have hG1 := hg0.trans hg1
  obtain ⟨⟨o0, o1, o2, o3, o4, o5⟩, f0, f1, f2, f3, f4, f5⟩ := hB2.six
  clear hraw
  go_wp2
  have hF := ((((((hB2.setSame 0 (.int .i64 0)).setSame 1 (.bool false)).setSame 2 (.int .i64 0)).setSame 3 (.string ⟨#[]⟩)).setSame 4 (.slice none 0 0)).setSame 5 (.slice none 0 0))
  obtain ⟨⟨k0, k1, k2, k3, k4, k5⟩, _⟩ := Box.six (c0 := (.int .i64 0)) (c1 := (.bool false)) (c2 := (.int .i64 0)) (c3 := (.string ⟨#[]⟩)) (c4 := (.slice none 0 0)) (c5 := (.slice none 0 0)) hF
  refine bodyPost_ret (v := .tuple #[.agg #[.int .i64 0, .bool false, .int .i64 0, .string ⟨#[]⟩, .slice none 0 0, .slice none 0 0], .int .i64 2]) (by simp [results, Try.results54, go_sem, k0, k1, k2, k3, k4, k5]) rfl ?_
  exact .inl ⟨2, _, _, _, _, _, _, _, _, _, _, _, _, decV_other d c r hc5, rfl, ((((((hG1.set hbl (by simp) _).set hbl (by simp) _).set hbl (by simp) _).set hbl (by simp) _).set hbl (by simp) _).set hbl (by simp) _)⟩

end Go.Proofs.Ytacphlceggbfcaa
