/-
  store.Since: the commits behind one.
-/
import Derived.Test.YtcebnoapgceodaaStLs
namespace Go.Proofs.Ytcebnoapgceodaa.sT
open Go.RowKit Go.Proofs.Ytcebnoapgceodaa.tC

set_option linter.unusedVariables false
set_option linter.unusedSimpArgs false

/-- what Since answers -/
def SinceP (W : World) (M : StM) (seq : Int) (e : Ending) (W' : World) : Prop := Below W.heap.size W W' ∧
  ((seq < (M.low : Int) ∧ e = .returned (.tuple #[.slice none 0 0, .int .i64 12])) ∨ ((M.low : Int) ≤ seq ∧ (M.last : Int) < seq ∧ e = .returned (.tuple #[.slice none 0 0, .int .i64 13])) ∨
    ∃ k : Nat, seq = ((M.low + k : Nat) : Int) ∧ k ≤ M.cms.length ∧ ∃ a c, e = .returned (.tuple #[.slice a (M.cms.length - k) c, .int .i64 0]) ∧ CmsOwn W.heap.size W' (.slice a (M.cms.length - k) c) (M.cms.drop k))

theorem cm_make (n : Nat) (hn : n ≤ 1000000) :
    ∃ arr : Array Value, arr.size = n * 3 ∧ ∀ w, (Instr.makeSlice 27 (.int .i64 (n : Int)) (.int .i64 (n : Int))).run Try.prog w = .ok (.slice (some ⟨w.heap.size, 0, none⟩) n n) (w.alloc (.cells arr 45)) := by
  obtain ⟨i, hi, hz, hi1, hi2⟩ := info_parts infoCm
  refine ⟨madeCells (Value.agg #[.int .i64 0, .int .i64 0, .slice none 0 0]).cells (n * 3), by rw [size_madeCells], fun w => ?_⟩
  have h2 : i.bytes * n ≤ 200 * 1000000 := by rw [hi2]; omega
  have h := run_makeSlice (P := Try.prog) w 27 45 i _ Try.underlying27 hi hz .i64 .i64 (n : Int) (n : Int) (by omega) (Int.le_refl _) (by rw [hi1]; simp only [Int.toNat_natCast]; omega) (by rw [← Int.natCast_mul]; omega) (by omega)
  rw [hi1] at h
  simpa using h

/-- z commits copied -/
def SiI (W : World) (g n : Nat) (cs : List CmM) (z : Nat) (wr : World) : Prop := Below W.heap.size W wr ∧ W.heap.size ≤ g ∧ ∃ arr wvs, Box wr g 45 arr ∧ arr.size = n * 3 ∧ (∀ q, q < z * 3 → arr[q]? = (cmrow wvs (cs.take z))[q]?) ∧ CmsAt (fun q => W.heap.size ≤ q) wr wvs (cs.take z)

theorem si_step {W wr : World} {g n : Nat} {cs : List CmM} {z : Nat} (h : SiI W g n cs z wr) (hn : cs.length = n) (hz : z < cs.length) {w2 : World} {va : Option Addr} {vc : Nat} (hb : Below wr.heap.size wr w2) (hw : RowK 48 3 wr.heap.size w2 (.slice va (cs[z]).ws.length vc) (cs[z]).ws.length ((cs[z]).ws.flatMap wrcells)) :
    SiI W g n cs (z + 1) (sets w2 g (z * 3) [.int .i64 (cs[z]).seq, .int .i64 (cs[z]).at_, .slice va (cs[z]).ws.length vc]) := by
  obtain ⟨h1, h2, arr, wvs, h3, h4, h5, h6⟩ := h
  have hz1 := h1.size
  have hbx : Box w2 g 45 arr := (hb.block g h3.lt).trans h3
  have hlen := h6.len
  rw [List.length_take, Nat.min_eq_left (by omega)] at hlen
  have hfar : ∀ q, (∃ a2, Box w2 q 48 a2) → (sets w2 g (z * 3) [.int .i64 (cs[z]).seq, .int .i64 (cs[z]).at_, .slice va (cs[z]).ws.length vc]).heap[q]? = w2.heap[q]? := fun q hq => sets_far _ _ _ _ fun e => by
    obtain ⟨a2, hq⟩ := hq
    exact box_ne hq hbx (by decide) e
  refine ⟨Below.sets _ _ (h1.trans (hb.mono hz1)) h2, h2, _, wvs ++ [.slice va (cs[z]).ws.length vc], hbx.sets _ _, by rw [aset_size, h4], fun q hq => ?_, ?_⟩
  · rw [List.take_succ_eq_append_getElem hz, cmrow_app _ _ _ _ (by rw [List.length_take, Nat.min_eq_left (by omega), hlen])]
    have hcl : (cmrow wvs (cs.take z)).length = z * 3 := by rw [cmrow_len _ _ (by rw [List.length_take, Nat.min_eq_left (by omega), hlen]), List.length_take, Nat.min_eq_left (by omega)]
    by_cases hq2 : q < z * 3
    · rw [aset_far _ _ _ _ (.inl hq2), List.getElem?_append_left (by omega)]
      exact h5 q hq2
    · rw [List.getElem?_append_right (by omega), hcl]
      have hq3 : q - z * 3 < 3 := by omega
      have := aset_get [.int .i64 (cs[z]).seq, .int .i64 (cs[z]).at_, .slice va (cs[z]).ws.length vc] arr (z * 3) (by rw [h4]; simp; omega) (q - z * 3) _ (List.getElem?_eq_getElem (by simpa using hq3))
      rw [show z * 3 + (q - z * 3) = q by omega] at this
      rw [this, List.getElem?_eq_getElem (by simpa using hq3)]
  · rw [List.take_succ_eq_append_getElem hz]
    refine CmsAt.append ⟨hw.keep fun q hq => ⟨hfar q (rowk_box hw hq), Nat.zero_le _⟩, fun q hq => Nat.le_trans hz1 (hw.lt q hq).1⟩ ?_
    have lt : ∀ {l : List Value} {cs : List CmM}, CmsAt (fun q => W.heap.size ≤ q) wr l cs → CmsAt (fun q => W.heap.size ≤ q ∧ q < wr.heap.size) wr l cs := fun {l cs} => by
      induction l generalizing cs with
      | nil => cases cs with
        | nil => exact fun _ => trivial
        | cons _ _ => exact fun h => h.elim
      | cons v r ih => cases cs with
        | nil => exact fun h => h.elim
        | cons c q => exact fun ⟨h1, h2⟩ => ⟨⟨h1.1, fun b hb => ⟨h1.2 b hb, (h1.1.lt b hb).2⟩⟩, ih h2⟩
    refine (lt h6).keepB fun q hq hbq => ⟨?_, hq.1⟩
    have e1 := hb.block q hq.2
    obtain ⟨a2, h9⟩ := hbq
    exact (hfar q ⟨a2, e1.trans h9⟩).trans e1

set_option maxHeartbeats 1000000 in
set_option maxRecDepth 100000 in
theorem since_any {P : Nat → Prop} {W : World} {s : Nat} {M : StM} (h0 : StoreAt P W s M) {N : Nat} (hg : SG M N) (hN : N ≤ 900000) (seq : Int) :
    Calls Try.prog 63 #[.pointer (some ⟨s, 0, none⟩), .int .i64 seq] W (SinceP W M seq) := by
  have hL : Calls Try.prog 17 #[.pointer (some ⟨s, 0, none⟩)] W fun e w' => e = .returned (.int .i64 M.low) ∧ W = w' := low_any h0
  have HLA : Hid (∀ w', Below W.heap.size W w' → Calls Try.prog 18 #[.pointer (some ⟨s, 0, none⟩)] w' fun e w2 => e = .returned (.int .i64 M.last) ∧ Hid (Below W.heap.size W w2)) := Lib.hid fun w' hb => by
    refine (stLast_any (h0.below hb)).mono ?_
    rintro e w2 ⟨rfl, hb2⟩
    exact ⟨rfl, Lib.hid (hb.trans (hb2.mono hb.size))⟩
  have hsz : M.low + M.cms.length ≤ 1099511627776 := by obtain ⟨cv, wvs, ls, BT, BC, BM, h⟩ := h0; exact h.sz
  have hlast : M.last = M.low + M.cms.length := rfl
  have hcl : M.cms.length ≤ 900000 := by have := hg.cms; omega
  have HWS : Hid ((allW M.cms).length ≤ 900000) := Lib.hid (by have := hg.ws; omega)
  have HST : Hid (∀ w', Below W.heap.size W w' → ∃ ca cc, w'.cell? ⟨s, 0, none⟩ = some (.int .i64 M.low) ∧ w'.cell? ⟨s, 1, none⟩ = some (.slice ca M.cms.length cc) ∧ M.cms.length ≤ cc ∧ CIs w' ca M.cms ∧ s < w'.heap.size) := Lib.hid fun w' hb => by
    obtain ⟨cv, wvs, ls, BT, BC, BM, h⟩ := h0.below hb
    obtain ⟨r0, ⟨ca, cc, rfl, h2, h3⟩, r1⟩ := h.reads
    exact ⟨ca, cc, r0, r1, h2, cms_is h.cm h.ws, (h.bt s h.tree.1).2⟩
  by_cases h1 : seq < (M.low : Int)
  · have HF : Hid (SinceP W M seq (.returned (.tuple #[.slice none 0 0, .int .i64 12])) W) := Lib.hid ⟨Below.refl _ _, .inl ⟨h1, rfl⟩⟩
    obtain ⟨Q, hQ⟩ : ∃ Q, Q = SinceP W M seq := ⟨_, rfl⟩
    rw [← hQ] at HF ⊢
    clear hQ h0 hg HST HLA
    go_enter Try.func63, Try.ntmps63
    go_wp2_with fail
    refine hL.mono ?_
    rintro e w1 ⟨rfl, rfl⟩
    go_wp2
    first | exact HF.out | (refine bodyPost_ret (v := .tuple #[.slice none 0 0, .int .i64 12]) (by simp [results, Try.results63, go_sem]) rfl HF.out)
  · by_cases h2 : (M.last : Int) < seq
    · have HF : Hid (∀ w', Below W.heap.size W w' → SinceP W M seq (.returned (.tuple #[.slice none 0 0, .int .i64 13])) w') := Lib.hid fun w' hb => ⟨hb, .inr (.inl ⟨by omega, h2, rfl⟩)⟩
      obtain ⟨Q, hQ⟩ : ∃ Q, Q = SinceP W M seq := ⟨_, rfl⟩
      obtain ⟨la, hla⟩ : ∃ la, la = M.last := ⟨_, rfl⟩
      rw [← hla] at HLA h2
      rw [← hQ] at HF ⊢
      clear hQ h0 hg HST hlast hla
      go_enter Try.func63, Try.ntmps63
      go_wp2_with fail
      refine hL.mono ?_
      rintro e w1 ⟨rfl, rfl⟩
      go_wp2_with fail
      refine (HLA.out _ (Below.refl _ _)).mono ?_
      rintro e w1 ⟨rfl, hb⟩
      have HF2 := Lib.hid (HF.out w1 hb.out)
      clear hb HF
      go_wp2
      first | exact HF2.out | (refine bodyPost_ret (v := .tuple #[.slice none 0 0, .int .i64 13]) (by simp [results, Try.results63, go_sem]) rfl HF2.out)
    · obtain ⟨k, hk, hkl⟩ : ∃ k : Nat, seq = ((M.low + k : Nat) : Int) ∧ k ≤ M.cms.length := ⟨seq.toNat - M.low, by omega, by omega⟩
      obtain ⟨cs, hcs⟩ : ∃ cs, cs = M.cms.drop k := ⟨_, rfl⟩
      have hcsl : cs.length = M.cms.length - k := by rw [hcs, List.length_drop]
      obtain ⟨arr, harr, hmk⟩ := cm_make cs.length (by omega)
      have HF : Hid (∀ w' g, SiI W g cs.length cs cs.length w' → SinceP W M seq (.returned (.tuple #[.slice (some ⟨g, 0, none⟩) cs.length cs.length, .int .i64 0])) w') := Lib.hid fun w' g hS => by
        obtain ⟨k1, k2, arr, wvs, k3, k4, k5, k6⟩ := hS
        rw [List.take_length] at k5 k6
        refine ⟨k1, .inr (.inr ⟨k, hk, hkl, some ⟨g, 0, none⟩, cs.length, by rw [hcsl], ?_⟩)⟩
        rw [← hcsl, ← hcs]
        have hcl2 := cmrow_len wvs cs k6.len
        refine ⟨wvs, RowK.mk k3 k4 k2 (Nat.le_refl _) (by unfold maxLen; omega) hcl2 k5 (fun u hu => ?_), k6⟩
        have hone : ∀ (l : List Value) (cs : List CmM), CmsAt (fun q => W.heap.size ≤ q) w' l cs → ∀ u ∈ cmrow l cs, u.oneCell' = true := fun l => by
          induction l with
          | nil => intro cs h u hu; cases cs <;> simp [cmrow] at hu
          | cons v r ih => intro cs h u hu; cases cs with
            | nil => simp [cmrow] at hu
            | cons c q =>
              obtain ⟨⟨a1, c1, e1, _⟩, _⟩ := And.intro h.1.1.form trivial
              simp only [cmrow, List.mem_append] at hu
              rcases hu with hu | hu
              · simp at hu
                rcases hu with rfl | rfl | rfl
                · rfl
                · rfl
                · rw [e1]; rfl
              · exact ih q h.2 u hu
        exact hone wvs cs k6 u hu
      have HLB : Hid (∀ w', Below W.heap.size W w' → SiI W w'.heap.size cs.length cs 0 (w'.alloc (.cells arr 45))) := Lib.hid fun w' hb => ⟨hb.alloc hb.size _, hb.size, arr, [], Box.new w' _ arr, harr, fun q hq => by omega, by simp [CmsAt]⟩
      have hw5 : IntKind.i64.wrap ((M.last : Int) - seq) = (cs.length : Int) := by rw [IntKind.wrap_i64]; omega
      have hw6 : IntKind.i64.wrap (seq - (M.low : Int)) = (k : Int) := by rw [IntKind.wrap_i64]; omega
      have hcsl2 : cs.length + k = M.cms.length := by omega
      have HEL : Hid (∀ z (h : z < cs.length), ∃ h2 : k + z < M.cms.length, M.cms[k + z] = cs[z]) := Lib.hid fun z h => ⟨by omega, by simp [hcs]⟩
      obtain ⟨Q, hQ⟩ : ∃ Q, Q = SinceP W M seq := ⟨_, rfl⟩
      obtain ⟨la, hla⟩ : ∃ la, la = M.last := ⟨_, rfl⟩
      rw [← hla] at HLA h2 hw5
      rw [← hQ] at HF ⊢
      clear hQ h0 hg hlast hla hcs hcsl harr hk hkl
      go_enter Try.func63, Try.ntmps63
      go_wp2_with fail
      refine hL.mono ?_
      rintro e w1 ⟨rfl, rfl⟩
      go_wp2_with fail
      refine (HLA.out _ (Below.refl _ _)).mono ?_
      rintro e w1 ⟨rfl, hb1⟩
      go_wp2_with fail
      refine (HLA.out _ hb1.out).mono ?_
      rintro e w2 ⟨rfl, hb2⟩
      have H0 := Lib.hid (HLB.out w2 hb2.out)
      clear hb1 hb2 HLB HLA
      go_wp2_with fail
      obtain ⟨g, hge⟩ : ∃ g, g = w2.heap.size := ⟨_, rfl⟩
      rw [← hge] at H0 ⊢
      clear hge hmk
      go_loopw [23] (fun iv wr => ∃ z : Nat, z ≤ cs.length ∧ iv = .int .i64 (z : Int) ∧ Hid (SiI W g cs.length cs z wr)) (fun iv _ => cs.length - (intOf iv).toNat)
      case atStart => exact ⟨0, Nat.zero_le _, rfl, H0⟩
      case round =>
        obtain ⟨z, hz, rfl, hst⟩ := hrel
        clear H0
        by_cases hzl : z < cs.length
        · have hzI : (z : Int) < (cs.length : Int) := by omega
          obtain ⟨ca, cc, r0, r1, rc, hci, hslt⟩ := HST.out wr hst.out.1
          obtain ⟨hkz, he⟩ := HEL.out z hzl
          rcases hci with hci | ⟨b2, off2, ea, hblt2, hv⟩
          · rw [hci] at hkz; simp at hkz
          subst ea
          obtain ⟨m0, m1, wa, wc, m2, hws⟩ := hv (k + z) hkz
          rw [he] at m0 m1 m2 hws
          have hzk : (k : Int) + (z : Int) < (M.cms.length : Int) := by omega
          have hw7 : IntKind.i64.wrap ((k : Int) + (z : Int)) = (k : Int) + (z : Int) := by rw [IntKind.wrap_i64]; omega
          have hcsz : (cs[z]).ws.length ≤ 900000 := by
            have h5 : ∀ (l : List CmM) c, c ∈ l → c.ws.length ≤ (allW l).length := fun l c hc => by
              obtain ⟨l1, l2, rfl⟩ := List.append_of_mem hc
              unfold allW
              simp
              omega
            have h6 := h5 M.cms _ (List.getElem_mem hkz)
            rw [he] at h6
            have := HWS.out
            omega
          have hgw := hst.out
          obtain ⟨x, hx⟩ : ∃ x, x = cs[z] := ⟨_, rfl⟩
          have HSS : Hid (∀ (w2 : World) (va : Option Addr) (vc : Nat), Below wr.heap.size wr w2 → RowK 48 3 wr.heap.size w2 (.slice va x.ws.length vc) x.ws.length (x.ws.flatMap wrcells) → SiI W g cs.length cs (z + 1) (sets w2 g (z * 3) [.int .i64 x.seq, .int .i64 x.at_, .slice va x.ws.length vc])) := Lib.hid fun w2 va vc hb hw => by
            subst hx
            exact si_step hgw rfl hzl hb hw
          rw [← hx] at m0 m1 m2 hws hcsz
          obtain ⟨sq, at_, ws⟩ := x
          simp only at m0 m1 m2 hws hcsz HSS
          have HC : Hid (Calls Try.prog 97 #[.agg #[.int .i64 sq, .int .i64 at_, .slice wa ws.length wc]] wr.drew fun e w2 => ∃ va vc, e = .returned (.agg #[.int .i64 sq, .int .i64 at_, .slice va ws.length vc]) ∧ w2.cell? ⟨s, 0, none⟩ = some (.int .i64 M.low) ∧ w2.cell? ⟨s, 1, none⟩ = some (.slice (some ⟨b2, off2, none⟩) M.cms.length cc) ∧
              ((∃ x0, w2.cell? ⟨g, z * 3, none⟩ = some x0) ∧ (∃ x1, w2.cell? ⟨g, z * 3 + 1, none⟩ = some x1) ∧ (∃ x2, w2.cell? ⟨g, z * 3 + 2, none⟩ = some x2)) ∧ (∀ i, w2.frozen? ⟨g, i, none⟩ = false) ∧ Hid (SiI W g cs.length cs (z + 1) (sets w2 g (z * 3) [.int .i64 sq, .int .i64 at_, .slice va ws.length vc]))) := Lib.hid (by
            have hbd : Below wr.heap.size wr wr.drew := (Below.refl _ _).drew
            refine (cclone_any (cap := wc) sq at_ (hws.below hbd) rfl (by omega)).mono ?_
            rintro e w2 ⟨va, vc, rfl, hrow, hb⟩
            have hb2 : Below wr.heap.size wr w2 := hbd.trans hb
            obtain ⟨_, _, arr, wvs, k3, k4, _, _⟩ := hgw
            have hbx : Box w2 g 45 arr := (hb2.block g k3.lt).trans k3
            refine ⟨va, vc, rfl, (hb2.cell (p := ⟨s, 0, none⟩) hslt).trans r0, (hb2.cell (p := ⟨s, 1, none⟩) hslt).trans r1, ⟨⟨_, by rw [hbx.cell, Array.getElem?_eq_getElem (by omega)]⟩, ⟨_, by rw [hbx.cell, Array.getElem?_eq_getElem (by omega)]⟩, ⟨_, by rw [hbx.cell, Array.getElem?_eq_getElem (by omega)]⟩⟩, fun i => hbx.free i, Lib.hid (HSS.out w2 va vc hb2 hrow)⟩)
          clear hx hws hst hv he hgw HSS hcsz hblt2 hslt
          go_wp2_with fail
          go_region_with (first
            | (go_at_call 97; refine HC.out.mono ?_; rintro e w2 ⟨va, vc, rfl, y0, y1, ⟨⟨x0, e0⟩, ⟨x1, e1⟩, ⟨x2, e2⟩⟩, hfz, HN⟩; have g0 := hfz (z * 3); have g1 := hfz (z * 3 + 1); have g2 := hfz (z * 3 + 2)))
          all_goals
            have HN2 : Hid (SiI W g cs.length cs (z + 1) (((w2.setCell ⟨g, z * 3, none⟩ (.int .i64 sq)).setCell ⟨g, z * 3 + 1, none⟩ (.int .i64 at_)).setCell ⟨g, z * 3 + 2, none⟩ (.slice va ws.length vc))) := HN
            clear HN HC hfz
            go_wp2_with fail
            go_roundw
            case rel => exact ⟨z + 1, by omega, by go_num, HN2⟩
            case measure => simp [intOf]; omega
        · obtain rfl : z = cs.length := by omega
          have hzI : ¬ (cs.length : Int) < (cs.length : Int) := by omega
          have HF2 := Lib.hid (HF.out wr g hst.out)
          clear hst hzl hz HF
          go_wp2
          first | exact HF2.out | (refine bodyPost_ret (v := .tuple #[.slice (some ⟨g, 0, none⟩) cs.length cs.length, .int .i64 0]) (by simp [results, Try.results63, go_sem]) rfl HF2.out)

end Go.Proofs.Ytcebnoapgceodaa.sT
