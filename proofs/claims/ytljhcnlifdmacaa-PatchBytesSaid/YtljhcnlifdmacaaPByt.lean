/-
  The walk of mailbaglaw08.PatchBytes.
-/
import Derived.Test.YtljhcnlifdmacaaPCode
import Derived.Test.YtljhcnlifdmacaaPSml
import Derived.Test.YtljhcnlifdmacaaVArg
import Derived.Test.YtljhcnlifdmacaaOrder
import Derived.Deep.CutRange
import Derived.Deep.RegionHeld3
namespace Go.Proofs.Ytljhcnlifdmacaa
open Go.ChangeShapes Go.WideShapes Go.ChangeAt Go.RowKit Go.Deep Go.Joins

/-- What a walk is told of a slice of operations that came in. -/
def OpsCame (W : World) (a : Option Addr) (len cap : Nat) (os : List PO) : Prop := os.length = len ∧ (len ≤ cap ∧ len ≤ 9223372036854775807) ∧ OpsAt W All a os ∧ ∀ o ∈ os, o.val.n64

set_option maxRecDepth 100000 in
theorem ops_arg {H : Type} {enc : TypeId × Value → H} {W : World} {a : Option Addr} {len cap : Nat} {base : Nat} {held : Bool} {d : DataW H} {ps : List MemPlace}
    (h : DataW.Trod enc Try.prog W base (fun _ => true) held 39 (.slice a len cap) d ps) : ∃ os, OpsCame W a len cap os := by
  obtain ⟨fuel, hf⟩ := h
  match fuel, hf with
  | 0, hf => simp [DataW.trod] at hf
  | m + 1, hf =>
    obtain ⟨a', len', c', e5, hl', hm', hA'⟩ := slice_came Try.underlying39 8 cellsOp (by decide) hf
    have e5 : Value.slice a len cap = .slice a' len' c' := by simpa [Value.cells] using e5
    obtain ⟨rfl, rfl, rfl⟩ : a = a' ∧ len = len' ∧ cap = c' := by injection e5 with h1 h2 h3; exact ⟨h1, h2, h3⟩
    have hmx : len ≤ cap ∧ len ≤ 9223372036854775807 := ⟨hl', by unfold maxLen at hm'; omega⟩
    rcases hA' with rfl | ⟨b, off, ea, hb, hel⟩
    · exact ⟨[], rfl, hmx, .inl rfl, fun o ho => by cases ho⟩
    · obtain ⟨l, hll, hp⟩ := choose_lists (p := fun i (o : PO) => OpAt W All b (off + i * 8) o ∧ o.val.n64) len fun i hi => by
        obtain ⟨cs', z, g1, g2⟩ := hel i hi
        obtain ⟨o, pa, pc, oa, oc, ob, od, hc, hcame⟩ := op_of g2
        rw [hc] at g1
        exact ⟨o, ⟨pa, pc, oa, oc, ob, od, g1, hcame.1, hcame.2.1, hcame.2.2.1⟩, hcame.2.2.2⟩
      subst hll
      exact ⟨l, rfl, hmx, .inr ⟨b, off, ea, hb, fun i hi => (hp i hi).1⟩, fun o ho => by
        obtain ⟨i, hi, rfl⟩ := List.getElem_of_mem ho
        exact (hp i hi).2⟩

end Go.Proofs.Ytljhcnlifdmacaa

namespace Go.Proofs.Ytljhcnlifdmacaa.patchBytes
open Go.RowKit

theorem sm_of {ops : List PO} (hn : ∀ o ∈ ops, o.val.n64) (hf : fewOs ops = true) : ops.length ≤ 60 ∧ ∀ o ∈ ops, SmO o ∧ ∀ s ∈ o.path, s.size ≤ 40 := by
  unfold fewOs at hf
  rw [Bool.and_eq_true] at hf
  refine ⟨of_decide_eq_true hf.2, fun o ho => ?_⟩
  have h1 := List.all_eq_true.1 hf.1 o ho
  unfold fewO fewP at h1
  simp only [Bool.and_eq_true, List.all_eq_true, decide_eq_true_eq] at h1
  exact ⟨⟨fun hr => fit_of_few o.val.dep o.val 0 32 (Nat.le_refl _) h1.2.1 hr (hn o ho), fun s hs => by have := h1.2.2 s hs; omega⟩, h1.2.2⟩

theorem check_no {ops : List PO} (h50 : ops.length ≤ 50) (h : ops.all rightO = false) : checkV ops = 1 := by
  unfold checkV
  rw [if_neg (by omega), if_neg (by rw [h]; simp)]
theorem check_long {ops : List PO} (h50 : ¬ ops.length ≤ 50) : checkV ops = 4 := by
  unfold checkV
  rw [if_pos (by omega)]
theorem check_yes {ops : List PO} (h50 : ops.length ≤ 50) (h : ops.all rightO = true) : checkV ops = 0 := by
  unfold checkV
  rw [if_neg (by omega), if_pos h]

set_option maxHeartbeats 8000000 in
set_option maxRecDepth 100000 in
theorem walk {w : World} (a : Option Addr) (len cap : Nat) (h : ∃ os, OpsCame w a len cap os) (cut : Int) (_w1 : (Lit.int .i64 cut).wf = true) :
    Calls Try.prog 5 #[.slice a len cap, .int .i64 cut] w fun e w' => e = .returned (.bool true) ∧ Below w.heap.size w w' := by
  obtain ⟨ops, rfl, hlen, hops, hn64⟩ := h
  have H0 := Lib.hid (And.intro hops hn64)
  clear hops hn64
  go_enter Try.func5, Try.ntmps5
  go_wp2_with fail
  refine (head8_any _).mono ?_
  rintro e w1 ⟨rfl, hb1⟩
  have hfew := pfew_any ops a cap w1 (H0.out.1.below hb1) hlen.2
  obtain ⟨fw, hfw⟩ : ∃ f, f = fewOs ops := ⟨_, rfl⟩
  rw [← hfw] at hfew
  have HFEW := Lib.hid hfew
  have HB1 := Lib.hid (And.intro hb1 hfw)
  clear hb1 hfew hfw
  go_wp2_with fail
  refine HFEW.out.mono ?_
  rintro e w2 ⟨rfl, hb2⟩
  have HB2 := Lib.hid (HB1.out.1.trans (hb2.mono HB1.out.1.size))
  clear hb2 HFEW
  cases fw with
  | false =>
    go_wp2
    go_ret
    exact ⟨rfl, HB2.out⟩
  | true =>
    obtain ⟨hl60, hsm⟩ := sm_of H0.out.2 HB1.out.2.symm
    have HSM := Lib.hid hsm
    obtain ⟨D, hD⟩ : ∃ D, D = decide ((ops.length : Int) ≤ 50) := ⟨_, rfl⟩
    clear hsm HB1
    go_wp2_with fail
    go_loopw [5, 28] (fun g i wr => ∃ k : Nat, k ≤ ops.length ∧ i = .int .i64 k ∧ g = .bool (D && (ops.take k).all rightO) ∧ Hid (Below w.heap.size w wr)) (fun _ i _ => ops.length - (intOf i).toNat)
    case atStart => exact ⟨0, Nat.zero_le _, rfl, by rw [hD, List.take_zero]; simp, HB2⟩
    case round =>
      clear HB2
      obtain ⟨k, hk, rfl, hg, HR⟩ := hrel
      by_cases hlt : k < ops.length
      · obtain ⟨bb, off, rfl, hbb, hat⟩ := (H0.out.1.below HR.out).resolve_left (by intro e; rw [e] at hlt; simp at hlt)
        obtain ⟨pa, pc, oa, oc, ob, od, hin, hpl, hpt, hval⟩ := hat k hlt
        have hkl : (k : Int) < (ops.length : Int) := by omega
        have hnx : (ops.take (k + 1)).all rightO = ((ops.take k).all rightO && rightO ops[k]) := by
          rw [List.take_succ_eq_append_getElem hlt, List.all_append]
          simp
        obtain ⟨o, ho⟩ : ∃ o, o = ops[k] := ⟨_, rfl⟩
        rw [← ho] at hin hpl hpt hval hnx
        obtain ⟨p0, p1, p2, p3, p4, p5, p6, p7⟩ := hin.eight
        have hA : Below wr.heap.size wr (wr.alloc (.cells #[.int .i64 o.kind, .slice pa o.path.length pc, .int .i64 o.val.kind, .bool o.val.yes, .int .i64 o.val.num, .string o.val.text, .slice oa o.val.list.length oc, .slice ob o.val.fields.length od] 50)) := (Below.refl _ wr).alloc (Nat.le_refl _) _
        have hlr := lr_any o.kind o.path o.val pa pc oa oc ob od _ (V.At.below hval hA) (Nat.le_trans hpl.1 hpl.2)
        rw [show rightO ⟨o.kind, o.path, o.val⟩ = rightO o from rfl] at hlr
        obtain ⟨q, hq⟩ : ∃ q, q = (D && (ops.take k).all rightO) := ⟨_, rfl⟩
        have hnx2 : (D && (ops.take (k + 1)).all rightO) = (q && rightO o) := by rw [hnx, hq, Bool.and_assoc]
        rw [← hq] at hg
        subst hg
        have HLR := Lib.hid hlr
        have HN := Lib.hid hnx2
        have HB := Lib.hid (HR.out.trans (hA.mono HR.out.size))
        have HLT := Lib.hid hlt
        clear hin hpl hpt hval hnx ho hA hlr hq hnx2 hat hbb hlt HR
        cases q with
        | false =>
          go_wp2
          go_roundw
          case rel => exact ⟨k + 1, HLT.out, by have := HLT.out; go_num, by rw [HN.out]; rfl, HB⟩
          case measure => have := HLT.out; simp [intOf]; omega
        | true =>
          go_wp2_with fail
          refine HLR.out.mono ?_
          rintro e w4 ⟨rfl, hb4⟩
          have HB4 := Lib.hid (HB.out.trans (hb4.mono HB.out.size))
          clear hb4 HLR
          go_wp2_with fail
          go_roundw
          case rel => exact ⟨k + 1, HLT.out, by have := HLT.out; go_num, by rw [HN.out]; rfl, HB4⟩
          case measure => have := HLT.out; simp [intOf]; omega
      · obtain rfl : k = ops.length := by omega
        have hge : ¬ (ops.length : Int) < (ops.length : Int) := by omega
        rw [List.take_of_length_le (Nat.le_refl _)] at hg
        obtain ⟨G, hG⟩ : ∃ G, G = (D && ops.all rightO) := ⟨_, rfl⟩
        rw [← hG] at hg
        subst hg
        have henc := encode_any ops a cap wr (H0.out.1.below HR.out) (by omega) (fun o ho => (HSM.out o ho).1)
        have HENC := Lib.hid henc
        have HBR := HR
        clear henc hlt
        have hb4x := HR.out
        cases G with
        | false =>
          by_cases h50 : ops.length ≤ 50
          · have hall : ops.all rightO = false := by
              rw [hD, decide_eq_true (by omega), Bool.true_and] at hG
              exact hG.symm
            have hencO : encO ops = .tuple #[.string ⟨#[]⟩, .int .i64 1] := by unfold encO; rw [check_no h50 hall, if_pos (by omega)]
            rw [hencO] at HENC
            have hn50 : decide ((50 : Int) < (ops.length : Int)) = false := decide_eq_false (by omega)
            clear hall hencO h50 hG hb4x HBR
            go_wp2_with fail
            refine HENC.out.mono ?_
            rintro e w4 ⟨rfl, hb4⟩
            have HF := Lib.hid (HR.out.trans (hb4.mono HR.out.size))
            clear hb4 HENC
            go_wp2
            go_ret
            exact ⟨rfl, HF.out⟩
          · have hencO : encO ops = .tuple #[.string ⟨#[]⟩, .int .i64 4] := by unfold encO; rw [check_long h50, if_pos (by omega)]
            rw [hencO] at HENC
            have hn50 : decide ((50 : Int) < (ops.length : Int)) = true := decide_eq_true (by omega)
            clear hencO h50 hG hb4x HBR
            go_wp2_with fail
            refine HENC.out.mono ?_
            rintro e w4 ⟨rfl, hb4⟩
            have HF := Lib.hid (HR.out.trans (hb4.mono HR.out.size))
            clear hb4 HENC
            go_wp2
            go_ret
            exact ⟨rfl, HF.out⟩
        | true =>
          have hG2 : D = true ∧ ops.all rightO = true := by simpa using hG.symm
          have h50 : ops.length ≤ 50 := by have := hG2.1; rw [hD] at this; have := of_decide_eq_true this; omega
          have hall := hG2.2
          clear hG hG2 hb4x hD
          by_cases hfit : (ops.all fun o => decide (o.val.lay.length ≤ 4096)) = true
          · have hencO : encO ops = .tuple #[.string ⟨(octN ops.length ++ layOs ops).toArray⟩, .int .i64 0] := by
              unfold encO
              rw [check_yes h50 hall, if_neg (by simp), if_pos hfit]
            have hlay : ∀ o ∈ ops, Layable o := fun o ho => ⟨List.all_eq_true.1 hall o ho, of_decide_eq_true (List.all_eq_true.1 hfit o ho), H0.out.2 o ho, fun s hs => by have := (HSM.out o ho).2 s hs; omega⟩
            have hL1 := layOs_len ops (fun o ho => ⟨(HSM.out o ho).1, (hlay o ho).1, (hlay o ho).2.1⟩)
            have hL2 := octN_lt ops.length (by omega)
            have hd1 := dec_laid hlay h50
            have hd2 := fun c hc => dec_cut hlay h50 (k := c) hc
            have hL3 : 0 < (octN ops.length ++ layOs ops).length := by rw [List.length_append, octN_length]; omega
            have hL4 : (octN ops.length ++ layOs ops).length ≤ 200000000 := by rw [List.length_append]; omega
            obtain ⟨l, hl⟩ : ∃ l, l = octN ops.length ++ layOs ops := ⟨_, rfl⟩
            rw [← hl] at hencO hd1 hd2 hL3 hL4
            obtain ⟨sx, hsx⟩ : ∃ s : ByteArray, s = ⟨l.toArray⟩ := ⟨_, rfl⟩
            rw [← hsx] at hencO
            have hsz : sx.size = l.length := by rw [hsx]; exact lay_arr l
            rw [hencO] at HENC
            have hstl : stLen (some l) := fun r hr => by
              have := Option.some.inj hr
              rw [← this]
              omega
            have HL := Lib.hid (And.intro hd1 (And.intro hd2 (And.intro hL3 (And.intro hL4 (And.intro hsx (And.intro hsz hstl))))))
            clear hencO hlay hL1 hL2 hd1 hd2 hL3 hL4 hl hsx hsz hstl hfit hall h50
            go_wp2_with fail
            refine HENC.out.mono ?_
            rintro e w4 ⟨rfl, hb4⟩
            have HB4 := Lib.hid (HR.out.trans (hb4.mono HR.out.size))
            clear hb4 HENC HR HBR
            go_wp2_with fail
            refine (read_any sx w4).mono ?_
            rintro e w5 ⟨rfl, hr5, hb5⟩
            rw [HL.out.2.2.2.2.1] at hr5
            have hdo := decode_ops w4.heap.size (some l) HL.out.2.2.2.2.2.2 w5 hr5
            have HD := Lib.hid hdo
            have HB5 := Lib.hid (HB4.out.trans (hb5.mono HB4.out.size))
            clear hr5 hb5 hdo
            go_wp2_with fail
            refine HD.out.mono ?_
            rintro e w6 ⟨os, ga, gc, er, s, rfl, hdec, hgs, hgo, hs⟩
            have hdec2 : decS (some l) = (ops, 0) := by
              unfold decS
              rw [HL.out.1]
            obtain ⟨he1, he2⟩ := Prod.mk.inj (hdec2.symm.trans hdec)
            subst he1
            subst he2
            have hs2 := hs rfl
            rw [HL.out.1] at hs2
            have hs3 : s = some [] := by injection hs2 with h9; exact (Prod.mk.inj h9).2.symm
            subst hs3
            have hb6 : Below w.heap.size w5 w6 := hgs.frame HB5.out.size HB4.out.size
            have hen := end_done w4.heap.size w6 hgs.1
            have HEN := Lib.hid hen
            have HB6 := Lib.hid (HB5.out.trans hb6)
            have HGO := Lib.hid hgo
            clear hdec hdec2 hgs hgo hs hs2 hb6 hen HD HB5
            go_wp2_with fail
            refine HEN.out.mono ?_
            rintro e w7 ⟨rfl, rfl⟩
            clear HEN
            go_wp2_with fail
            go_loopw [94] (fun i wr => ∃ k : Nat, k ≤ ops.length ∧ i = .int .i64 k ∧ Hid (Below w6.heap.size w6 wr)) (fun i _ => ops.length - (intOf i).toNat)
            case atStart => exact ⟨0, Nat.zero_le _, rfl, Lib.hid (Below.refl _ _)⟩
            case round =>
              obtain ⟨k, hk, rfl, HR⟩ := hrel
              by_cases hlt : k < ops.length
              · obtain ⟨bb, off, rfl, hbb, hat⟩ := (H0.out.1.below (HB6.out.trans (HR.out.mono HB6.out.size))).resolve_left (by intro e; rw [e] at hlt; simp at hlt)
                obtain ⟨gb, goff, rfl, hgb, gat⟩ := (HGO.out.below HR.out).resolve_left (by intro e; rw [e] at hlt; simp at hlt)
                obtain ⟨pa, pc, oa, oc, ob, od, hin, hpl, hpt, hval⟩ := hat k hlt
                obtain ⟨qa, qc, ra, rc, rb, rd, gin, gpl, gpt, gval⟩ := gat k hlt
                have hkl : (k : Int) < (ops.length : Int) := by omega
                obtain ⟨o, ho⟩ : ∃ o, o = ops[k] := ⟨_, rfl⟩
                rw [← ho] at hin hpl hpt hval gin gpl gpt gval
                obtain ⟨p0, p1, p2, p3, p4, p5, p6, p7⟩ := hin.eight
                obtain ⟨q0, q1, q2, q3, q4, q5, q6, q7⟩ := gin.eight
                have hA : Below wr.heap.size wr (wr.alloc (.cells #[.int .i64 o.kind, .slice pa o.path.length pc, .int .i64 o.val.kind, .bool o.val.yes, .int .i64 o.val.num, .string o.val.text, .slice oa o.val.list.length oc, .slice ob o.val.fields.length od] 50)) := (Below.refl _ wr).alloc (Nat.le_refl _) _
                have hAd : Below wr.heap.size wr (wr.alloc (.cells #[.int .i64 o.kind, .slice pa o.path.length pc, .int .i64 o.val.kind, .bool o.val.yes, .int .i64 o.val.num, .string o.val.text, .slice oa o.val.list.length oc, .slice ob o.val.fields.length od] 50)).drew := hA.drew
                have hbx := Box.new wr 50 #[.int .i64 o.kind, .slice pa o.path.length pc, .int .i64 o.val.kind, .bool o.val.yes, .int .i64 o.val.num, .string o.val.text, .slice oa o.val.list.length oc, .slice ob o.val.fields.length od]
                have hbxd : Box (wr.alloc (.cells #[.int .i64 o.kind, .slice pa o.path.length pc, .int .i64 o.val.kind, .bool o.val.yes, .int .i64 o.val.num, .string o.val.text, .slice oa o.val.list.length oc, .slice ob o.val.fields.length od] 50)).drew wr.heap.size 50 #[.int .i64 o.kind, .slice pa o.path.length pc, .int .i64 o.val.kind, .bool o.val.yes, .int .i64 o.val.num, .string o.val.text, .slice oa o.val.list.length oc, .slice ob o.val.fields.length od] := ((Below.refl (wr.alloc (.cells #[.int .i64 o.kind, .slice pa o.path.length pc, .int .i64 o.val.kind, .bool o.val.yes, .int .i64 o.val.num, .string o.val.text, .slice oa o.val.list.length oc, .slice ob o.val.fields.length od] 50)).heap.size (wr.alloc (.cells #[.int .i64 o.kind, .slice pa o.path.length pc, .int .i64 o.val.kind, .bool o.val.yes, .int .i64 o.val.num, .string o.val.text, .slice oa o.val.list.length oc, .slice ob o.val.fields.length od] 50))).drew.block _ hbx.lt).trans hbx
                have hcells : ∀ W, Below wr.heap.size wr W → Box W wr.heap.size 50 #[.int .i64 o.kind, .slice pa o.path.length pc, .int .i64 o.val.kind, .bool o.val.yes, .int .i64 o.val.num, .string o.val.text, .slice oa o.val.list.length oc, .slice ob o.val.fields.length od] → W.cell? ⟨gb, goff + k * 8, none⟩ = some (.int .i64 o.kind) ∧ W.cell? ⟨gb, goff + k * 8 + 1, none⟩ = some (.slice qa o.path.length qc) ∧ W.cell? ⟨gb, goff + k * 8 + 2, none⟩ = some (.int .i64 o.val.kind) ∧ W.cell? ⟨gb, goff + k * 8 + 3, none⟩ = some (.bool o.val.yes) ∧ W.cell? ⟨gb, goff + k * 8 + 4, none⟩ = some (.int .i64 o.val.num) ∧ W.cell? ⟨gb, goff + k * 8 + 5, none⟩ = some (.string o.val.text) ∧ W.cell? ⟨gb, goff + k * 8 + 6, none⟩ = some (.slice ra o.val.list.length rc) ∧ W.cell? ⟨gb, goff + k * 8 + 7, none⟩ = some (.slice rb o.val.fields.length rd) ∧ W.cell? ⟨wr.heap.size, 0, none⟩ = some (.int .i64 o.kind) ∧ W.cell? ⟨wr.heap.size, 1, none⟩ = some (.slice pa o.path.length pc) ∧ W.cell? ⟨wr.heap.size, 2, none⟩ = some (.int .i64 o.val.kind) ∧ W.cell? ⟨wr.heap.size, 3, none⟩ = some (.bool o.val.yes) ∧ W.cell? ⟨wr.heap.size, 4, none⟩ = some (.int .i64 o.val.num) ∧ W.cell? ⟨wr.heap.size, 5, none⟩ = some (.string o.val.text) ∧ W.cell? ⟨wr.heap.size, 6, none⟩ = some (.slice oa o.val.list.length oc) ∧ W.cell? ⟨wr.heap.size, 7, none⟩ = some (.slice ob o.val.fields.length od) := fun W hW hb => by
                  obtain ⟨y0, y1, y2, y3, y4, y5, y6, y7⟩ := (gin.keep (hW.block gb hgb)).eight
                  obtain ⟨z0, z1, z2, z3, z4, z5, z6, z7⟩ := hb.eight
                  exact ⟨y0, y1, y2, y3, y4, y5, y6, y7, z0, z1, z2, z3, z4, z5, z6, z7⟩
                have hS7 := hcells _ hAd hbxd
                have hsame := same_any o.val o.val (.slice ra o.val.list.length rc) (.slice rb o.val.fields.length rd) (.slice oa o.val.list.length oc) (.slice ob o.val.fields.length od) (wr.alloc (.cells #[.int .i64 o.kind, .slice pa o.path.length pc, .int .i64 o.val.kind, .bool o.val.yes, .int .i64 o.val.num, .string o.val.text, .slice oa o.val.list.length oc, .slice ob o.val.fields.length od] 50)).drew (V.At.below gval hAd) (V.At.below hval hAd)
                rw [cmp_self] at hsame
                have HSA := Lib.hid hsame
                have HK8 := Lib.hid (fun (W : World) (hW : Below (wr.alloc (.cells #[.int .i64 o.kind, .slice pa o.path.length pc, .int .i64 o.val.kind, .bool o.val.yes, .int .i64 o.val.num, .string o.val.text, .slice oa o.val.list.length oc, .slice ob o.val.fields.length od] 50)).drew.heap.size (wr.alloc (.cells #[.int .i64 o.kind, .slice pa o.path.length pc, .int .i64 o.val.kind, .bool o.val.yes, .int .i64 o.val.num, .string o.val.text, .slice oa o.val.list.length oc, .slice ob o.val.fields.length od] 50)).drew W) => hcells W (hAd.trans (hW.mono hAd.size)) ((hW.block _ hbxd.lt).trans hbxd))
                have HFB : Hid (∀ W, Below (wr.alloc (.cells #[.int .i64 o.kind, .slice pa o.path.length pc, .int .i64 o.val.kind, .bool o.val.yes, .int .i64 o.val.num, .string o.val.text, .slice oa o.val.list.length oc, .slice ob o.val.fields.length od] 50)).drew.heap.size (wr.alloc (.cells #[.int .i64 o.kind, .slice pa o.path.length pc, .int .i64 o.val.kind, .bool o.val.yes, .int .i64 o.val.num, .string o.val.text, .slice oa o.val.list.length oc, .slice ob o.val.fields.length od] 50)).drew W → Hid (Below wr.heap.size wr W ∧ Box W wr.heap.size 50 #[.int .i64 o.kind, .slice pa o.path.length pc, .int .i64 o.val.kind, .bool o.val.yes, .int .i64 o.val.num, .string o.val.text, .slice oa o.val.list.length oc, .slice ob o.val.fields.length od])) := Lib.hid (fun (W : World) (hW : Below (wr.alloc (.cells #[.int .i64 o.kind, .slice pa o.path.length pc, .int .i64 o.val.kind, .bool o.val.yes, .int .i64 o.val.num, .string o.val.text, .slice oa o.val.list.length oc, .slice ob o.val.fields.length od] 50)).drew.heap.size (wr.alloc (.cells #[.int .i64 o.kind, .slice pa o.path.length pc, .int .i64 o.val.kind, .bool o.val.yes, .int .i64 o.val.num, .string o.val.text, .slice oa o.val.list.length oc, .slice ob o.val.fields.length od] 50)).drew W) => Lib.hid ⟨hAd.trans (hW.mono hAd.size), (hW.block _ hbxd.lt).trans hbxd⟩)
                have HS7 := Lib.hid hS7
                have HPT := Lib.hid (And.intro (show PathIn wr pa o.path from hpt) (And.intro (show PathIn wr qa o.path from gpt) (And.intro gin hgb)))
                have HPL := Lib.hid (And.intro hpl gpl)
                have HLT := Lib.hid hlt
                clear hin hpl hpt hval gin gpl gpt gval hA hAd hbx hbxd hcells hS7 hsame hat gat ho hbb q0 q1 q2 q3 q4 q5 q6 q7
                go_upto_region 23 with (fail)
                go_cut [129] (fun t wx => t = .bool false ∧ Hid (Below wr.heap.size wr wx ∧ Box wx wr.heap.size 50 #[.int .i64 o.kind, .slice pa o.path.length pc, .int .i64 o.val.kind, .bool o.val.yes, .int .i64 o.val.num, .string o.val.text, .slice oa o.val.list.length oc, .slice ob o.val.fields.length od]))
                case first =>
                  have hS7 := HS7.out
                  clear HS7 p0 p1 p2 p3 p4 p5 p6 p7
                  refine wp_region_held_drew (S := fun w' => w'.cell? ⟨gb, goff + k * 8, none⟩ = some (.int .i64 o.kind) ∧ w'.cell? ⟨gb, goff + k * 8 + 1, none⟩ = some (.slice qa o.path.length qc) ∧ w'.cell? ⟨gb, goff + k * 8 + 2, none⟩ = some (.int .i64 o.val.kind) ∧ w'.cell? ⟨gb, goff + k * 8 + 3, none⟩ = some (.bool o.val.yes) ∧ w'.cell? ⟨gb, goff + k * 8 + 4, none⟩ = some (.int .i64 o.val.num) ∧ w'.cell? ⟨gb, goff + k * 8 + 5, none⟩ = some (.string o.val.text) ∧ w'.cell? ⟨gb, goff + k * 8 + 6, none⟩ = some (.slice ra o.val.list.length rc) ∧ w'.cell? ⟨gb, goff + k * 8 + 7, none⟩ = some (.slice rb o.val.fields.length rd) ∧ w'.cell? ⟨wr.heap.size, 0, none⟩ = some (.int .i64 o.kind) ∧ w'.cell? ⟨wr.heap.size, 1, none⟩ = some (.slice pa o.path.length pc) ∧ w'.cell? ⟨wr.heap.size, 2, none⟩ = some (.int .i64 o.val.kind) ∧ w'.cell? ⟨wr.heap.size, 3, none⟩ = some (.bool o.val.yes) ∧ w'.cell? ⟨wr.heap.size, 4, none⟩ = some (.int .i64 o.val.num) ∧ w'.cell? ⟨wr.heap.size, 5, none⟩ = some (.string o.val.text) ∧ w'.cell? ⟨wr.heap.size, 6, none⟩ = some (.slice oa o.val.list.length oc) ∧ w'.cell? ⟨wr.heap.size, 7, none⟩ = some (.slice ob o.val.fields.length od)) (by kernel_rfl) (by with_reducible exact hS7) (fun hHeld => ?_)
                  refine wpAnyH_take (i := 0) (oi := _) (v := ?_) rfl (by kernel_rfl) (by kernel_rfl) (by kernel_rfl) (fun _ _ _ h => h) (Or.inl ⟨by rfl, ?_⟩) (by assumption) ?_
                  rotate_left
                  · (intro w' hSw; (try dsimp only at hSw); go_simp; all_goals with_reducible rfl)
                  try simp only [Act.put, List.getElem_toArray, List.getElem_cons_zero, List.setIfInBounds_toArray, List.set_cons_zero, List.set_cons_succ]
                  refine wpAnyH_take (i := 1) (oi := _) (v := ?_) rfl (by kernel_rfl) (by kernel_rfl) (by kernel_rfl) (fun _ _ _ h => h) (Or.inl ⟨by rfl, ?_⟩) (by assumption) ?_
                  rotate_left
                  · (intro w' hSw; (try dsimp only at hSw); go_simp; all_goals with_reducible rfl)
                  try simp only [Act.put, List.getElem_toArray, List.getElem_cons_zero, List.getElem_cons_succ, List.setIfInBounds_toArray, List.set_cons_zero, List.set_cons_succ]
                  refine wpAnyH_take (i := 2) (oi := _) (v := ?_) rfl (by kernel_rfl) (by kernel_rfl) (by kernel_rfl) (fun _ _ _ h => h) (Or.inl ⟨by rfl, ?_⟩) (by assumption) ?_
                  rotate_left
                  · (intro w' hSw; (try dsimp only at hSw); go_simp; all_goals with_reducible rfl)
                  try simp only [Act.put, List.getElem_toArray, List.getElem_cons_zero, List.getElem_cons_succ, List.setIfInBounds_toArray, List.set_cons_zero, List.set_cons_succ]
                  refine wpAnyH_take (i := 3) (oi := _) (v := ?_) rfl (by kernel_rfl) (by kernel_rfl) (by kernel_rfl) (fun _ _ _ h => h) (Or.inl ⟨by rfl, ?_⟩) (by assumption) ?_
                  rotate_left
                  · (intro w' hSw; (try dsimp only at hSw); go_simp; all_goals with_reducible rfl)
                  try simp only [Act.put, List.getElem_toArray, List.getElem_cons_zero, List.getElem_cons_succ, List.setIfInBounds_toArray, List.set_cons_zero, List.set_cons_succ]
                  refine wpAnyH_take (i := 4) (oi := _) (v := ?_) rfl (by kernel_rfl) (by kernel_rfl) (by kernel_rfl) (fun _ _ _ h => h) (Or.inl ⟨by rfl, ?_⟩) (by assumption) ?_
                  rotate_left
                  · (intro w' hSw; (try dsimp only at hSw); go_simp; all_goals with_reducible rfl)
                  try simp only [Act.put, List.getElem_toArray, List.getElem_cons_zero, List.getElem_cons_succ, List.setIfInBounds_toArray, List.set_cons_zero, List.set_cons_succ]
                  refine wpAnyH_take (i := 5) (oi := _) (v := ?_) rfl (by kernel_rfl) (by kernel_rfl) (by kernel_rfl) (fun _ _ _ h => h) (Or.inl ⟨by rfl, ?_⟩) (by assumption) ?_
                  rotate_left
                  · (intro w' hSw; (try dsimp only at hSw); go_simp; all_goals with_reducible rfl)
                  try simp only [Act.put, List.getElem_toArray, List.getElem_cons_zero, List.getElem_cons_succ, List.setIfInBounds_toArray, List.set_cons_zero, List.set_cons_succ]
                  refine wpAnyH_take (i := 6) (oi := _) (v := ?_) rfl (by kernel_rfl) (by kernel_rfl) (by kernel_rfl) (fun _ _ _ h => h) (Or.inl ⟨by rfl, ?_⟩) (by assumption) ?_
                  rotate_left
                  · (intro w' hSw; (try dsimp only at hSw); go_simp; all_goals with_reducible rfl)
                  try simp only [Act.put, List.getElem_toArray, List.getElem_cons_zero, List.getElem_cons_succ, List.setIfInBounds_toArray, List.set_cons_zero, List.set_cons_succ]
                  refine wpAnyH_take (i := 7) (oi := _) (v := ?_) rfl (by kernel_rfl) (by kernel_rfl) (by kernel_rfl) (fun _ _ _ h => h) (Or.inl ⟨by rfl, ?_⟩) (by assumption) ?_
                  rotate_left
                  · (intro w' hSw; (try dsimp only at hSw); go_simp; all_goals with_reducible rfl)
                  try simp only [Act.put, List.getElem_toArray, List.getElem_cons_zero, List.getElem_cons_succ, List.setIfInBounds_toArray, List.set_cons_zero, List.set_cons_succ]
                  refine wpAnyH_take (i := 8) (oi := _) (v := ?_) rfl (by kernel_rfl) (by kernel_rfl) (by kernel_rfl) (fun _ _ _ h => h) (Or.inl ⟨by rfl, ?_⟩) (by assumption) ?_
                  rotate_left
                  · (intro w' hSw; (try dsimp only at hSw); go_simp; all_goals with_reducible rfl)
                  try simp only [Act.put, List.getElem_toArray, List.getElem_cons_zero, List.getElem_cons_succ, List.setIfInBounds_toArray, List.set_cons_zero, List.set_cons_succ]
                  refine wpAnyH_take (i := 9) (oi := _) (v := ?_) rfl (by kernel_rfl) (by kernel_rfl) (by kernel_rfl) (fun _ _ _ h => h) (Or.inl ⟨by rfl, ?_⟩) (by assumption) ?_
                  rotate_left
                  · (intro w' hSw; (try dsimp only at hSw); go_simp; all_goals with_reducible rfl)
                  try simp only [Act.put, List.getElem_toArray, List.getElem_cons_zero, List.getElem_cons_succ, List.setIfInBounds_toArray, List.set_cons_zero, List.set_cons_succ]
                  refine wpAnyH_take (i := 10) (oi := _) (v := ?_) rfl (by kernel_rfl) (by kernel_rfl) (by kernel_rfl) (fun _ _ _ h => h) (Or.inl ⟨by rfl, ?_⟩) (by assumption) ?_
                  rotate_left
                  · (intro w' hSw; (try dsimp only at hSw); go_simp; all_goals with_reducible rfl)
                  try simp only [Act.put, List.getElem_toArray, List.getElem_cons_zero, List.getElem_cons_succ, List.setIfInBounds_toArray, List.set_cons_zero, List.set_cons_succ]
                  refine wpAnyH_take (i := 11) (oi := _) (v := ?_) rfl (by kernel_rfl) (by kernel_rfl) (by kernel_rfl) (fun _ _ _ h => h) (Or.inl ⟨by rfl, ?_⟩) (by assumption) ?_
                  rotate_left
                  · (intro w' hSw; (try dsimp only at hSw); go_simp; all_goals with_reducible rfl)
                  try simp only [Act.put, List.getElem_toArray, List.getElem_cons_zero, List.getElem_cons_succ, List.setIfInBounds_toArray, List.set_cons_zero, List.set_cons_succ]
                  refine wpAnyH_take (i := 12) (oi := _) (v := ?_) rfl (by kernel_rfl) (by kernel_rfl) (by kernel_rfl) (fun _ _ _ h => h) (Or.inl ⟨by rfl, ?_⟩) (by assumption) ?_
                  rotate_left
                  · (intro w' hSw; (try dsimp only at hSw); go_simp; all_goals with_reducible rfl)
                  try simp only [Act.put, List.getElem_toArray, List.getElem_cons_zero, List.getElem_cons_succ, List.setIfInBounds_toArray, List.set_cons_zero, List.set_cons_succ]
                  refine wpAnyH_take (i := 13) (oi := _) (v := ?_) rfl (by kernel_rfl) (by kernel_rfl) (by kernel_rfl) (fun _ _ _ h => h) (Or.inl ⟨by rfl, ?_⟩) (by assumption) ?_
                  rotate_left
                  · (intro w' hSw; (try dsimp only at hSw); go_simp; all_goals with_reducible rfl)
                  try simp only [Act.put, List.getElem_toArray, List.getElem_cons_zero, List.getElem_cons_succ, List.setIfInBounds_toArray, List.set_cons_zero, List.set_cons_succ]
                  refine wpAnyH_take (i := 14) (oi := _) (v := ?_) rfl (by kernel_rfl) (by kernel_rfl) (by kernel_rfl) (fun _ _ _ h => h) (Or.inl ⟨by rfl, ?_⟩) (by assumption) ?_
                  rotate_left
                  · (intro w' hSw; (try dsimp only at hSw); go_simp; all_goals with_reducible rfl)
                  try simp only [Act.put, List.getElem_toArray, List.getElem_cons_zero, List.getElem_cons_succ, List.setIfInBounds_toArray, List.set_cons_zero, List.set_cons_succ]
                  refine wpAnyH_take (i := 15) (oi := _) (v := ?_) rfl (by kernel_rfl) (by kernel_rfl) (by kernel_rfl) (fun _ _ _ h => h) (Or.inl ⟨by rfl, ?_⟩) (by assumption) ?_
                  rotate_left
                  · (intro w' hSw; (try dsimp only at hSw); go_simp; all_goals with_reducible rfl)
                  try simp only [Act.put, List.getElem_toArray, List.getElem_cons_zero, List.getElem_cons_succ, List.setIfInBounds_toArray, List.set_cons_zero, List.set_cons_succ]
                  refine wpAnyH_take (i := 16) (oi := _) (v := ?_) rfl (by kernel_rfl) (by kernel_rfl) (by kernel_rfl) (fun _ _ _ h => h) (Or.inl ⟨by rfl, ?_⟩) (by assumption) ?_
                  rotate_left
                  · (intro w' hSw; (try dsimp only at hSw); go_simp; all_goals with_reducible rfl)
                  try simp only [Act.put, List.getElem_toArray, List.getElem_cons_zero, List.getElem_cons_succ, List.setIfInBounds_toArray, List.set_cons_zero, List.set_cons_succ]
                  refine wpAnyH_take (i := 17) (oi := _) (v := ?_) rfl (by kernel_rfl) (by kernel_rfl) (by kernel_rfl) (fun _ _ _ h => h) (Or.inl ⟨by rfl, ?_⟩) (by assumption) ?_
                  rotate_left
                  · (intro w' hSw; (try dsimp only at hSw); go_simp; all_goals with_reducible rfl)
                  try simp only [Act.put, List.getElem_toArray, List.getElem_cons_zero, List.getElem_cons_succ, List.setIfInBounds_toArray, List.set_cons_zero, List.set_cons_succ]
                  refine wpAnyH_take (i := 18) (oi := _) (v := ?_) rfl (by kernel_rfl) (by kernel_rfl) (by kernel_rfl) (fun _ _ _ h => h) (Or.inl ⟨by rfl, ?_⟩) (by assumption) ?_
                  rotate_left
                  · (intro w' hSw; (try dsimp only at hSw); go_simp; all_goals with_reducible rfl)
                  try simp only [Act.put, List.getElem_toArray, List.getElem_cons_zero, List.getElem_cons_succ, List.setIfInBounds_toArray, List.set_cons_zero, List.set_cons_succ]
                  refine wpAnyH_take (i := 19) (oi := _) (v := ?_) rfl (by kernel_rfl) (by kernel_rfl) (by kernel_rfl) (fun _ _ _ h => h) (Or.inl ⟨by rfl, ?_⟩) (by assumption) ?_
                  rotate_left
                  · (intro w' hSw; (try dsimp only at hSw); go_simp; all_goals with_reducible rfl)
                  try simp only [Act.put, List.getElem_toArray, List.getElem_cons_zero, List.getElem_cons_succ, List.setIfInBounds_toArray, List.set_cons_zero, List.set_cons_succ]
                  refine wpAnyH_take (i := 20) (oi := _) (v := ?_) rfl (by kernel_rfl) (by kernel_rfl) (by kernel_rfl) (fun _ _ _ h => h) (Or.inl ⟨by rfl, ?_⟩) (by assumption) ?_
                  rotate_left
                  · (intro w' hSw; (try dsimp only at hSw); go_simp; all_goals with_reducible rfl)
                  try simp only [Act.put, List.getElem_toArray, List.getElem_cons_zero, List.getElem_cons_succ, List.setIfInBounds_toArray, List.set_cons_zero, List.set_cons_succ]
                  refine wpAnyH_take (i := 21) (oi := _) (v := ?_) rfl (by kernel_rfl) (by kernel_rfl) (by kernel_rfl) (fun _ _ _ h => h) (Or.inl ⟨by rfl, ?_⟩) (by assumption) ?_
                  rotate_left
                  · (intro w' hSw; (try dsimp only at hSw); go_simp; all_goals with_reducible rfl)
                  try simp only [Act.put, List.getElem_toArray, List.getElem_cons_zero, List.getElem_cons_succ, List.setIfInBounds_toArray, List.set_cons_zero, List.set_cons_succ]
                  refine wpAnyH_take (i := 22) (oi := _) (v := ?_) rfl (by kernel_rfl) (by kernel_rfl) (by kernel_rfl) (fun _ _ _ h => h) (Or.inl ⟨by rfl, ?_⟩) (by assumption) ?_
                  rotate_left
                  · (intro w' hSw; (try dsimp only at hSw); go_simp; all_goals with_reducible rfl)
                  try simp only [Act.put, List.getElem_toArray, List.getElem_cons_zero, List.getElem_cons_succ, List.setIfInBounds_toArray, List.set_cons_zero, List.set_cons_succ]
                  refine wpAnyH_take (i := 23) (oi := _) (v := ?_) rfl (by kernel_rfl) (by kernel_rfl) (by kernel_rfl) (fun _ _ _ h => h) (Or.inl ⟨by rfl, ?_⟩) (by assumption) ?_
                  rotate_left
                  · (intro w' hSw; (try dsimp only at hSw); go_simp; all_goals with_reducible rfl)
                  try simp only [Act.put, List.getElem_toArray, List.getElem_cons_zero, List.getElem_cons_succ, List.setIfInBounds_toArray, List.set_cons_zero, List.set_cons_succ]
                  refine wpAnyH_take (i := 24) (oi := _) (v := ?_) rfl (by kernel_rfl) (by kernel_rfl) (by kernel_rfl) (fun _ _ _ h => h) (Or.inl ⟨by rfl, ?_⟩) (by assumption) ?_
                  rotate_left
                  · (intro w' hSw; (try dsimp only at hSw); go_simp; all_goals with_reducible rfl)
                  try simp only [Act.put, List.getElem_toArray, List.getElem_cons_zero, List.getElem_cons_succ, List.setIfInBounds_toArray, List.set_cons_zero, List.set_cons_succ]
                  refine wpAnyH_take (i := 25) (oi := _) (v := ?_) rfl (by kernel_rfl) (by kernel_rfl) (by kernel_rfl) (fun _ _ _ h => h) (Or.inl ⟨by rfl, ?_⟩) (by assumption) ?_
                  rotate_left
                  · (intro w' hSw; (try dsimp only at hSw); go_simp; all_goals with_reducible rfl)
                  try simp only [Act.put, List.getElem_toArray, List.getElem_cons_zero, List.getElem_cons_succ, List.setIfInBounds_toArray, List.set_cons_zero, List.set_cons_succ]
                  refine wpAnyH_take (i := 26) (oi := _) (v := ?_) rfl (by kernel_rfl) (by kernel_rfl) (by kernel_rfl) (fun _ _ _ h => h) (Or.inl ⟨by rfl, ?_⟩) (by assumption) ?_
                  rotate_left
                  · (intro w' hSw; (try dsimp only at hSw); go_simp; all_goals with_reducible rfl)
                  try simp only [Act.put, List.getElem_toArray, List.getElem_cons_zero, List.getElem_cons_succ, List.setIfInBounds_toArray, List.set_cons_zero, List.set_cons_succ]
                  refine wpAnyH_take (i := 27) (oi := _) (v := ?_) rfl (by kernel_rfl) (by kernel_rfl) (by kernel_rfl) (fun _ _ _ h => h) (Or.inl ⟨by rfl, ?_⟩) (by assumption) ?_
                  rotate_left
                  · (intro w' hSw; (try dsimp only at hSw); go_simp; all_goals with_reducible rfl)
                  try simp only [Act.put, List.getElem_toArray, List.getElem_cons_zero, List.getElem_cons_succ, List.setIfInBounds_toArray, List.set_cons_zero, List.set_cons_succ]
                  refine wpAnyH_ready (rs := [28]) (by kernel_rfl) (by simp) ?_
                  refine AllReadyH.cons rfl (fun K hK => ?_) AllReadyH.nil
                  go_simp
                  go_at_call 26
                  with_reducible refine HSA.out.mono ?_
                  rintro e w8 ⟨rfl, hb8⟩
                  have hS8 := HK8.out w8 hb8
                  have HB8 := Lib.hid hb8
                  clear hb8
                  refine hK.out _ _ (by with_reducible exact hS8) (fun hHeld => ?_)
                  clear hK K
                  try simp only [Act.put, List.getElem_toArray, List.getElem_cons_zero, List.getElem_cons_succ, List.setIfInBounds_toArray, List.set_cons_zero, List.set_cons_succ]
                  refine wpAnyH_take (i := 29) (oi := _) (v := ?_) rfl (by kernel_rfl) (by kernel_rfl) (by kernel_rfl) (fun _ _ _ h => h) (Or.inl ⟨by rfl, ?_⟩) (by assumption) ?_
                  rotate_left
                  · (intro w' hSw; (try dsimp only at hSw); go_simp; all_goals with_reducible rfl)
                  try simp only [Act.put, List.getElem_toArray, List.getElem_cons_zero, List.getElem_cons_succ, List.setIfInBounds_toArray, List.set_cons_zero, List.set_cons_succ]
                  refine wpAnyH_take (i := 30) (oi := _) (v := ?_) rfl (by kernel_rfl) (by kernel_rfl) (by kernel_rfl) (fun _ _ _ h => h) (Or.inl ⟨by rfl, ?_⟩) (by assumption) ?_
                  rotate_left
                  · (intro w' hSw; (try dsimp only at hSw); go_simp; all_goals with_reducible rfl)
                  try simp only [Act.put, List.getElem_toArray, List.getElem_cons_zero, List.getElem_cons_succ, List.setIfInBounds_toArray, List.set_cons_zero, List.set_cons_succ]
                  refine wpAnyH_done (by kernel_rfl) ?_ _
                  go_wp2_with fail
                  go_meet
                  exact ⟨rfl, HFB.out _ HB8.out⟩
                case rest =>
                  obtain ⟨rfl, HC⟩ := hcut
                  clear p0 p1 p2 p3 p4 p5 p6 p7 HS7 HK8 HFB HSA
                  have hob0 : ∃ ob0, ob0 = wr.heap.size := ⟨_, rfl⟩
                  obtain ⟨ob0, hob0⟩ := hob0
                  have HC2 : Hid (PathIn wc pa o.path ∧ PathIn wc qa o.path ∧ InAt wc gb (goff + k * 8) [.int .i64 o.kind, .slice qa o.path.length qc, .int .i64 o.val.kind, .bool o.val.yes, .int .i64 o.val.num, .string o.val.text, .slice ra o.val.list.length rc, .slice rb o.val.fields.length rd] ∧ gb < wc.heap.size ∧ Box wc ob0 50 #[.int .i64 o.kind, .slice pa o.path.length pc, .int .i64 o.val.kind, .bool o.val.yes, .int .i64 o.val.num, .string o.val.text, .slice oa o.val.list.length oc, .slice ob o.val.fields.length od]) := Lib.hid ⟨HPT.out.1.below HC.out.1, HPT.out.2.1.below HC.out.1, HPT.out.2.2.1.keep (HC.out.1.block gb HPT.out.2.2.2), Nat.lt_of_lt_of_le HPT.out.2.2.2 HC.out.1.size, by rw [hob0]; exact HC.out.2⟩
                  have HCW := Lib.hid (HR.out.trans (HC.out.1.mono HR.out.size))
                  rw [← hob0]
                  have hbx := HC2.out.2.2.2.2
                  obtain ⟨z0, z1, z2, z3, z4, z5, z6, z7⟩ := hbx.eight
                  have hzl := hbx.lt
                  have hpm : o.path.length ≤ 9223372036854775807 := by have h1 := HPL.out.1.1; have h2 := HPL.out.1.2; unfold maxLen at *; omega
                  clear hbx hob0 HC HPT HR
                  go_wp2_with fail
                  go_loopw [133] (fun i wx => ∃ j : Nat, j ≤ o.path.length ∧ i = .int .i64 j ∧ Hid (Below wc.heap.size wc wx)) (fun i _ => o.path.length - (intOf i).toNat)
                  case atStart => exact ⟨0, Nat.zero_le _, rfl, Lib.hid (Below.refl _ _)⟩
                  case round =>
                    clear z0 z1 z2 z3 z4 z5 z6 z7 hzl
                    obtain ⟨j, hj, rfl, HI⟩ := hrel
                    by_cases hjl : j < o.path.length
                    · have hjl' : (j : Int) < (o.path.length : Int) := by omega
                      obtain ⟨pb, poff, epa, hst⟩ := (HC2.out.1.below HI.out).resolve_left (by intro e; rw [e] at hjl; simp at hjl)
                      obtain ⟨qb, qoff, eqa, gst⟩ := (HC2.out.2.1.below HI.out).resolve_left (by intro e; rw [e] at hjl; simp at hjl)
                      subst epa
                      subst eqa
                      have hp1 := hst.2 j hjl
                      have hq1 := gst.2 j hjl
                      obtain ⟨sn, hsn⟩ : ∃ s, s = o.path[j] := ⟨_, rfl⟩
                      rw [← hsn] at hp1 hq1
                      have hg1 := (HC2.out.2.2.1.keep (HI.out.block gb HC2.out.2.2.2.1)).eight.2.1
                      have ho1 := (Box.eight ((HI.out.block _ HC2.out.2.2.2.2.lt).trans HC2.out.2.2.2.2)).2.1
                      have hS9 : wr.drew.cell? ⟨gb, goff + k * 8 + 1, none⟩ = some (.slice (some ⟨qb, qoff, none⟩) o.path.length qc) ∧ wr.drew.cell? ⟨ob0, 1, none⟩ = some (.slice (some ⟨pb, poff, none⟩) o.path.length pc) ∧ wr.drew.cell? ⟨qb, qoff + j, none⟩ = some (.string sn) ∧ wr.drew.cell? ⟨pb, poff + j, none⟩ = some (.string sn) := ⟨hg1, ho1, hq1, hp1⟩
                      have HS9 := Lib.hid hS9
                      have hne : (sn.toList == sn.toList) = true := by simp
                      have HJL := Lib.hid hjl
                      clear hst gst hp1 hq1 hg1 ho1 hS9 hsn
                      go_upto_region 28 with (fail)
                      go_cut [149] (fun t wx => t = .bool false ∧ Hid (Below wr.heap.size wr wx))
                      case first =>
                        have hS9 := HS9.out
                        have hlt9 := HLT.out
                        clear HS9
                        refine wp_region_held_drew (S := fun w' => w'.cell? ⟨gb, goff + k * 8 + 1, none⟩ = some (.slice (some ⟨qb, qoff, none⟩) o.path.length qc) ∧ w'.cell? ⟨ob0, 1, none⟩ = some (.slice (some ⟨pb, poff, none⟩) o.path.length pc) ∧ w'.cell? ⟨qb, qoff + j, none⟩ = some (.string sn) ∧ w'.cell? ⟨pb, poff + j, none⟩ = some (.string sn)) (by kernel_rfl) (by with_reducible exact hS9) (fun hHeld => ?_)
                        refine wpAnyH_take (i := 0) (oi := _) (v := ?_) rfl (by kernel_rfl) (by kernel_rfl) (by kernel_rfl) (fun _ _ _ h => h) (Or.inl ⟨by rfl, ?_⟩) (by assumption) ?_
                        rotate_left
                        · (intro w' hSw; (try dsimp only at hSw); go_simp; all_goals with_reducible rfl)
                        try simp only [Act.put, List.getElem_toArray, List.getElem_cons_zero, List.setIfInBounds_toArray, List.set_cons_zero, List.set_cons_succ]
                        refine wpAnyH_take (i := 1) (oi := _) (v := ?_) rfl (by kernel_rfl) (by kernel_rfl) (by kernel_rfl) (fun _ _ _ h => h) (Or.inl ⟨by rfl, ?_⟩) (by assumption) ?_
                        rotate_left
                        · (intro w' hSw; (try dsimp only at hSw); go_simp; all_goals with_reducible rfl)
                        try simp only [Act.put, List.getElem_toArray, List.getElem_cons_zero, List.getElem_cons_succ, List.setIfInBounds_toArray, List.set_cons_zero, List.set_cons_succ]
                        refine wpAnyH_take (i := 2) (oi := _) (v := ?_) rfl (by kernel_rfl) (by kernel_rfl) (by kernel_rfl) (fun _ _ _ h => h) (Or.inl ⟨by rfl, ?_⟩) (by assumption) ?_
                        rotate_left
                        · (intro w' hSw; (try dsimp only at hSw); go_simp; all_goals with_reducible rfl)
                        try simp only [Act.put, List.getElem_toArray, List.getElem_cons_zero, List.getElem_cons_succ, List.setIfInBounds_toArray, List.set_cons_zero, List.set_cons_succ]
                        refine wpAnyH_take (i := 3) (oi := _) (v := ?_) rfl (by kernel_rfl) (by kernel_rfl) (by kernel_rfl) (fun _ _ _ h => h) (Or.inl ⟨by rfl, ?_⟩) (by assumption) ?_
                        rotate_left
                        · (intro w' hSw; (try dsimp only at hSw); go_simp; all_goals with_reducible rfl)
                        try simp only [Act.put, List.getElem_toArray, List.getElem_cons_zero, List.getElem_cons_succ, List.setIfInBounds_toArray, List.set_cons_zero, List.set_cons_succ]
                        refine wpAnyH_take (i := 4) (oi := _) (v := ?_) rfl (by kernel_rfl) (by kernel_rfl) (by kernel_rfl) (fun _ _ _ h => h) (Or.inl ⟨by rfl, ?_⟩) (by assumption) ?_
                        rotate_left
                        · (intro w' hSw; (try dsimp only at hSw); go_simp; all_goals with_reducible rfl)
                        try simp only [Act.put, List.getElem_toArray, List.getElem_cons_zero, List.getElem_cons_succ, List.setIfInBounds_toArray, List.set_cons_zero, List.set_cons_succ]
                        refine wpAnyH_take (i := 5) (oi := _) (v := ?_) rfl (by kernel_rfl) (by kernel_rfl) (by kernel_rfl) (fun _ _ _ h => h) (Or.inl ⟨by rfl, ?_⟩) (by assumption) ?_
                        rotate_left
                        · (intro w' hSw; (try dsimp only at hSw); go_simp; all_goals with_reducible rfl)
                        try simp only [Act.put, List.getElem_toArray, List.getElem_cons_zero, List.getElem_cons_succ, List.setIfInBounds_toArray, List.set_cons_zero, List.set_cons_succ]
                        refine wpAnyH_take (i := 6) (oi := _) (v := ?_) rfl (by kernel_rfl) (by kernel_rfl) (by kernel_rfl) (fun _ _ _ h => h) (Or.inl ⟨by rfl, ?_⟩) (by assumption) ?_
                        rotate_left
                        · (intro w' hSw; (try dsimp only at hSw); go_simp; all_goals with_reducible rfl)
                        try simp only [Act.put, List.getElem_toArray, List.getElem_cons_zero, List.getElem_cons_succ, List.setIfInBounds_toArray, List.set_cons_zero, List.set_cons_succ]
                        refine wpAnyH_take (i := 7) (oi := _) (v := ?_) rfl (by kernel_rfl) (by kernel_rfl) (by kernel_rfl) (fun _ _ _ h => h) (Or.inl ⟨by rfl, ?_⟩) (by assumption) ?_
                        rotate_left
                        · (intro w' hSw; (try dsimp only at hSw); go_simp; all_goals with_reducible rfl)
                        try simp only [Act.put, List.getElem_toArray, List.getElem_cons_zero, List.getElem_cons_succ, List.setIfInBounds_toArray, List.set_cons_zero, List.set_cons_succ]
                        refine wpAnyH_take (i := 8) (oi := _) (v := ?_) rfl (by kernel_rfl) (by kernel_rfl) (by kernel_rfl) (fun _ _ _ h => h) (Or.inl ⟨by rfl, ?_⟩) (by assumption) ?_
                        rotate_left
                        · (intro w' hSw; (try dsimp only at hSw); go_simp; all_goals with_reducible rfl)
                        try simp only [Act.put, List.getElem_toArray, List.getElem_cons_zero, List.getElem_cons_succ, List.setIfInBounds_toArray, List.set_cons_zero, List.set_cons_succ]
                        refine wpAnyH_take (i := 9) (oi := _) (v := ?_) rfl (by kernel_rfl) (by kernel_rfl) (by kernel_rfl) (fun _ _ _ h => h) (Or.inl ⟨by rfl, ?_⟩) (by assumption) ?_
                        rotate_left
                        · (intro w' hSw; (try dsimp only at hSw); go_simp; all_goals with_reducible rfl)
                        try simp only [Act.put, List.getElem_toArray, List.getElem_cons_zero, List.getElem_cons_succ, List.setIfInBounds_toArray, List.set_cons_zero, List.set_cons_succ]
                        refine wpAnyH_take (i := 10) (oi := _) (v := ?_) rfl (by kernel_rfl) (by kernel_rfl) (by kernel_rfl) (fun _ _ _ h => h) (Or.inl ⟨by rfl, ?_⟩) (by assumption) ?_
                        rotate_left
                        · (intro w' hSw; (try dsimp only at hSw); go_simp; all_goals with_reducible rfl)
                        try simp only [Act.put, List.getElem_toArray, List.getElem_cons_zero, List.getElem_cons_succ, List.setIfInBounds_toArray, List.set_cons_zero, List.set_cons_succ]
                        refine wpAnyH_take (i := 11) (oi := _) (v := ?_) rfl (by kernel_rfl) (by kernel_rfl) (by kernel_rfl) (fun _ _ _ h => h) (Or.inl ⟨by rfl, ?_⟩) (by assumption) ?_
                        rotate_left
                        · (intro w' hSw; (try dsimp only at hSw); go_simp; all_goals with_reducible rfl)
                        try simp only [Act.put, List.getElem_toArray, List.getElem_cons_zero, List.getElem_cons_succ, List.setIfInBounds_toArray, List.set_cons_zero, List.set_cons_succ]
                        refine wpAnyH_take (i := 12) (oi := _) (v := ?_) rfl (by kernel_rfl) (by kernel_rfl) (by kernel_rfl) (fun _ _ _ h => h) (Or.inl ⟨by rfl, ?_⟩) (by assumption) ?_
                        rotate_left
                        · (intro w' hSw; (try dsimp only at hSw); go_simp; all_goals with_reducible rfl)
                        try simp only [Act.put, List.getElem_toArray, List.getElem_cons_zero, List.getElem_cons_succ, List.setIfInBounds_toArray, List.set_cons_zero, List.set_cons_succ]
                        refine wpAnyH_take (i := 13) (oi := _) (v := ?_) rfl (by kernel_rfl) (by kernel_rfl) (by kernel_rfl) (fun _ _ _ h => h) (Or.inl ⟨by rfl, ?_⟩) (by assumption) ?_
                        rotate_left
                        · (intro w' hSw; (try dsimp only at hSw); go_simp; all_goals with_reducible rfl)
                        try simp only [Act.put, List.getElem_toArray, List.getElem_cons_zero, List.getElem_cons_succ, List.setIfInBounds_toArray, List.set_cons_zero, List.set_cons_succ]
                        refine wpAnyH_done (by kernel_rfl) ?_ _
                        go_wp2_with fail
                        go_meet
                        exact ⟨rfl, Lib.hid ((Below.refl _ wr).drew)⟩
                      case rest =>
                        obtain ⟨rfl, HE⟩ := hcut
                        have HX := Lib.hid (HI.out.trans (HE.out.mono HI.out.size))
                        clear HE HI HS9
                        go_wp2_with fail
                        go_roundw
                        case rel => exact ⟨j + 1, HJL.out, by have := HJL.out; go_num, HX⟩
                        case measure => have := HJL.out; simp [intOf]; omega
                    · obtain rfl : j = o.path.length := by omega
                      have hge : ¬ (o.path.length : Int) < (o.path.length : Int) := by omega
                      have HX := Lib.hid (HCW.out.trans (HI.out.mono HCW.out.size))
                      clear HI hjl
                      go_wp2_with fail
                      go_roundw
                      case rel => exact ⟨k + 1, HLT.out, by have := HLT.out; go_num, HX⟩
                      case measure => have := HLT.out; simp [intOf]; omega
              · obtain rfl : k = ops.length := by omega
                have hge : ¬ (ops.length : Int) < (ops.length : Int) := by omega
                have hm := and_mask16 cut
                obtain ⟨c0, hc0⟩ : ∃ c0 : Nat, cut % 65536 = c0 := ⟨(cut % 65536).toNat, by omega⟩
                rw [hc0] at hm
                have hc1 : c0 ≤ 65535 := by omega
                have hL3 := HL.out.2.2.1
                have hL4 := HL.out.2.2.2.1
                obtain ⟨c, hcm⟩ : ∃ c : Nat, (c0 : Int) % (sx.size : Int) = c := ⟨c0 % sx.size, by simp⟩
                have hcl : c < l.length := by
                  have h1 := HL.out.2.2.2.2.2.1
                  have h2 := Int.emod_lt_of_pos (c0 : Int) (b := (sx.size : Int)) (by omega)
                  omega
                have hcs : c ≤ sx.size := by have h1 := HL.out.2.2.2.2.2.1; omega
                have hlz : ((sx.size : Int) == 0) = false := by rw [beq_eq_false_iff_ne]; have h1 := HL.out.2.2.2.2.2.1; omega
                have hse : ¬ sx = ByteArray.empty := fun e => by
                  have h1 := HL.out.2.2.2.2.2.1
                  rw [e] at h1
                  have h2 : ByteArray.empty.size = 0 := rfl
                  omega
                have hs9 : sx.size ≤ 200000000 := by have h1 := HL.out.2.2.2.2.2.1; omega
                have hext : sx.extract 0 c = ⟨(l.take c).toArray⟩ := by rw [HL.out.2.2.2.2.1, extract_list]; simp
                have HEXT := Lib.hid hext
                have HCL := Lib.hid (And.intro hcl hL4)
                have HB7 := Lib.hid (HB6.out.trans (HR.out.mono HB6.out.size))
                clear hc0 hext hL3 hL4 hcl HR HGO HB6 hlt
                go_wp2_with fail
                refine (read_any (sx.extract 0 c) wr).mono ?_
                rintro e w8 ⟨rfl, hr8, hb8⟩
                rw [HEXT.out] at hr8
                have hdo := decode_ops wr.heap.size (some (l.take c)) (fun r hr => by
                  have := Option.some.inj hr
                  rw [← this, List.length_take]
                  have := HCL.out
                  omega) w8 hr8
                have HD := Lib.hid hdo
                have HB8 := Lib.hid (HB7.out.trans (hb8.mono HB7.out.size))
                clear hr8 hb8 hdo
                go_wp2_with fail
                refine HD.out.mono ?_
                rintro e w9 ⟨os, za, zc, er, s, rfl, hdec, hgs, hgo, hs⟩
                rw [HL.out.2.1 c HCL.out.1] at hdec
                obtain ⟨he1, he2⟩ := Prod.mk.inj hdec
                subst he1
                subst he2
                have HF := Lib.hid (HB8.out.trans (hgs.frame HB8.out.size HB7.out.size))
                clear hdec hgs hgo hs HD
                go_wp2
                go_ret
                exact ⟨rfl, HF.out⟩
          · have hencO : encO ops = .tuple #[.string ⟨#[]⟩, .int .i64 1] := by
              unfold encO
              rw [check_yes h50 hall, if_neg (by simp), if_neg hfit]
            rw [hencO] at HENC
            clear hall hencO h50 hfit HBR
            go_wp2_with fail
            refine HENC.out.mono ?_
            rintro e w4 ⟨rfl, hb4⟩
            have HF := Lib.hid (HR.out.trans (hb4.mono HR.out.size))
            clear hb4 HENC
            go_wp2
            go_ret
            exact ⟨rfl, HF.out⟩

end Go.Proofs.Ytljhcnlifdmacaa.patchBytes
