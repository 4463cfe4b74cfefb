/-
  ValBytes: for every value the law's function returns true, and writes nothing that was there.
-/
import Derived.Test.YtmpdmiloolbpbaaVReads
import Derived.Test.YtmpdmiloolbpbaaVFew
import Derived.Test.YtmpdmiloolbpbaaVSame
import Derived.Test.YtmpdmiloolbpbaaVRight
import Derived.Deep.RegionWith
import Derived.Deep.DeepCutAuto
import Derived.Outline
namespace Go.Proofs.Ytmpdmiloolbpbaa.valBytes
open Go.RowKit

attribute [local irreducible] wpStill

set_option maxHeartbeats 4000000 in
set_option maxRecDepth 100000 in
theorem walk (v : V) (lv fv : Value) (w : World) (his : v.Is w lv fv) (hn : v.n64) :
    Calls Try.prog 3 #[.agg #[.int .i64 v.kind, .bool v.yes, .int .i64 v.num, .string v.text, lv, fv]] w fun e w' => e = .returned (.bool true) ∧ Below w.heap.size w w' := by
  obtain ⟨⟨a, c, rfl⟩, ⟨a', c', rfl⟩, hLb, hFb⟩ := his.len
  have hb0 := ((Below.refl _ w).alloc (Nat.le_refl _) (.cells #[.int .i64 v.kind, .bool v.yes, .int .i64 v.num, .string v.text, .slice a v.list.length c, .slice a' v.fields.length c'] 26))
  have HS : Hid (∀ w', Below w.heap.size w w' → v.Is w' (.slice a v.list.length c) (.slice a' v.fields.length c')) := Lib.hid (fun w' hb => his.below hb)
  -- the value's box, as long as nothing old is written
  have HX : Hid (∀ w', Below (w.heap.size + 1) (w.alloc (.cells #[.int .i64 v.kind, .bool v.yes, .int .i64 v.num, .string v.text, .slice a v.list.length c, .slice a' v.fields.length c'] 26)) w' →
      Below w.heap.size w w' ∧ w.heap.size < w'.heap.size ∧ w'.cell? ⟨w.heap.size, 0, none⟩ = some (.int .i64 v.kind) ∧ w'.cell? ⟨w.heap.size, 1, none⟩ = some (.bool v.yes) ∧ w'.cell? ⟨w.heap.size, 2, none⟩ = some (.int .i64 v.num) ∧ w'.cell? ⟨w.heap.size, 3, none⟩ = some (.string v.text) ∧
      w'.cell? ⟨w.heap.size, 4, none⟩ = some (.slice a v.list.length c) ∧ w'.cell? ⟨w.heap.size, 5, none⟩ = some (.slice a' v.fields.length c')) := Lib.hid (fun w' hb => by
    have h : ∀ i : Nat, w'.cell? ⟨w.heap.size, i, none⟩ = (w.alloc (.cells #[.int .i64 v.kind, .bool v.yes, .int .i64 v.num, .string v.text, .slice a v.list.length c, .slice a' v.fields.length c'] 26)).cell? ⟨w.heap.size, i, none⟩ := fun i => hb.cell (by show w.heap.size < _; omega)
    refine ⟨hb0.trans (hb.mono (by omega)), by have := hb.size; simp at this; omega, ?_, ?_, ?_, ?_, ?_, ?_⟩ <;> (rw [h]; simp))
  clear his hb0
  cases hf : v.few 0
  · go_enter Try.func3, Try.ntmps3
    go_wp2_with fail
    refine (head_any _).mono ?_
    rintro e w1 ⟨rfl, hb1⟩
    obtain ⟨hb1w, hz1, x0, x1, x2, x3, x4, x5⟩ := HX.out w1 (hb1.mono (by simp))
    have hfew := few_any v _ _ w1 (HS.out _ hb1w)
    rw [hf] at hfew
    clear hb1 hf
    go_wp2_with fail
    refine hfew.mono ?_
    rintro e w2 ⟨rfl, hb2⟩
    have hb2w := hb1w.trans (hb2.mono hb1w.size)
    clear hfew hb2 hb1w
    go_wp2
    go_ret
    exact ⟨rfl, hb2w⟩
  · have HF := Lib.hid hf
    clear hf
    go_enter Try.func3, Try.ntmps3
    go_wp2_with fail
    refine (head_any _).mono ?_
    rintro e w1 ⟨rfl, hb1⟩
    have hB1 := hb1.mono (B' := w.heap.size + 1) (by simp)
    obtain ⟨hb1w, hz1, x0, x1, x2, x3, x4, x5⟩ := HX.out w1 hB1
    have hfew := few_any v _ _ w1 (HS.out _ hb1w)
    rw [HF.out] at hfew
    clear hb1
    go_wp2_with fail
    refine hfew.mono ?_
    rintro e w2 ⟨rfl, hb2⟩
    have hB2 := hB1.trans (hb2.mono (by omega))
    clear hfew hb2 hB1 hb1w hz1 x0 x1 x2 x3 x4 x5
    obtain ⟨hb2w, hz2, x0, x1, x2, x3, x4, x5⟩ := HX.out w2 hB2
    clear hb2w hz2
    go_upto_region 5 with fail
    go_cut [16] (fun s wx => s = .bool false ∧ Below (w.heap.size + 1) (w.alloc (.cells #[.int .i64 v.kind, .bool v.yes, .int .i64 v.num, .string v.text, .slice a v.list.length c, .slice a' v.fields.length c'] 26)) wx)
    case first =>
      have hB2d := hB2.drew
      go_region_with (first
        | (go_at_call 14; (first | have hP := hB4 | have hP := hB2d); refine (right_any v _ _ _ (HS.out _ (HX.out _ hP).1)).mono ?_; rintro e w3 ⟨rfl, hb3⟩; have hB3 := hP.trans (hb3.mono (HX.out _ hP).2.1); obtain ⟨_, _, x0, x1, x2, x3, x4, x5⟩ := HX.out w3 hB3)
        | (go_at_call 15; (first | have hP := hB3 | have hP := hB2d); refine (rt_any v _ _ _ (HS.out _ (HX.out _ hP).1)).mono ?_; rintro e w4 ⟨rfl, hb4⟩; have hB4 := hP.trans (hb4.mono (HX.out _ hP).2.1); obtain ⟨_, _, x0, x1, x2, x3, x4, x5⟩ := HX.out w4 hB4))
      all_goals
        go_wp2_with fail
        go_meet
        first | exact ⟨rfl, hB4⟩ | exact ⟨rfl, hB3⟩
    case rest =>
      obtain ⟨rfl, hB5⟩ := hcut
      clear hB2 x0 x1 x2 x3 x4 x5
      obtain ⟨hbw, hzw, x0, x1, x2, x3, x4, x5⟩ := HX.out wc hB5
      have HB5 := Lib.hid hB5
      cases hr : v.right 32
      · have henc := enc_any v _ _ _ (HS.out _ hbw) (fun h => by rw [hr] at h; cases h)
        have e1 : encOf v = .tuple #[.string ⟨#[]⟩, .int .i64 1] := by unfold encOf; rw [hr]; rfl
        rw [e1] at henc
        have hrt := fun W (hW : v.Is W (.slice a v.list.length c) (.slice a' v.fields.length c')) => rt_any v _ _ W hW
        rw [hr] at hrt
        have HRT := Lib.hid hrt
        clear hr e1 hrt hbw
        go_wp2_with fail
        refine henc.mono ?_
        rintro e w5 ⟨rfl, hb⟩
        have hB6 := HB5.out.trans (hb.mono hzw)
        clear hb henc hB5 hzw x0 x1 x2 x3 x4 x5
        obtain ⟨hbw, hzw, x0, x1, x2, x3, x4, x5⟩ := HX.out w5 hB6
        have hrt := HRT.out _ (HS.out _ hbw)
        go_wp2_with fail
        refine hrt.mono ?_
        rintro e w6 ⟨rfl, hb⟩
        have hb7 := hbw.trans (hb.mono hbw.size)
        clear hb hrt hbw
        go_wp2
        go_ret
        exact ⟨rfl, hb7⟩
      · have hfit := fun (_ : v.right 32 = true) => fit_of_few v.dep v 0 32 (Nat.le_refl _) HF.out hr hn
        have henc := enc_any v _ _ _ (HS.out _ hbw) hfit
        have hrt := fun W (hW : v.Is W (.slice a v.list.length c) (.slice a' v.fields.length c')) => rt_any v _ _ W hW
        rw [hr] at hrt
        have HRT := Lib.hid hrt
        have HR := Lib.hid hr
        by_cases hlen : v.lay.length ≤ 4096
        · have e1 : encOf v = .tuple #[.string ⟨v.lay.toArray⟩, .int .i64 0] := by unfold encOf; rw [hr, if_pos rfl, if_pos hlen]
          rw [e1] at henc
          have hdec : Hid (decOf v.lay = .inr v) := Lib.hid (by
            have h := decV_laid 32 v [] hr hn hlen
            rw [List.append_nil] at h
            unfold decOf
            rw [if_neg (by omega), h])
          have hsz : (ByteArray.mk v.lay.toArray).size = v.lay.length := rfl
          obtain ⟨s, hs⟩ : ∃ s, s = (ByteArray.mk v.lay.toArray) := ⟨_, rfl⟩
          rw [← hs] at henc hsz
          have hs4 : ((s.size : Nat) : Int) ≤ 4096 := by omega
          have HSE := Lib.hid hs
          clear hr e1 hrt hfit hbw hlen hsz hs
          go_wp2_with fail
          refine henc.mono ?_
          rintro e w5 ⟨rfl, hb⟩
          have hB6 := HB5.out.trans (hb.mono hzw)
          clear hb henc hB5 hzw x0 x1 x2 x3 x4 x5
          obtain ⟨hbw, hzw, x0, x1, x2, x3, x4, x5⟩ := HX.out w5 hB6
          have hrt := HRT.out _ (HS.out _ hbw)
          go_wp2_with fail
          refine hrt.mono ?_
          rintro e w6 ⟨rfl, hb⟩
          have hB7 := hB6.trans (hb.mono hzw)
          clear hb hrt hbw hB6 hzw x0 x1 x2 x3 x4 x5
          obtain ⟨hbw, hzw, x0, x1, x2, x3, x4, x5⟩ := HX.out w6 hB7
          have hd := decode_any s v.lay HSE.out w6
          go_wp2_with fail
          refine hd.mono ?_
          rintro e w7 ⟨hb8, ⟨er, h1, _⟩ | ⟨u, lu, fu, h1, rfl, hat⟩⟩
          · rw [hdec.out] at h1; cases h1
          rw [hdec.out] at h1
          injection h1 with h1
          subst h1
          obtain ⟨⟨ax, cx, rfl⟩, ⟨ay, cy, rfl⟩, _, _⟩ := hat.is.len
          have hB8 := hB7.trans (hb8.mono hzw)
          have his := hat.is
          clear hd hb8 hat hbw hB7 hzw x0 x1 x2 x3 x4 x5
          have hbn : Below w7.heap.size w7 (w7.alloc (.cells #[.int .i64 v.kind, .bool v.yes, .int .i64 v.num, .string v.text, .slice ax v.list.length cx, .slice ay v.fields.length cy] 26)) := (Below.refl _ w7).alloc (Nat.le_refl _) _
          have hB9 := hB8.trans (hbn.mono (HX.out _ hB8).2.1)
          obtain ⟨hbw, hzw, x0, x1, x2, x3, x4, x5⟩ := HX.out _ hB9
          have hsm := sameEq_any v _ _ _ _ _ (V.Is.below his hbn) (HS.out _ hbw)
          have hz7 := (HX.out _ hB8).2.1
          go_wp2_with fail
          refine hsm.mono ?_
          rintro e w8 ⟨rfl, hb⟩
          have hb' := hbn.trans (hb.mono (by simp))
          have hB10 := hB9.trans (hb.mono hzw)
          have hcl : ∀ i : Nat, w8.cell? ⟨w7.heap.size, i, none⟩ = (w7.alloc (.cells #[.int .i64 v.kind, .bool v.yes, .int .i64 v.num, .string v.text, .slice ax v.list.length cx, .slice ay v.fields.length cy] 26)).cell? ⟨w7.heap.size, i, none⟩ := fun i => hb.cell (by simp)
          have y0 := hcl 0
          have y1 := hcl 1
          have y2 := hcl 2
          have y3 := hcl 3
          have y4 := hcl 4
          have y5 := hcl 5
          simp at y0 y1 y2 y3 y4 y5
          have hri := right_any v _ _ w8 (V.Is.below his hb')
          rw [HR.out] at hri
          obtain ⟨hbw8, _⟩ := HX.out _ hB10
          clear hsm hb hb' hcl hB9 hB10 hbn hbw hzw x0 x1 x2 x3 x4 x5 hB8 hz7
          go_wp2_with fail
          refine hri.mono ?_
          rintro e w9 ⟨rfl, hb⟩
          have hb11 := hbw8.trans (hb.mono hbw8.size)
          clear hri hb hbw8
          go_wp2
          go_ret
          exact ⟨rfl, hb11⟩
        · have e1 : encOf v = .tuple #[.string ⟨#[]⟩, .int .i64 4] := by unfold encOf; rw [hr, if_pos rfl, if_neg hlen]
          rw [e1] at henc
          clear hr e1 hrt hfit hbw hlen
          go_wp2_with fail
          refine henc.mono ?_
          rintro e w5 ⟨rfl, hb⟩
          have hB6 := HB5.out.trans (hb.mono hzw)
          clear hb henc hB5 hzw x0 x1 x2 x3 x4 x5
          obtain ⟨hbw, hzw, x0, x1, x2, x3, x4, x5⟩ := HX.out w5 hB6
          have hrt := HRT.out _ (HS.out _ hbw)
          go_wp2_with fail
          refine hrt.mono ?_
          rintro e w6 ⟨rfl, hb⟩
          have hb7 := hbw.trans (hb.mono hbw.size)
          clear hb hrt hbw
          go_wp2
          go_ret
          exact ⟨rfl, hb7⟩

end Go.Proofs.Ytmpdmiloolbpbaa.valBytes
