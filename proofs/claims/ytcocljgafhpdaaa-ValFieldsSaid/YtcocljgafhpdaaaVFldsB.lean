/-
  The walk of mailbaglaw02.ValFields.
  The walk of mailbaglaw02.ValFields: every input.
-/
import Derived.Test.YtcocljgafhpdaaaVFldsA
section
namespace Go.Proofs.Ytcocljgafhpdaaa.valFields
open Go.RowKit Go.Sort Go.Maps

attribute [local irreducible] wpStill

set_option maxHeartbeats 8000000 in
set_option maxRecDepth 100000 in
theorem walk_in {w : World} (a : Option Addr) (cap : Nat) (d : Array FC) (hd : DCame w a d) (hd20 : d.size ≤ 20) (hsm : ∀ x ∈ d, x.v.sm) (hok : ∀ x ∈ d, okF x.fd = true) (nm : ByteArray) (hnm : nm.size ≤ 60) (x : V) (lv fv : Value) (hx : x.Is w lv fv) (hxs : x.sm) (hf : x.few 0 = true) :
    Calls Try.prog 3 #[.slice a d.size cap, .string nm, .agg #[.int .i64 x.kind, .bool x.yes, .int .i64 x.num, .string x.text, lv, fv]] w fun e w' => e = .returned (.bool true) ∧ Below w.heap.size w w' := by
  obtain ⟨⟨px, pc, rfl⟩, ⟨py, pd, rfl⟩, _, _⟩ := hx.len
  have HB0 := Lib.hid (XB.new w #[.int .i64 x.kind, .bool x.yes, .int .i64 x.num, .string x.text, .slice px x.list.length pc, .slice py x.fields.length pd])
  have HX := Lib.hid hx
  have HD := Lib.hid hd
  have HP := Lib.hid (And.intro hsm (And.intro hok hxs))
  have h1 : ¬ (20 : Int) < (d.size : Int) := by omega
  have h2 : ¬ (60 : Int) < (nm.size : Int) := by omega
  clear hx hd hsm hok hxs
  go_enter Try.func3, Try.ntmps3
  go_wp2_with fail
  refine (head_any _).mono ?_
  rintro e w1 ⟨rfl, hb1⟩
  have hxb := HB0.out.below hb1
  have hfew := few_any x _ _ w1 (HX.out.below hxb.1)
  rw [hf] at hfew
  obtain ⟨⟨x0, x1, x2, x3, x4, x5⟩, _⟩ := hxb.2.six
  have H1 := Lib.hid hxb
  have HFW := Lib.hid hfew
  clear hb1 hxb hfew hf
  go_wp2_with fail
  refine HFW.out.mono ?_
  rintro e w2 ⟨rfl, hb2⟩
  have H2 := Lib.hid (H1.out.below hb2)
  clear hb2 x0 x1 x2 x3 x4 x5 H1 HFW HB0
  go_wp2_with fail
  go_loopw [50] (fun i wr => ∃ k : Nat, k ≤ d.size ∧ i = .int .i64 k ∧ Hid (XB w #[.int .i64 x.kind, .bool x.yes, .int .i64 x.num, .string x.text, .slice px x.list.length pc, .slice py x.fields.length pd] wr)) (fun i _ => d.size - (intOf i).toNat)
  case atStart => exact ⟨0, Nat.zero_le _, rfl, H2⟩
  case round =>
    obtain ⟨k, hk, rfl, HR⟩ := hrel
    clear H2
    by_cases hlt : k < d.size
    · have hdc := HD.out.below HR.out.1
      obtain ⟨b, off, rfl, hb, hin⟩ := hdc.2.resolve_left (by omega)
      have hel := hdc.1 k hlt
      have hin := hin k hlt
      have hokk := HP.out.2.1 d[k] (Array.getElem_mem hlt)
      obtain ⟨p, hpe⟩ : ∃ p, p = d[k] := ⟨_, rfl⟩
      rw [← hpe] at hin hel hokk
      replace hel : p.v.Is wr (.slice p.a p.v.list.length p.c) (.slice p.b p.v.fields.length p.d) := hel
      obtain ⟨p0, p1, p2, p3, p4, p5, p6⟩ := InAt.seven (show InAt wr b (off + k * 7) [.string p.nm, .int .i64 p.v.kind, .bool p.v.yes, .int .i64 p.v.num, .string p.v.text, .slice p.a p.v.list.length p.c, .slice p.b p.v.fields.length p.d] from hin)
      have hkl : (k : Int) < (d.size : Int) := by omega
      have hA : Below wr.heap.size wr (wr.alloc (.cells #[.string p.nm, .int .i64 p.v.kind, .bool p.v.yes, .int .i64 p.v.num, .string p.v.text, .slice p.a p.v.list.length p.c, .slice p.b p.v.fields.length p.d] 30)) := (Below.refl _ wr).alloc (Nat.le_refl _) _
      have hfw := few_any p.v _ _ (wr.alloc (.cells #[.string p.nm, .int .i64 p.v.kind, .bool p.v.yes, .int .i64 p.v.num, .string p.v.text, .slice p.a p.v.list.length p.c, .slice p.b p.v.fields.length p.d] 30)) (hel.below hA)
      have hxa := HR.out.below hA
      have hok2 := Bool.and_eq_true _ _ |>.mp hokk
      have hn' : ¬ (60 : Int) < (p.nm.size : Int) := by have : p.nm.size ≤ 60 := of_decide_eq_true hok2.1; omega
      rw [show p.v.few 0 = true from hok2.2] at hfw
      have HLT := Lib.hid hlt
      have HXA := Lib.hid hxa
      have HFW := Lib.hid hfw
      clear hin hel hokk hok2 hfw hxa hA hpe hlt HR hdc
      go_wp2_with fail
      refine HFW.out.mono ?_
      rintro e w4 ⟨rfl, hb4⟩
      have H4 := Lib.hid (HXA.out.below hb4)
      clear hb4
      go_wp2
      go_roundw
      case rel => exact ⟨k + 1, by have := HLT.out; omega, by have := HLT.out; go_num, H4⟩
      case measure => have := HLT.out; simp [intOf]; omega
    · obtain rfl : k = d.size := by omega
      have hge : ¬ (d.size : Int) < (d.size : Int) := by omega
      have hmk : (Instr.makeMap 31 none).run Try.prog wr = .ok (.map (some wr.heap.size)) (wr.alloc (.map #[] 0)) := by kernel_rfl
      have HST : Hid (S1 w #[.int .i64 x.kind, .bool x.yes, .int .i64 x.num, .string x.text, .slice px x.list.length pc, .slice py x.fields.length pd] wr.heap.size (d.toList.take 0) (wr.alloc (.map #[] 0))) := Lib.hid ⟨HR.out.below ((Below.refl _ wr).alloc (Nat.le_refl _) _), 0, Nat.zero_le _, MapAt.made _ wr, HR.out.1.size⟩
      clear hlt HR
      go_wp2_with fail
      generalize wr.heap.size = mb at HST ⊢
      go_loopw [68] (fun i wr => ∃ k : Nat, k ≤ d.size ∧ i = .int .i64 k ∧ Hid (S1 w #[.int .i64 x.kind, .bool x.yes, .int .i64 x.num, .string x.text, .slice px x.list.length pc, .slice py x.fields.length pd] mb (d.toList.take k) wr)) (fun i _ => d.size - (intOf i).toNat)
      case atStart => exact ⟨0, Nat.zero_le _, rfl, HST⟩
      case round =>
        obtain ⟨k, hk, rfl, HR⟩ := hrel
        clear HST hmk
        by_cases hlt : k < d.size
        · have hdc := HD.out.below HR.out.1.1
          obtain ⟨b, off, rfl, hb, hin⟩ := hdc.2.resolve_left (by omega)
          have hin := hin k hlt
          have hokk := HP.out.2.1 d[k] (Array.getElem_mem hlt)
          have htk : d.toList.take (k + 1) = d.toList.take k ++ [d[k]] := by rw [List.take_succ_eq_append_getElem (by simpa using hlt)]; simp
          obtain ⟨p, hpe⟩ : ∃ p, p = d[k] := ⟨_, rfl⟩
          rw [← hpe] at hin hokk htk
          obtain ⟨p0, p1, p2, p3, p4, p5, p6⟩ := InAt.seven (show InAt wr b (off + k * 7) [.string p.nm, .int .i64 p.v.kind, .bool p.v.yes, .int .i64 p.v.num, .string p.v.text, .slice p.a p.v.list.length p.c, .slice p.b p.v.fields.length p.d] from hin)
          have hkl : (k : Int) < (d.size : Int) := by omega
          have hA : Below wr.heap.size wr (wr.alloc (.cells #[.string p.nm, .int .i64 p.v.kind, .bool p.v.yes, .int .i64 p.v.num, .string p.v.text, .slice p.a p.v.list.length p.c, .slice p.b p.v.fields.length p.d] 30)) := (Below.refl _ wr).alloc (Nat.le_refl _) _
          obtain ⟨hxa, n, hn, hma, hmb⟩ := HR.out.below hA
          have hs60 : p.nm.size ≤ 60 := of_decide_eq_true (Bool.and_eq_true _ _ |>.mp hokk).1
          have hlk : (d.toList.take k).length = k := by rw [List.length_take, Array.length_toList]; omega
          obtain ⟨w5, hrun5, hm5, hg5⟩ := MapAt.store (e := 26) hma Try.underlying9 Try.underlying31 (by omega) p.nm (by unfold maxLen; omega) (vagg p)
          unfold vagg at hrun5
          have H5 : Hid (S1 w #[.int .i64 x.kind, .bool x.yes, .int .i64 x.num, .string x.text, .slice px x.list.length pc, .slice py x.fields.length pd] mb (d.toList.take (k + 1)) w5) := Lib.hid (by
            rw [htk]
            refine ⟨⟨hxa.1.grown hg5 hxa.1.size (fun q hq => by have := Option.some.inj hq; omega), (hg5.block _ hxa.2.lt (fun e => by
              have e := Option.some.inj e
              have h9 := hxa.2
              obtain ⟨es, clock, hb9, _⟩ := hma
              rw [← e] at hb9
              unfold Box at h9
              rw [h9] at hb9
              injection hb9 with hb9
              cases hb9)).trans hxa.2⟩, n + 1, by rw [List.length_append, hlk]; simp; omega, ?_, hmb⟩
            rw [lastMap_snoc]
            exact hm5)
          have HLT := Lib.hid hlt
          clear hin hokk hA hpe hlt HR hdc htk hxa hma hn hs60 hlk hm5 hg5
          go_wp2
          go_roundw
          case rel => exact ⟨k + 1, by have := HLT.out; omega, by have := HLT.out; go_num, H5⟩
          case measure => have := HLT.out; simp [intOf]; omega
        · obtain rfl : k = d.size := by omega
          have hge : ¬ (d.size : Int) < (d.size : Int) := by omega
          have hs1 := HR.out
          rw [List.take_of_length_le (by simp)] at hs1
          have hom := ofMap_d (HD.out.below hs1.1.1) cap hd20 HP.out.1
          have HOM := Lib.hid hom
          have HS1 := Lib.hid hs1
          clear hom hs1 HR hlt
          go_wp2_with fail
          refine HOM.out.mono ?_
          rintro e w6 ⟨mv, rfl, hat6, hb6⟩
          have hlenK := kept_count d
          obtain ⟨n, ma, mc, rfl, hnk, hnl, hn20, hs2⟩ : ∃ n ma mc, mv = .slice ma n mc ∧ ((keptF d).map FC.fd).length = n ∧ (lastMap d.toList).length = n ∧ n ≤ 20 ∧ S2 w #[.int .i64 x.kind, .bool x.yes, .int .i64 x.num, .string x.text, .slice px x.list.length pc, .slice py x.fields.length pd] mb w6.heap.size d.toList ma n mc ((keptF d).map FC.fd) (w6.alloc (.cells #[.int .i64 5, .bool false, .int .i64 0, .string ⟨#[]⟩, .slice none 0 0, .slice ma n mc] 26)) := by
            have hfa : FAt w6 All ((keptF d).map FC.fd) mv := (V.at_iff.1 hat6).2.move (fun b _ _ => ⟨trivial, rfl⟩) (Nat.le_refl _)
            obtain ⟨ma, mc, rfl, q1, q2, q3⟩ := hfa
            have hA : Below w6.heap.size w6 (w6.alloc (.cells #[.int .i64 5, .bool false, .int .i64 0, .string ⟨#[]⟩, .slice none 0 0, .slice ma ((keptF d).map FC.fd).length mc] 26)) := (Below.refl _ w6).alloc (Nat.le_refl _) _
            have hk := kept_length d
            exact ⟨_, ma, mc, rfl, rfl, by rw [hlenK, List.length_map], by rw [List.length_map]; omega, (HS1.out.below hb6).below hA, Box.new w6 _ _, FAt.move (fun b _ hlt => ⟨trivial, hA.block b hlt⟩) hA.size ⟨ma, mc, rfl, q1, q2, q3⟩⟩
          obtain ⟨m0, hm0⟩ : ∃ m0, m0 = w6.heap.size := ⟨_, rfl⟩
          have c0 := hs2.2.1.six.1.1
          have c5 := hs2.2.1.six.1.2.2.2.2.2
          obtain ⟨nn, hnn, hown, _⟩ := hs2.1.2
          have hown' : (w6.alloc (.cells #[.int .i64 5, .bool false, .int .i64 0, .string ⟨#[]⟩, .slice none 0 0, .slice ma n mc] 26)).ownsMap Try.prog 9 RV mb nn (dm (lastMap d.toList)) := hown
          have hsize : ((Maps.size (dm (lastMap d.toList)) : Nat) : Int) = (n : Int) := by
            unfold dm
            rw [Maps.size_eq, List.length_map, hnl]
          have HS2 := Lib.hid hs2
          have HN := Lib.hid (And.intro hnk (And.intro hnl hn20))
          clear hat6 hb6 HOM HS1 hlenK hs2 hnk hnl hown hm0
          have hlr : (Builtin.len_ #[31] 3 #[.map (some mb)]).run Try.prog (w6.alloc (.cells #[.int .i64 5, .bool false, .int .i64 0, .string ⟨#[]⟩, .slice none 0 0, .slice ma n mc] 26)) = .ok (.int .i64 n) (w6.alloc (.cells #[.int .i64 5, .bool false, .int .i64 0, .string ⟨#[]⟩, .slice none 0 0, .slice ma n mc] 26)) := by
            rw [← hsize]
            exact World.ownsMap.len hown' Try.underlying31 _
          clear hown' hsize hnn
          go_wp2_with fail
          generalize w6.heap.size = m0 at HS2 ⊢
          clear hlr c0 c5
          go_loopw [94] (fun i wr => ∃ k : Nat, k ≤ n ∧ i = .int .i64 k ∧ Hid (S2 w #[.int .i64 x.kind, .bool x.yes, .int .i64 x.num, .string x.text, .slice px x.list.length pc, .slice py x.fields.length pd] mb m0 d.toList ma n mc ((keptF d).map FC.fd) wr)) (fun i _ => n - (intOf i).toNat)
          case atStart => exact ⟨0, Nat.zero_le _, rfl, HS2⟩
          case round =>
            obtain ⟨k, hk, rfl, HR⟩ := hrel
            clear HS2
            by_cases hlt : k < n
            · have hs2 := HR.out
              obtain ⟨b0, off, rfl, hb0, hC⟩ : ∃ b0 off, ma = some ⟨b0, off, none⟩ ∧ b0 < wr.heap.size ∧ FCells wr All b0 off ((keptF d).map FC.fd) := by
                obtain ⟨_, _, e0, _, _, hq⟩ := hs2.2.2
                injection e0 with e1 _ _
                subst e1
                rcases hq with h | ⟨b0, off, ea, _, hb0, hC⟩
                · have := HN.out.1; rw [h] at this; simp at this; omega
                · exact ⟨b0, off, ea, hb0, hC⟩
              have hkl : k < ((keptF d).map FC.fd).length := by rw [HN.out.1]; exact hlt
              have hkK : k < (keptF d).length := by rw [List.length_map] at hkl; exact hkl
              obtain ⟨ql, qf, hin, hel⟩ := hC.get hkl
              rw [List.getElem_map] at hin hel
              have hmem := kept_mem (List.getElem_mem hkK)
              have hget := kept_get (List.getElem_mem hkK)
              have hprev : ∀ (h : 0 < k), ∃ s : ByteArray, wr.cell? ⟨b0, off + (k - 1) * 7, none⟩ = some (.string s) ∧ Op.bytesLess s.toList ((keptF d)[k]).nm.toList = true := fun h => by
                obtain ⟨ql', qf', hin', _⟩ := hC.get (i := k - 1) (by omega)
                rw [List.getElem_map] at hin'
                refine ⟨_, hin' 0 _ rfl, ?_⟩
                have := List.pairwise_iff_getElem.1 (kept_rise d) (k - 1) k (by omega) hkK (by omega)
                rw [Proofs.bytesLess_eq, Lib.toList_data, Lib.toList_data]
                exact decide_eq_true this
              obtain ⟨p, hpe⟩ : ∃ p, p = (keptF d)[k] := ⟨_, rfl⟩
              rw [← hpe] at hin hel hmem hget hprev
              replace hel : p.v.Is wr ql qf := hel
              obtain ⟨⟨gx, gc, rfl⟩, ⟨gy, gd, rfl⟩, _, _⟩ := hel.len
              obtain ⟨p0, p1, p2, p3, p4, p5, p6⟩ := InAt.seven (show InAt wr b0 (off + k * 7) [.string p.nm, .int .i64 p.v.kind, .bool p.v.yes, .int .i64 p.v.num, .string p.v.text, .slice gx p.v.list.length gc, .slice gy p.v.fields.length gd] from hin)
              have hkl' : (k : Int) < (n : Int) := by omega
              have hA : Below wr.heap.size wr (wr.alloc (.cells #[.string p.nm, .int .i64 p.v.kind, .bool p.v.yes, .int .i64 p.v.num, .string p.v.text, .slice gx p.v.list.length gc, .slice gy p.v.fields.length gd] 30)).drew := ((Below.refl _ wr).alloc (Nat.le_refl _) _).drew
              have hs2a := hs2.below hA
              have hps : p.nm.size ≤ 60 := of_decide_eq_true (Bool.and_eq_true _ _ |>.mp (HP.out.2.1 p hmem)).1
              have hpis : p.v.Is w (.slice p.a p.v.list.length p.c) (.slice p.b p.v.fields.length p.d) := by
                obtain ⟨i, hi, e⟩ := Array.getElem_of_mem hmem
                have := HD.out.1 i hi
                rw [e] at this
                exact this
              have hlook : (Instr.lookup 31 (.map (some mb)) (.string p.nm) false).run Try.prog (wr.alloc (.cells #[.string p.nm, .int .i64 p.v.kind, .bool p.v.yes, .int .i64 p.v.num, .string p.v.text, .slice gx p.v.list.length gc, .slice gy p.v.fields.length gd] 30)).drew = .ok (.agg #[.int .i64 p.v.kind, .bool p.v.yes, .int .i64 p.v.num, .string p.v.text, .slice p.a p.v.list.length p.c, .slice p.b p.v.fields.length p.d]) (wr.alloc (.cells #[.string p.nm, .int .i64 p.v.kind, .bool p.v.yes, .int .i64 p.v.num, .string p.v.text, .slice gx p.v.list.length gc, .slice gy p.v.fields.length gd] 30)).drew := by
                obtain ⟨nn, _, hm, _⟩ := hs2a.1.2
                have h9 := MapAt.look (e := 26) (t := 31) hm Try.underlying9 Try.underlying31 (z := .agg #[.int .i64 0, .bool false, .int .i64 0, .string ⟨#[]⟩, .slice none 0 0, .slice none 0 0]) (by kernel_rfl) p.nm (by unfold maxLen; omega) false
                rw [hget] at h9
                exact h9
              have HSAME := Lib.hid (sameEq_any p.v _ _ _ _ (wr.alloc (.cells #[.string p.nm, .int .i64 p.v.kind, .bool p.v.yes, .int .i64 p.v.num, .string p.v.text, .slice gx p.v.list.length gc, .slice gy p.v.fields.length gd] 30)).drew (hel.below hA) (hpis.below (hs2.1.1.1.trans (hA.mono hs2.1.1.1.size))))
              have HSA := Lib.hid hs2a
              have HLT := Lib.hid hlt
              have c5 := hs2.2.1.six.1.2.2.2.2.2
              have hmlt := hs2.2.1.lt
              by_cases h0 : k = 0
              · subst h0
                simp only [Nat.zero_mul, Nat.add_zero] at p0 p1 p2 p3 p4 p5 p6
                clear hs2 hC hkl hkK hin hel hmem hget hprev hpe hA hs2a hps hpis hlt HR
                go_wp2_with fail
                refine wp_region_mid 21 _ (by kernel_rfl) (by kernel_rfl) rfl ?_
                change wpStill _ _ (World.drew _) (fun a' => MidCall _ _ _ _ _ a' (World.drew _)) _ _
                simp only [List.take_succ_cons, List.take_zero, List.drop_succ_cons, List.drop_zero]
                repeat still_step
                refine wpStill_nil ?_
                refine midCall_of (by rfl) _ _ ?_ HSAME.out ?_
                · go_simp
                rintro w7 hb7
                have HS7 := Lib.hid (HSA.out.below hb7)
                clear hb7
                repeat still_step
                refine wpStill_nil ?_
                all_goals
                  go_wp2_with fail
                  go_roundw
                  case rel => exact ⟨1, by have := HLT.out; omega, by go_num, HS7⟩
                  case measure => have := HLT.out; simp [intOf]; omega
              · obtain ⟨s, hs, hless⟩ := hprev (by omega)
                have hgeq : ∀ W, (binOp .geq 9 (.string s) (.string p.nm)).run Try.prog W = .ok (.bool false) W := fun W => by
                  have : (binOp .geq 9 (.string s) (.string p.nm)).run Try.prog W = .ok (.bool (!Op.bytesLess s.toList p.nm.toList)) W := rfl
                  rw [this, hless]; rfl
                have hk0 : (0 : Int) < (k : Int) := by omega
                have hk0n : 0 < k := by omega
                have hk0d : decide ((0 : Int) < (k : Int)) = true := decide_eq_true hk0
                have hk1 : ((k : Int) - 1).toNat = k - 1 := by omega
                have hk2 : (0 : Int) ≤ (k : Int) - 1 := by omega
                have hk3 : (k : Int) - 1 < (n : Int) := by omega
                have hk4 : 1 ≤ k := by omega
                have hk5 : (1 : Int) ≤ (k : Int) := by omega
                have hk6 : k - 1 < n := by omega
                have hk7 : ¬ ((k : Int) - 1 < 0) := by omega
                have hk8 : ¬ ((n : Int) ≤ (k : Int) - 1) := by omega
                have hwrap : IntKind.i64.wrap ((k : Int) - 1) = (k : Int) - 1 := by have := HN.out.2.2; rw [IntKind.wrap_i64]; omega
                clear hs2 hC hkl hkK hin hel hmem hget hprev hpe hA hs2a hps hpis hlt HR
                go_wp2_with fail
                refine wp_region_mid 21 _ (by kernel_rfl) (by kernel_rfl) rfl ?_
                change wpStill _ _ (World.drew _) (fun a' => MidCall _ _ _ _ _ a' (World.drew _)) _ _
                simp only [List.take_succ_cons, List.take_zero, List.drop_succ_cons, List.drop_zero]
                repeat still_step
                refine wpStill_nil ?_
                refine midCall_of (by rfl) _ _ ?_ HSAME.out ?_
                · go_simp
                rintro w7 hb7
                have HS7 := Lib.hid (HSA.out.below hb7)
                clear hb7
                repeat still_step
                refine wpStill_nil ?_
                all_goals
                  go_wp2_with fail
                  go_roundw
                  case rel => exact ⟨k + 1, by have := HLT.out; omega, by have := HLT.out; go_num, HS7⟩
                  case measure => have := HLT.out; simp [intOf]; omega
            · obtain rfl : k = n := by omega
              have hge : ¬ (k : Int) < (k : Int) := by omega
              have hs2 := HR.out
              have hdIs : ∀ x ∈ d, x.v.Is w (.slice x.a x.v.list.length x.c) (.slice x.b x.v.fields.length x.d) := fun x hx => by
                obtain ⟨i, hi, e⟩ := Array.getElem_of_mem hx
                have := HD.out.1 i hi
                rw [e] at this
                exact this
              have hsmK : ∀ p ∈ (keptF d).map FC.fd, p.2.sm := fun p hp => by
                obtain ⟨q, hq, rfl⟩ := List.mem_map.1 hp
                exact HP.out.1 q (kept_mem hq)
              have hlenK : ((keptF d).map FC.fd).length ≤ 20 := by rw [HN.out.1]; exact HN.out.2.2
              have HSM := Lib.hid (And.intro hsmK (And.intro hlenK hdIs))
              obtain ⟨nn, hnn, hmap, hmbw⟩ := hs2.1.2
              obtain ⟨la, lc, fa, fc, hlk, hgis⟩ := look_u (w := w) (mb := mb) (k := nn) hdIs nm (by unfold maxLen; omega)
              have hget := get_o hs2.2.2 hsmK (by omega) nm
              obtain ⟨gv, hgv⟩ : ∃ gv, gv = getV ((keptF d).map FC.fd) nm := ⟨_, rfl⟩
              obtain ⟨b0, hb0⟩ : ∃ b0, b0 = (getF ((keptF d).map FC.fd) nm).isSome := ⟨_, rfl⟩
              rw [← hgv, ← hb0] at hget
              simp only [← hgv, ← hb0] at hlk
              rw [← hgv] at hgis
              have HGET := Lib.hid hget
              have hgetg : ∀ W, FAt W All ((keptF d).map FC.fd) (.slice ma k mc) → Calls Try.prog 14 #[.agg #[.int .i64 5, .bool false, .int .i64 0, .string ⟨#[]⟩, .slice none 0 0, .slice ma k mc], .string nm] W fun e w' =>
                  ∃ ga gc gb gd, e = .returned (.tuple #[.agg #[.int .i64 gv.kind, .bool gv.yes, .int .i64 gv.num, .string gv.text, .slice ga gv.list.length gc, .slice gb gv.fields.length gd], .bool b0]) ∧ gv.Is w' (.slice ga gv.list.length gc) (.slice gb gv.fields.length gd) ∧ Below W.heap.size W w' := fun W hW => by
                rw [hgv, hb0]
                exact get_o hW hsmK (by omega) nm
              have HGG := Lib.hid hgetg
              have HLEN : Hid (∀ W nn, MapAt 9 W mb nn (lastMap d.toList) → (Builtin.len_ #[31] 3 #[.map (some mb)]).run Try.prog W = .ok (.int .i64 k) W) := Lib.hid fun W nn hm => by
                have hsz : ((Maps.size (dm (lastMap d.toList)) : Nat) : Int) = (k : Int) := by
                  unfold dm
                  rw [Maps.size_eq, List.length_map, HN.out.2.1]
                rw [← hsz]
                exact World.ownsMap.len hm Try.underlying31 _
              have HLK := Lib.hid (And.intro hlk (And.intro hmap hgis))
              have HGV := Lib.hid (And.intro hgv hb0)
              have HS2 := Lib.hid hs2
              obtain ⟨⟨c0, c1, c2, c3, c4, c5⟩, _⟩ := hs2.2.1.six
              have hmlt := hs2.2.1.lt
              clear hdIs hsmK hlenK hnn hmap hmbw hlk hgis hget hgetg hgv hb0 hs2 HR
              go_wp2_with fail
              refine HGET.out.mono ?_
              rintro e w7 ⟨ga, gc, gb, gd, rfl, hgi, hb7⟩
              have hA7 : Below w7.heap.size w7 (w7.alloc (.cells #[.int .i64 gv.kind, .bool gv.yes, .int .i64 gv.num, .string gv.text, .slice ga gv.list.length gc, .slice gb gv.fields.length gd] 26)) := (Below.refl _ w7).alloc (Nat.le_refl _) _
              have hA8 : Below w7.heap.size w7 ((w7.alloc (.cells #[.int .i64 gv.kind, .bool gv.yes, .int .i64 gv.num, .string gv.text, .slice ga gv.list.length gc, .slice gb gv.fields.length gd] 26)).alloc (.cells #[.int .i64 gv.kind, .bool gv.yes, .int .i64 gv.num, .string gv.text, .slice la gv.list.length lc, .slice fa gv.fields.length fc] 26)) := hA7.alloc hA7.size _
              have hlk7 := HLK.out.1 (w7.alloc (.cells #[.int .i64 gv.kind, .bool gv.yes, .int .i64 gv.num, .string gv.text, .slice ga gv.list.length gc, .slice gb gv.fields.length gd] 26)) (HLK.out.2.1.kept ((hA7.block mb (Nat.lt_of_lt_of_le HLK.out.2.1.lt hb7.size)).trans (hb7.block mb HLK.out.2.1.lt)))
              have hS3 : S3 w #[.int .i64 x.kind, .bool x.yes, .int .i64 x.num, .string x.text, .slice px x.list.length pc, .slice py x.fields.length pd] mb m0 d.toList ma k mc ((keptF d).map FC.fd) (w7.heap.size + 1) gv la lc fa fc ((w7.alloc (.cells #[.int .i64 gv.kind, .bool gv.yes, .int .i64 gv.num, .string gv.text, .slice ga gv.list.length gc, .slice gb gv.fields.length gd] 26)).alloc (.cells #[.int .i64 gv.kind, .bool gv.yes, .int .i64 gv.num, .string gv.text, .slice la gv.list.length lc, .slice fa gv.fields.length fc] 26)) := by
                have hs7 := (HS2.out.below hb7).below hA8
                refine ⟨hs7, ?_, HLK.out.2.2.below hs7.1.1.1⟩
                have h9 := Box.new (w7.alloc (.cells #[.int .i64 gv.kind, .bool gv.yes, .int .i64 gv.num, .string gv.text, .slice ga gv.list.length gc, .slice gb gv.fields.length gd] 26)) 26 #[.int .i64 gv.kind, .bool gv.yes, .int .i64 gv.num, .string gv.text, .slice la gv.list.length lc, .slice fa gv.fields.length fc]
                rw [show (w7.alloc (.cells #[.int .i64 gv.kind, .bool gv.yes, .int .i64 gv.num, .string gv.text, .slice ga gv.list.length gc, .slice gb gv.fields.length gd] 26)).heap.size = w7.heap.size + 1 by simp] at h9
                exact h9
              have HSAME := Lib.hid (sameEq_any gv _ _ _ _ ((w7.alloc (.cells #[.int .i64 gv.kind, .bool gv.yes, .int .i64 gv.num, .string gv.text, .slice ga gv.list.length gc, .slice gb gv.fields.length gd] 26)).alloc (.cells #[.int .i64 gv.kind, .bool gv.yes, .int .i64 gv.num, .string gv.text, .slice la gv.list.length lc, .slice fa gv.fields.length fc] 26)) (hgi.below hA8) hS3.2.2)
              have HS3 := Lib.hid hS3
              have hs7 := HS2.out.below hb7
              obtain ⟨⟨c0, c1, c2, c3, c4, c5⟩, _⟩ := hs7.2.1.six
              have hmlt := hs7.2.1.lt
              obtain ⟨⟨x0, x1, x2, x3, x4, x5⟩, _⟩ := hs7.1.1.2.six
              have hxlt := hs7.1.1.2.lt
              clear hA7 hA8 hS3 hgi hb7 HGET HLK HS2 hs7
              cases b0
              all_goals go_wp2_with fail
              rotate_left
              refine HSAME.out.mono ?_
              rintro e w8 ⟨rfl, hb8⟩
              replace HS3 := Lib.hid (HS3.out.below hb8)
              have hs8 := HS3.out.1
              clear c0 c1 c2 c3 c4 c5 hmlt x0 x1 x2 x3 x4 x5 hxlt
              obtain ⟨⟨c0, c1, c2, c3, c4, c5⟩, _⟩ := hs8.2.1.six
              have hmlt := hs8.2.1.lt
              obtain ⟨⟨x0, x1, x2, x3, x4, x5⟩, _⟩ := hs8.1.1.2.six
              have hxlt := hs8.1.1.2.lt
              clear hb8 hs8
              go_wp2_with fail
              rotate_left
              all_goals
                refine (HS3.out.1.with nm HX.out HP.out.2.2 HSM.out.1 HSM.out.2.1).mono ?_
                rintro e w9 ⟨wa, wn, wc, wkf, rfl, hmb9, ⟨ix, hwkf⟩, hb9⟩
                replace HS3 := Lib.hid (HS3.out.below hb9)
                clear c0 c1 c2 c3 c4 c5 hmlt x0 x1 x2 x3 x4 x5 hxlt HSAME hb9
                generalize w7.heap.size + 1 = q0 at HS3 ⊢
                have HMB := Lib.hid hmb9
                have hwkf' := Lib.hid (show ∀ p ∈ wkf, p.2.sm by rw [hwkf]; exact ins_sm (off_sm HSM.out.1) HP.out.2.2)
                have hlenw := Lib.hid (show wkf.length ≤ 100000 by
                  rw [hwkf]
                  have h1 := ins_len (offF ((keptF d).map FC.fd) nm) ix (nm, x)
                  have h2 := off_len ((keptF d).map FC.fd) nm
                  have h3 := HSM.out.2.1
                  omega)
                have hgetw := Lib.hid (show getF wkf nm = some x by rw [hwkf]; exact getF_ins_self (getF_off_self _ _) ix x)
                have HWK := Lib.hid hwkf
                have hs9 := HS3.out.1
                obtain ⟨⟨c0, c1, c2, c3, c4, c5⟩, _⟩ := hs9.2.1.six
                have hmlt := hs9.2.1.lt
                clear hmb9 hwkf hs9
                go_wp2_with fail
                have hA9 : Below w9.heap.size w9 (w9.alloc (.cells #[.int .i64 5, .bool false, .int .i64 0, .string ⟨#[]⟩, .slice none 0 0, .slice wa wn wc] 26)) := (Below.refl _ w9).alloc (Nat.le_refl _) _
                have hs3a := HS3.out.below hA9
                clear HS3 hA9 c0 c1 c2 c3 c4 c5 hmlt
                refine (hs3a.1.without nm HSM.out.1 HSM.out.2.1).mono ?_
                rintro e w10 ⟨oa, on, oc, okf, rfl, hmb10, hokf, hb10⟩
                have hs10 := hs3a.below hb10
                have hw10 := HMB.out.below hb10
                have hO : Below w10.heap.size w10 (w10.alloc (.cells #[.int .i64 5, .bool false, .int .i64 0, .string ⟨#[]⟩, .slice none 0 0, .slice oa on oc] 26)) := (Below.refl _ w10).alloc (Nat.le_refl _) _
                have hwlt := hw10.1.lt
                obtain ⟨wb, hwb⟩ : ∃ wb, wb = w9.heap.size := ⟨_, rfl⟩
                rw [← hwb] at hw10 hwlt ⊢
                have HS4 : Hid (S3 w #[.int .i64 x.kind, .bool x.yes, .int .i64 x.num, .string x.text, .slice px x.list.length pc, .slice py x.fields.length pd] mb m0 d.toList ma k mc ((keptF d).map FC.fd) q0 gv la lc fa fc (w10.alloc (.cells #[.int .i64 5, .bool false, .int .i64 0, .string ⟨#[]⟩, .slice none 0 0, .slice oa on oc] 26)) ∧ MB (w10.alloc (.cells #[.int .i64 5, .bool false, .int .i64 0, .string ⟨#[]⟩, .slice none 0 0, .slice oa on oc] 26)) wb wa wn wc wkf ∧ MB (w10.alloc (.cells #[.int .i64 5, .bool false, .int .i64 0, .string ⟨#[]⟩, .slice none 0 0, .slice oa on oc] 26)) w10.heap.size oa on oc okf) := Lib.hid ⟨hs10.below hO, hw10.below hO, hmb10⟩
                have hokf' := Lib.hid (show ∀ p ∈ okf, p.2.sm by rw [hokf]; exact off_sm HSM.out.1)
                have hleno := Lib.hid (show okf.length ≤ 100000 by
                  rw [hokf]
                  have h2 := off_len ((keptF d).map FC.fd) nm
                  have h3 := HSM.out.2.1
                  omega)
                have hgeto := Lib.hid (show getF okf nm = none by rw [hokf]; exact getF_off_self _ _)
                have HOK := Lib.hid hokf
                obtain ⟨⟨c0, c1, c2, c3, c4, c5⟩, _⟩ := hw10.1.six
                have hgw := get_some HS4.out.2.1.2 hwkf'.out hlenw.out (nm := nm) (gv := x) hgetw.out
                clear hs3a hmb10 hokf hb10 hs10 hw10 hO hwb HMB
                go_wp2_with fail
                refine hgw.mono ?_
                rintro e w11 ⟨ua, uc, ub, ud, rfl, hux, hb11⟩
                have hs11 := HS4.out
                have hG : Below w11.heap.size w11 (w11.alloc (.cells #[.int .i64 x.kind, .bool x.yes, .int .i64 x.num, .string x.text, .slice ua x.list.length uc, .slice ub x.fields.length ud] 26)) := (Below.refl _ w11).alloc (Nat.le_refl _) _
                have HS5 : Hid (S3 w #[.int .i64 x.kind, .bool x.yes, .int .i64 x.num, .string x.text, .slice px x.list.length pc, .slice py x.fields.length pd] mb m0 d.toList ma k mc ((keptF d).map FC.fd) q0 gv la lc fa fc (w11.alloc (.cells #[.int .i64 x.kind, .bool x.yes, .int .i64 x.num, .string x.text, .slice ua x.list.length uc, .slice ub x.fields.length ud] 26)) ∧ MB (w11.alloc (.cells #[.int .i64 x.kind, .bool x.yes, .int .i64 x.num, .string x.text, .slice ua x.list.length uc, .slice ub x.fields.length ud] 26)) wb wa wn wc wkf ∧ MB (w11.alloc (.cells #[.int .i64 x.kind, .bool x.yes, .int .i64 x.num, .string x.text, .slice ua x.list.length uc, .slice ub x.fields.length ud] 26)) w10.heap.size oa on oc okf) := Lib.hid ⟨(hs11.1.below hb11).below hG, (hs11.2.1.below hb11).below hG, (hs11.2.2.below hb11).below hG⟩
                have HUX := Lib.hid (hux.below hG)
                have hgo := get_none HS5.out.2.2.2 hokf'.out hleno.out (nm := nm) hgeto.out
                have ho11 := (hs11.2.2.below hb11).1
                obtain ⟨⟨o0, o1, o2, o3, o4, o5⟩, _⟩ := ho11.six
                have holt := ho11.lt
                clear c0 c1 c2 c3 c4 c5 hgw hb11 hux hs11 hG HS4 hwlt ho11
                generalize w10.heap.size = ob at *
                go_wp2_with fail
                refine hgo.mono ?_
                rintro e w12 ⟨rfl, hb12⟩
                have hs12 := HS5.out.1.below hb12
                have HS6 : Hid (S3 w #[.int .i64 x.kind, .bool x.yes, .int .i64 x.num, .string x.text, .slice px x.list.length pc, .slice py x.fields.length pd] mb m0 d.toList ma k mc ((keptF d).map FC.fd) q0 gv la lc fa fc w12 ∧ MB w12 wb wa wn wc wkf ∧ MB w12 ob oa on oc okf) := Lib.hid ⟨hs12, HS5.out.2.1.below hb12, HS5.out.2.2.below hb12⟩
                have hZ : Below w12.heap.size w12 (w12.alloc (.cells #[.int .i64 0, .bool false, .int .i64 0, .string ⟨#[]⟩, .slice none 0 0, .slice none 0 0] 26)) := (Below.refl _ w12).alloc (Nat.le_refl _) _
                have HSX := Lib.hid (sameEq_any x _ _ _ _ (w12.alloc (.cells #[.int .i64 0, .bool false, .int .i64 0, .string ⟨#[]⟩, .slice none 0 0, .slice none 0 0] 26)) ((HUX.out.below hb12).below hZ) ((HX.out.below hs12.1.1.1.1).below hZ))
                have HZ := Lib.hid hZ
                have hgb : Box w12 w11.heap.size 26 #[.int .i64 x.kind, .bool x.yes, .int .i64 x.num, .string x.text, .slice ua x.list.length uc, .slice ub x.fields.length ud] := (hb12.block _ (Box.new w11 26 #[.int .i64 x.kind, .bool x.yes, .int .i64 x.num, .string x.text, .slice ua x.list.length uc, .slice ub x.fields.length ud]).lt).trans (Box.new w11 _ _)
                obtain ⟨⟨g0, g1, g2, g3, g4, g5⟩, _⟩ := hgb.six
                have hglt := hgb.lt
                obtain ⟨⟨x0, x1, x2, x3, x4, x5⟩, _⟩ := hs12.1.1.1.2.six
                have hxlt := hs12.1.1.1.2.lt
                clear o0 o1 o2 o3 o4 o5 holt hgo hb12 hs12 hgb HS5 HUX hZ
                generalize w11.heap.size = gB at *
                go_wp2_with fail
                refine HSX.out.mono ?_
                rintro e w13 ⟨rfl, hb13⟩
                have hb12' := HZ.out.trans (hb13.mono HZ.out.size)
                have HS7 : Hid (S3 w #[.int .i64 x.kind, .bool x.yes, .int .i64 x.num, .string x.text, .slice px x.list.length pc, .slice py x.fields.length pd] mb m0 d.toList ma k mc ((keptF d).map FC.fd) q0 gv la lc fa fc w13 ∧ MB w13 wb wa wn wc wkf ∧ MB w13 ob oa on oc okf) := Lib.hid ⟨HS6.out.1.below hb12', HS6.out.2.1.below hb12', HS6.out.2.2.below hb12'⟩
                obtain ⟨nn, hnn, hown, _⟩ := HS7.out.1.1.1.2
                have HMAP := Lib.hid hown
                obtain ⟨D0, hD0⟩ : ∃ D0, D0 = dm (lastMap d.toList) := ⟨_, rfl⟩
                have HOWN : Hid (w13.ownsMap Try.prog 9 RV mb nn D0) := Lib.hid (by rw [hD0]; exact hown)
                have HD0 := Lib.hid hD0
                clear g0 g1 g2 g3 g4 g5 hglt x0 x1 x2 x3 x4 x5 hxlt hb13 hb12' HS6 HSX HZ hnn hown hD0
                go_wp2_with (first
                  | (at_range; refine wpList_range_own _ rfl _ 31 rfl 9 26 law_s Try.underlying31 RV mb nn D0 rfl HOWN.out ?_; intro w14 hrg0 hg0 hs0)
                  | fail)
                go_frame
                have HST : Hid (∃ (left : Lit → Bool) (cnt : Nat), w14.ranges Try.prog 9 RV mb w13.heap.size nn D0 left cnt ∧ Below w13.heap.size w13 w14) := Lib.hid ⟨_, _, hrg0, (Below.refl _ w13).grown hg0 (Nat.le_refl _) (fun q hq => by cases hq)⟩
                clear hrg0 hg0 hs0
                go_loopw [25] (fun _ wr => Hid (∃ (left : Lit → Bool) (cnt : Nat), wr.ranges Try.prog 9 RV mb w13.heap.size nn D0 left cnt ∧ Below w13.heap.size w13 wr)) (fun _ wr => wr.rangeLeft mb w13.heap.size)
                case atStart => exact HST
                case round =>
                  obtain ⟨left, cnt, hrg, hbr⟩ := Hid.out hrel
                  have HBR := Lib.hid hbr
                  have HRG : Hid (wr.rangeLeft mb w13.heap.size = cnt) := Lib.hid hrg.left_eq
                  clear hrel HST hbr
                  go_wp2_with (first
                    | (at_next; refine wpList_next_ranges _ rfl _ rfl 9 law_s RV Value.string (fun v => v) (fun key kl hk => Maps.keyOf_string_inv Try.underlying9 hk) (fun v _ _ => ⟨v, rfl⟩) mb w13.heap.size nn D0 left cnt rfl hrg ?_ ?_)
                    | fail)
                  · intro hc0 hl0
                    clear hrg hl0 hc0
                    have hs := HS7.out.1.below HBR.out
                    have hcg := HGG.out wr hs.1.2.2
                    obtain ⟨⟨c0, c1, c2, c3, c4, c5⟩, _⟩ := hs.1.2.1.six
                    have hmlt := hs.1.2.1.lt
                    have HS8 := Lib.hid hs
                    clear hs
                    go_wp2_with fail
                    refine hcg.mono ?_
                    rintro e w16 ⟨ga, gc, gb, gd, rfl, hgi, hb16⟩
                    have hA : Below w16.heap.size w16 (w16.alloc (.cells #[.int .i64 gv.kind, .bool gv.yes, .int .i64 gv.num, .string gv.text, .slice ga gv.list.length gc, .slice gb gv.fields.length gd] 26)) := (Below.refl _ w16).alloc (Nat.le_refl _) _
                    have hs16 := HS8.out.below hb16
                    have hb0 : Below w.heap.size w (w16.alloc (.cells #[.int .i64 gv.kind, .bool gv.yes, .int .i64 gv.num, .string gv.text, .slice ga gv.list.length gc, .slice gb gv.fields.length gd] 26)) := hs16.1.1.1.1.trans (hA.mono hs16.1.1.1.1.size)
                    have hlen := fun W (h : Below w13.heap.size w13 W) => HLEN.out W nn (HMAP.out.kept (h.block mb HMAP.out.lt))
                    have hb13 : Below w13.heap.size w13 (w16.alloc (.cells #[.int .i64 gv.kind, .bool gv.yes, .int .i64 gv.num, .string gv.text, .slice ga gv.list.length gc, .slice gb gv.fields.length gd] 26)) := (HBR.out.trans (hb16.mono HBR.out.size)).trans (hA.mono (HBR.out.trans (hb16.mono HBR.out.size)).size)
                    have hsm := sameEq_any gv _ _ _ _ (w16.alloc (.cells #[.int .i64 gv.kind, .bool gv.yes, .int .i64 gv.num, .string gv.text, .slice ga gv.list.length gc, .slice gb gv.fields.length gd] 26)) (hgi.below hA) (hs16.2.2.below hA)
                    have hl1 := hlen _ hb13
                    have HSM2 := Lib.hid hsm
                    have HB0 := Lib.hid hb0
                    have HB13 := Lib.hid hb13
                    have HLN := Lib.hid hlen
                    clear c0 c1 c2 c3 c4 c5 hmlt hcg
                    obtain ⟨⟨c0, c1, c2, c3, c4, c5⟩, _⟩ := hs16.1.2.1.six
                    have hmlt := hs16.1.2.1.lt
                    obtain ⟨⟨q0', q1, q2, q3, q4, q5⟩, _⟩ := hs16.2.1.six
                    have hqlt := hs16.2.1.lt
                    have HS16 := Lib.hid (hs16.below hA)
                    clear hs16 hb0 hb13 hsm hlen hgi hb16 hA
                    first
                      | (go_wp2_with fail
                         refine HSM2.out.mono ?_
                         rintro e w17 ⟨rfl, hb17⟩
                         have hl2 := HLN.out w17 (HB13.out.trans (hb17.mono HB13.out.size))
                         have HB17 := Lib.hid (HB0.out.trans (hb17.mono HB0.out.size))
                         have hs17 := HS16.out.below hb17
                         clear c0 c1 c2 c3 c4 c5 hmlt q0' q1 q2 q3 q4 q5 hqlt hl1 hb17
                         obtain ⟨⟨c0, c1, c2, c3, c4, c5⟩, _⟩ := hs17.1.2.1.six
                         have hmlt := hs17.1.2.1.lt
                         clear hs17
                         go_wp2
                         go_ret
                         exact ⟨rfl, HB17.out⟩)
                      | (go_wp2
                         go_ret
                         exact ⟨rfl, HB0.out⟩)
                  · intro kx cv kl ya yb w15 cnt1 hkey hlk hRv hat hrg1 hlt hg1 hs1 hen
                    rw [HD0.out] at hat
                    obtain ⟨p, hp, hpn, hcv⟩ := entry_kept hkey hRv hat
                    unfold vagg at hcv
                    subst hcv
                    subst hpn
                    have hb15 : Below w13.heap.size w13 w15 := HBR.out.grown hg1 HBR.out.size (fun q hq => by have := Option.some.inj hq; omega)
                    have hV : Below w15.heap.size w15 (w15.alloc (.cells #[.int .i64 p.v.kind, .bool p.v.yes, .int .i64 p.v.num, .string p.v.text, .slice p.a p.v.list.length p.c, .slice p.b p.v.fields.length p.d] 26)) := (Below.refl _ w15).alloc (Nat.le_refl _) _
                    have HRG1 := Lib.hid hrg1
                    have HLT := Lib.hid hlt
                    by_cases hq : p.nm = nm
                    · have g1 : (p.nm.toList == nm.toList) = true := by rw [beq_iff_eq, hq]
                      have HF : Hid (∃ (left : Lit → Bool) (cnt : Nat), (w15.alloc (.cells #[.int .i64 p.v.kind, .bool p.v.yes, .int .i64 p.v.num, .string p.v.text, .slice p.a p.v.list.length p.c, .slice p.b p.v.fields.length p.d] 26)).ranges Try.prog 9 RV mb w13.heap.size nn D0 left cnt ∧ Below w13.heap.size w13 (w15.alloc (.cells #[.int .i64 p.v.kind, .bool p.v.yes, .int .i64 p.v.num, .string p.v.text, .slice p.a p.v.list.length p.c, .slice p.b p.v.fields.length p.d] 26)) ∧ cnt = cnt1) := Lib.hid ⟨_, _, ranges_below hrg1 hV, hb15.trans (hV.mono hb15.size), rfl⟩
                      clear hkey hlk hRv hat hrg1 hlt hg1 hs1 hrg hb15 hV hq
                      go_wp2_with fail
                      go_roundw
                      case rel => exact Lib.hid (by obtain ⟨l9, c9, z1, z2, _⟩ := HF.out; exact ⟨l9, c9, z1, z2⟩)
                      case measure => obtain ⟨l9, c9, z1, z2, rfl⟩ := HF.out; rw [z1.left_eq, HRG.out]; exact HLT.out
                    · have g1 : (p.nm.toList == nm.toList) = false := by
                        rw [beq_eq_false_iff_ne, Lib.toList_data, Lib.toList_data]; intro e; exact hq (ByteArray.ext (Array.toList_inj.1 e))
                      have hgk := getF_kept hp
                      have hgw : getF wkf p.nm = some p.v := by rw [HWK.out, getF_ins hq, getF_off hq]; exact hgk
                      have hgo : getF okf p.nm = some p.v := by rw [HOK.out, getF_off hq]; exact hgk
                      have hs15 := HS7.out
                      have hcw := get_some ((hs15.2.1.below hb15).below hV).2 hwkf'.out hlenw.out hgw
                      have hpm := kept_mem hp
                      have HPI := Lib.hid ((HSM.out.2.2 p hpm).below (hs15.1.1.1.1.1.trans (hb15.mono hs15.1.1.1.1.1.size)))
                      have HB15 := Lib.hid hb15
                      have HV := Lib.hid hV
                      have HGO := Lib.hid hgo
                      obtain ⟨⟨c0, c1, c2, c3, c4, c5⟩, _⟩ := (hs15.2.1.below hb15).1.six
                      have hwlt := (hs15.2.1.below hb15).1.lt
                      clear hkey hlk hRv hat hrg1 hlt hg1 hs1 hrg hb15 hV hgk hgw hgo hs15 hpm
                      go_wp2_with fail
                      refine hcw.mono ?_
                      rintro e w16 ⟨ra, rc, rb, rd, rfl, hri, hb16⟩
                      have hP : Below w16.heap.size w16 (w16.alloc (.cells #[.int .i64 p.v.kind, .bool p.v.yes, .int .i64 p.v.num, .string p.v.text, .slice ra p.v.list.length rc, .slice rb p.v.fields.length rd] 26)) := (Below.refl _ w16).alloc (Nat.le_refl _) _
                      have hb156 : Below w15.heap.size w15 w16 := HV.out.trans (hb16.mono HV.out.size)
                      have hb136 : Below w13.heap.size w13 w16 := HB15.out.trans (hb156.mono HB15.out.size)
                      have hcx := get_some ((HS7.out.2.2.below hb136).below hP).2 hokf'.out hleno.out HGO.out
                      have hvb : Box w16 w15.heap.size 26 #[.int .i64 p.v.kind, .bool p.v.yes, .int .i64 p.v.num, .string p.v.text, .slice p.a p.v.list.length p.c, .slice p.b p.v.fields.length p.d] := (hb16.block _ (Box.new w15 26 #[.int .i64 p.v.kind, .bool p.v.yes, .int .i64 p.v.num, .string p.v.text, .slice p.a p.v.list.length p.c, .slice p.b p.v.fields.length p.d]).lt).trans (Box.new w15 _ _)
                      have HVB := Lib.hid hvb
                      have HRI := Lib.hid hri
                      have HP := Lib.hid (And.intro HP.out hP)
                      have HBS := Lib.hid (And.intro hb156 hb136)
                      clear c0 c1 c2 c3 c4 c5 hwlt hcw
                      obtain ⟨⟨c0, c1, c2, c3, c4, c5⟩, _⟩ := (HS7.out.2.2.below hb136).1.six
                      have holt := (HS7.out.2.2.below hb136).1.lt
                      clear hri hb16 hP hb156 hb136 hvb
                      go_wp2_with fail
                      refine hcx.mono ?_
                      rintro e w17 ⟨sa, sc, sb, sd, rfl, hsi, hb17⟩
                      have hQ : Below w17.heap.size w17 (w17.alloc (.cells #[.int .i64 p.v.kind, .bool p.v.yes, .int .i64 p.v.num, .string p.v.text, .slice sa p.v.list.length sc, .slice sb p.v.fields.length sd] 26)) := (Below.refl _ w17).alloc (Nat.le_refl _) _
                      have hb167 : Below w16.heap.size w16 w17 := HP.out.2.trans (hb17.mono HP.out.2.size)
                      have hb167q : Below w16.heap.size w16 (w17.alloc (.cells #[.int .i64 p.v.kind, .bool p.v.yes, .int .i64 p.v.num, .string p.v.text, .slice sa p.v.list.length sc, .slice sb p.v.fields.length sd] 26)) := hb167.trans (hQ.mono hb167.size)
                      have hb15q : Below w15.heap.size w15 (w17.alloc (.cells #[.int .i64 p.v.kind, .bool p.v.yes, .int .i64 p.v.num, .string p.v.text, .slice sa p.v.list.length sc, .slice sb p.v.fields.length sd] 26)) := HBS.out.1.trans (hb167q.mono HBS.out.1.size)
                      have hs1 := sameEq_any p.v _ _ _ _ (w17.alloc (.cells #[.int .i64 p.v.kind, .bool p.v.yes, .int .i64 p.v.num, .string p.v.text, .slice sa p.v.list.length sc, .slice sb p.v.fields.length sd] 26)) (HRI.out.below hb167q) (HPI.out.below hb15q)
                      have hpb : Box w17 w16.heap.size 26 #[.int .i64 p.v.kind, .bool p.v.yes, .int .i64 p.v.num, .string p.v.text, .slice ra p.v.list.length rc, .slice rb p.v.fields.length rd] := (hb17.block _ (Box.new w16 26 #[.int .i64 p.v.kind, .bool p.v.yes, .int .i64 p.v.num, .string p.v.text, .slice ra p.v.list.length rc, .slice rb p.v.fields.length rd]).lt).trans (Box.new w16 _ _)
                      have hvb : Box w17 w15.heap.size 26 #[.int .i64 p.v.kind, .bool p.v.yes, .int .i64 p.v.num, .string p.v.text, .slice p.a p.v.list.length p.c, .slice p.b p.v.fields.length p.d] := (hb167.block _ HVB.out.lt).trans HVB.out
                      clear c0 c1 c2 c3 c4 c5 holt hcx
                      obtain ⟨⟨c0, c1, c2, c3, c4, c5⟩, _⟩ := hpb.six
                      have hplt := hpb.lt
                      obtain ⟨⟨v0, v1, v2, v3, v4, v5⟩, _⟩ := hvb.six
                      have hvlt := hvb.lt
                      have HSI := Lib.hid (hsi.below hQ)
                      have HVB2 := Lib.hid (show Box (w17.alloc (.cells #[.int .i64 p.v.kind, .bool p.v.yes, .int .i64 p.v.num, .string p.v.text, .slice sa p.v.list.length sc, .slice sb p.v.fields.length sd] 26)) w15.heap.size 26 #[.int .i64 p.v.kind, .bool p.v.yes, .int .i64 p.v.num, .string p.v.text, .slice p.a p.v.list.length p.c, .slice p.b p.v.fields.length p.d] from (hQ.block _ hvb.lt).trans hvb)
                      have HB15Q := Lib.hid hb15q
                      clear hsi hb17 hQ hb167 hb167q hb15q hpb hvb
                      go_wp2_with fail
                      refine hs1.mono ?_
                      rintro e w18 ⟨rfl, hb18⟩
                      have hqb : Box w18 w17.heap.size 26 #[.int .i64 p.v.kind, .bool p.v.yes, .int .i64 p.v.num, .string p.v.text, .slice sa p.v.list.length sc, .slice sb p.v.fields.length sd] := (hb18.block _ (Box.new w17 26 #[.int .i64 p.v.kind, .bool p.v.yes, .int .i64 p.v.num, .string p.v.text, .slice sa p.v.list.length sc, .slice sb p.v.fields.length sd]).lt).trans (Box.new w17 _ _)
                      have hvb : Box w18 w15.heap.size 26 #[.int .i64 p.v.kind, .bool p.v.yes, .int .i64 p.v.num, .string p.v.text, .slice p.a p.v.list.length p.c, .slice p.b p.v.fields.length p.d] := (hb18.block _ HVB2.out.lt).trans HVB2.out
                      have hb158 : Below w15.heap.size w15 w18 := HB15Q.out.trans (hb18.mono HB15Q.out.size)
                      have hs2 := sameEq_any p.v _ _ _ _ w18 (HSI.out.below hb18) (HPI.out.below hb158)
                      clear c0 c1 c2 c3 c4 c5 hplt v0 v1 v2 v3 v4 v5 hvlt hs1
                      obtain ⟨⟨c0, c1, c2, c3, c4, c5⟩, _⟩ := hqb.six
                      obtain ⟨⟨v0, v1, v2, v3, v4, v5⟩, _⟩ := hvb.six
                      have HB158 := Lib.hid hb158
                      clear hb18 hqb hvb hb158
                      go_wp2_with fail
                      refine hs2.mono ?_
                      rintro e w19 ⟨rfl, hb19⟩
                      have hb159 : Below w15.heap.size w15 w19 := HB158.out.trans (hb19.mono HB158.out.size)
                      have HF : Hid (∃ (left : Lit → Bool) (cnt : Nat), w19.ranges Try.prog 9 RV mb w13.heap.size nn D0 left cnt ∧ Below w13.heap.size w13 w19 ∧ cnt = cnt1) := Lib.hid ⟨_, _, ranges_below HRG1.out hb159, HB15.out.trans (hb159.mono HB15.out.size), rfl⟩
                      clear c0 c1 c2 c3 c4 c5 v0 v1 v2 v3 v4 v5 hs2 hb19 hb159
                      go_wp2_with fail
                      go_roundw
                      case rel => exact Lib.hid (by obtain ⟨l9, c9, z1, z2, _⟩ := HF.out; exact ⟨l9, c9, z1, z2⟩)
                      case measure => obtain ⟨l9, c9, z1, z2, rfl⟩ := HF.out; rw [z1.left_eq, HRG.out]; exact HLT.out

end Go.Proofs.Ytcocljgafhpdaaa.valFields
end

section
namespace Go.Proofs.Ytcocljgafhpdaaa.valFields
open Go.RowKit Go.Sort Go.Maps

theorem walk {w : World} (a : Option Addr) (len cap : Nat) (hcs : ∃ fs, FldsCame w a len cap fs) (nm : ByteArray) (_wn : nm.size ≤ maxLen) (x : V) (lv fv : Value) (hx : x.Is w lv fv) (_hn : x.n64) :
    Calls Try.prog 3 #[.slice a len cap, .string nm, .agg #[.int .i64 x.kind, .bool x.yes, .int .i64 x.num, .string x.text, lv, fv]] w fun e w' => e = .returned (.bool true) ∧ Below w.heap.size w w' := by
  obtain ⟨fs, hc⟩ := hcs
  by_cases h : len ≤ 20 ∧ nm.size ≤ 60 ∧ x.few 0 = true ∧ ∀ p ∈ fs, okF p = true
  · obtain ⟨h1, h2, h3, h4⟩ := h
    obtain ⟨hlen, hfa⟩ := hc
    obtain ⟨a', c', d, e, rfl, hrep, hd⟩ := fields_lie hfa
    obtain ⟨rfl, rfl, rfl⟩ : a = a' ∧ len = d.size ∧ cap = c' := by injection e with e1 e2 e3; exact ⟨e1, e2, e3⟩
    have hok : ∀ y ∈ d, okF y.fd = true := fun y hy => h4 _ (by
      rw [Array.mem_toList_iff]
      exact Array.mem_map.2 ⟨y, hy, rfl⟩)
    exact walk_in a cap d ⟨hrep, hd⟩ h1 (fun y hy => few_sm' _ y.v 0 (Nat.le_refl _) (by
      have := hok y hy
      unfold okF at this
      exact (Bool.and_eq_true _ _ |>.mp this).2)) hok nm h2 x lv fv hx (few_sm' _ x 0 (Nat.le_refl _) h3) h3
  · exact walk_out a len cap fs hc nm x lv fv hx h

end Go.Proofs.Ytcocljgafhpdaaa.valFields
end
