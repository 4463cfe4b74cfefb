/-
  patch.Encode, at whatever operations.
-/
import Derived.Test.YtljhcnlifdmacaaPEnc
namespace Go.Proofs.Ytljhcnlifdmacaa
open Go.RowKit

set_option maxHeartbeats 4000000 in
set_option maxRecDepth 100000 in
theorem encode_any (ops : List PO) (a : Option Addr) (c : Nat) (w : World) (h : OpsAt w All a ops) (hl : ops.length ≤ 100000) (hsm : ∀ o ∈ ops, SmO o) :
    Calls Try.prog 27 #[.slice a ops.length c] w fun e w' => e = .returned (encO ops) ∧ Below w.heap.size w w' := by
  have hchk := check_any ops a c w h hl
  by_cases hc0 : checkV ops = 0
  · rw [hc0] at hchk
    obtain ⟨h50, hri⟩ := check_ok hc0
    have hE : encO ops = if (ops.all fun o => decide (o.val.lay.length ≤ 4096)) = true then .tuple #[.string ⟨(octN ops.length ++ layOs ops).toArray⟩, .int .i64 0] else .tuple #[.string ⟨#[]⟩, .int .i64 1] := by unfold encO; rw [hc0]; simp
    have HE := Lib.hid hE
    have HO := Lib.hid h
    have HRI := Lib.hid (And.intro hri hsm)
    have CV := Lib.hid (fun (B : Nat) (w' : World) (v : Value) (l : List UInt8) (h : Bs 5 B w' v l) => conv_bs (P := Try.prog) 5 B w' 79 9 Try.underlying79 Try.underlying5 Try.underlying9 v l h)
    clear h hE hri hsm hc0
    go_enter Try.func27, Try.ntmps27
    go_wp2_with fail
    refine hchk.mono ?_
    rintro e w1 ⟨rfl, hb1⟩
    have hnum := num_nat w.heap.size (.slice none 0 0) [] ops.length (by omega) w1 (by simp) hb1.size (Bs.nil _ _ _)
    have HNUM := Lib.hid hnum
    have HB1 := Lib.hid hb1
    clear hchk hb1 hnum
    go_wp2_with fail
    refine HNUM.out.mono ?_
    rintro e w2 ⟨b2, rfl, hown2, hup2⟩
    rw [List.nil_append] at hown2
    have H2 : Hid (Bs 5 w.heap.size w2 b2 (octN ops.length) ∧ Below w.heap.size w w2) := Lib.hid ⟨hown2, HB1.out.trans (hup2.below (Bs.nil 5 w.heap.size w1) HB1.out.size)⟩
    clear hown2 hup2 HNUM HB1
    go_wp2_with fail
    go_loopw [5, 22] (fun b i wr => ∃ k : Nat, k ≤ ops.length ∧ i = .int .i64 k ∧ Hid (Bs 5 w.heap.size wr b (octN ops.length ++ layOs (ops.take k)) ∧ Below w.heap.size w wr ∧ ∀ j (h : j < ops.length), j < k → (ops[j]).val.lay.length ≤ 4096)) (fun _ i _ => ops.length - (intOf i).toNat)
    case atStart => exact ⟨0, Nat.zero_le _, rfl, Lib.hid ⟨by rw [List.take_zero]; simpa [layOs] using H2.out.1, H2.out.2, fun j _ hj => by omega⟩⟩
    case round =>
      obtain ⟨k, hk, rfl, HR⟩ := hrel
      clear H2
      by_cases hlt : k < ops.length
      · obtain ⟨bb, off, rfl, hb, hops⟩ := HO.out.resolve_left (by intro e; rw [e] at hlt; simp at hlt)
        obtain ⟨pa, pc, oa, oc, ob, od, hin0, hpl, hpt, hat0⟩ := hops k hlt
        have hin := hin0.keep (HR.out.2.1.block bb hb)
        have hat := V.At.below hat0 HR.out.2.1
        have hro := HRI.out.1 _ (List.getElem_mem hlt)
        have hso := HRI.out.2 _ (List.getElem_mem hlt)
        have hnx := layOs_next hlt
        have hprev : (layOs (ops.take k)).length ≤ k * 1700000 := by
          have := layOs_len (ops.take k) (fun o ho => by
            obtain ⟨i, hi, rfl⟩ := List.getElem_of_mem ho
            rw [List.length_take] at hi
            rw [List.getElem_take]
            exact ⟨HRI.out.2 _ (List.getElem_mem _), HRI.out.1 _ (List.getElem_mem _), HR.out.2.2 i (by omega) (by omega)⟩)
          rw [List.length_take, Nat.min_eq_left hk] at this
          exact this
        have hnext : (ops[k]).val.lay.length ≤ 4096 → ∀ j (h : j < ops.length), j < k + 1 → (ops[j]).val.lay.length ≤ 4096 := fun hp j h hj => by
          by_cases e : j = k
          · subst e; exact hp
          · exact HR.out.2.2 j h (by omega)
        have hstop : ¬ (ops[k]).val.lay.length ≤ 4096 → encO ops = .tuple #[.string ⟨#[]⟩, .int .i64 1] := fun hp => by
          rw [HE.out, if_neg]
          intro hall
          exact hp (of_decide_eq_true (List.all_eq_true.1 hall _ (List.getElem_mem hlt)))
        obtain ⟨o, ho⟩ : ∃ o, o = ops[k] := ⟨_, rfl⟩
        rw [← ho] at hin hpl hpt hat hro hso hnx hnext hstop
        obtain ⟨kn, hkn, hk1, hk3⟩ := kind_nat hro
        have hright : o.val.right 32 = true ∧ o.path.length ≤ 16 := by
          unfold rightO at hro
          simp only [Bool.and_eq_true, decide_eq_true_eq] at hro
          exact ⟨hro.2.2.2, hro.2.1⟩
        rw [hkn] at hin
        obtain ⟨p0, p1, p2, p3, p4, p5, p6, p7⟩ := hin.eight
        have hkl : (k : Int) < (ops.length : Int) := by omega
        obtain ⟨cs, hcs⟩ : ∃ cs : Array Value, cs = #[.int .i64 kn, .slice pa o.path.length pc, .int .i64 o.val.kind, .bool o.val.yes, .int .i64 o.val.num, .string o.val.text, .slice oa o.val.list.length oc, .slice ob o.val.fields.length od] := ⟨_, rfl⟩
        have hA : Below wr.heap.size wr (wr.alloc (.cells cs 50)) := (Below.refl _ wr).alloc (Nat.le_refl _) _
        have hcall := enc_any o.val _ _ _ (V.At.below hat hA) hso.1
        have hES : ESt w wr.heap.size cs u5 (octN ops.length ++ layOs (ops.take k)) (wr.alloc (.cells cs 50)) := ⟨bs_belowE HR.out.1 hA, fun e => by have := World.ownsRow.lt HR.out.1 _ e; omega, Box.new wr _ _, HR.out.2.1.trans (hA.mono HR.out.2.1.size), HR.out.2.1.size⟩
        have HLT := Lib.hid hlt
        have HES := Lib.hid hES
        have hon := octN_lt ops.length (by omega)
        by_cases hfit : o.val.lay.length ≤ 4096
        · have he : encOf o.val = .tuple #[.string ⟨o.val.lay.toArray⟩, .int .i64 0] := by unfold encOf; rw [if_pos hright.1, if_pos hfit]
          rw [he] at hcall
          have hlN : ∀ j ≤ o.path.length, ((octN ops.length ++ layOs (ops.take k)) ++ octN kn ++ octN o.path.length ++ layP (o.path.take j)).length ≤ 100000000 := fun j hj => by
            have h1 := octN_lt kn (by omega)
            have h2 := octN_lt o.path.length (by omega)
            have h3 := layP_len (o.path.take j) (fun s hs => hso.2 s (List.mem_of_mem_take hs))
            rw [List.length_take, Nat.min_eq_left hj] at h3
            simp only [List.length_append]
            omega
          have hfin : ((octN ops.length ++ layOs (ops.take k)) ++ octN kn ++ octN o.path.length ++ layP o.path) ++ octT ⟨o.val.lay.toArray⟩ = octN ops.length ++ layOs (ops.take (k + 1)) := by
            rw [hnx, layO, show o.kind.toNat = kn by omega]
            simp only [List.append_assoc]
          have hts : ByteArray.size ⟨o.val.lay.toArray⟩ ≤ 4096 := by rw [lay_arr]; exact hfit
          obtain ⟨tx, htx⟩ : ∃ tx : ByteArray, tx = ⟨o.val.lay.toArray⟩ := ⟨_, rfl⟩
          rw [← htx] at hcall hfin hts
          obtain ⟨l0, hl0⟩ : ∃ l0, l0 = octN ops.length ++ layOs (ops.take k) := ⟨_, rfl⟩
          have hl0s : l0.length ≤ 100000000 := by rw [hl0, List.length_append]; omega
          rw [← hl0] at HES hlN hfin
          have HN := Lib.hid (hnext hfit)
          have HLN := Lib.hid hlN
          have HFIN := Lib.hid hfin
          have HPT := Lib.hid (And.intro hpt hso.2)
          subst hcs
          have HCALL := Lib.hid hcall
          clear hcall hin0 hin hat0 hat hops hnx hprev hnext hstop ho hro hso hkn hlt hES he hlN hfin htx hl0 hfit hA hpt HR
          go_wp2_with fail
          refine HCALL.out.mono ?_
          rintro e w4 ⟨rfl, hb4⟩
          have hE4 := HES.out.below hb4
          have HNUM := Lib.hid (num_nat w.heap.size u5 l0 kn (by omega) w4 (by omega) hE4.2.2.2.1.size hE4.1)
          obtain ⟨p0, p1, p2, p3, p4, p5, p6, p7⟩ := hE4.2.2.1.eight
          have HE4 := Lib.hid hE4
          clear hb4 hE4 HES HCALL
          go_wp2_with fail
          refine HNUM.out.mono ?_
          rintro e w5 ⟨b5, rfl, hown5, hup5⟩
          have hE5 := HE4.out.up hown5 hup5
          have hk9 := octN_lt kn (by omega)
          have HNUM2 := Lib.hid (num_nat w.heap.size b5 (l0 ++ octN kn) o.path.length (by omega) w5 (by rw [List.length_append]; omega) hE5.2.2.2.1.size hE5.1)
          clear p0 p1 p2 p3 p4 p5 p6 p7
          obtain ⟨p0, p1, p2, p3, p4, p5, p6, p7⟩ := hE5.2.2.1.eight
          have HE5 := Lib.hid hE5
          clear hown5 hup5 hE5 HE4 HNUM hk9
          go_wp2_with fail
          refine HNUM2.out.mono ?_
          rintro e w6 ⟨b6, rfl, hown6, hup6⟩
          have hE6 := HE5.out.up hown6 hup6
          clear p0 p1 p2 p3 p4 p5 p6 p7
          obtain ⟨p0, p1, p2, p3, p4, p5, p6, p7⟩ := hE6.2.2.1.eight
          have HE6 := Lib.hid hE6
          clear hown6 hup6 hE6 HE5 HNUM2
          go_wp2_with fail
          go_loopw [5, 46] (fun b i wx => ∃ j : Nat, j ≤ o.path.length ∧ i = .int .i64 j ∧ Hid (ESt w wr.heap.size #[.int .i64 kn, .slice pa o.path.length pc, .int .i64 o.val.kind, .bool o.val.yes, .int .i64 o.val.num, .string o.val.text, .slice oa o.val.list.length oc, .slice ob o.val.fields.length od] b ((l0 ++ octN kn ++ octN o.path.length) ++ layP (o.path.take j)) wx)) (fun _ i _ => o.path.length - (intOf i).toNat)
          case atStart => exact ⟨0, Nat.zero_le _, rfl, Lib.hid (by rw [List.take_zero, layP, List.append_nil]; exact HE6.out)⟩
          case round =>
            obtain ⟨j, hj, rfl, HI⟩ := hrel
            by_cases hjl : j < o.path.length
            · have hjl' : (j : Int) < (o.path.length : Int) := by omega
              obtain ⟨pb, poff, epa, hst⟩ := HPT.out.1.resolve_left (by intro e; rw [e] at hjl; simp at hjl)
              subst epa
              have hstx := hst.below HI.out.2.2.2.1
              have hc := hstx.2 j hjl
              have hpb := hstx.1
              have hsz := HPT.out.2 _ (List.getElem_mem hjl)
              have hnx := layP_next hjl
              obtain ⟨sx, hsx⟩ : ∃ s, s = o.path[j] := ⟨_, rfl⟩
              rw [← hsx] at hc hsz hnx
              have HTX := Lib.hid (text_any w.heap.size u5 ((l0 ++ octN kn ++ octN o.path.length) ++ layP (o.path.take j)) sx _ (by have := HLN.out j hj; omega) HI.out.2.2.2.1.size HI.out.1)
              have HJL := Lib.hid hjl
              have HNX := Lib.hid hnx
              clear hst hstx hnx hsx hjl hsz
              go_wp2_with fail
              refine HTX.out.mono ?_
              rintro e w7 ⟨b7, rfl, hown7, hup7⟩
              have HX := Lib.hid (HI.out.up hown7 hup7)
              clear hown7 hup7 HTX HI
              go_wp2_with fail
              go_roundw
              case rel => exact ⟨j + 1, HJL.out, by have := HJL.out; go_num, Lib.hid (by rw [HNX.out, ← List.append_assoc]; exact HX.out)⟩
              case measure => have := HJL.out; simp [intOf]; omega
            · obtain rfl : j = o.path.length := by omega
              have hge : ¬ (o.path.length : Int) < (o.path.length : Int) := by omega
              have hst := HI.out
              rw [List.take_of_length_le (Nat.le_refl _)] at hst
              have HTX := Lib.hid (text_any w.heap.size u5 ((l0 ++ octN kn ++ octN o.path.length) ++ layP o.path) tx _ (by have := HLN.out o.path.length (Nat.le_refl _); rw [List.take_of_length_le (Nat.le_refl _)] at this; omega) hst.2.2.2.1.size hst.1)
              have HST := Lib.hid hst
              clear hst hjl HI
              go_wp2_with fail
              refine HTX.out.mono ?_
              rintro e w8 ⟨b8, rfl, hown8, hup8⟩
              have HX : Hid (Bs 5 w.heap.size w8 b8 (octN ops.length ++ layOs (ops.take (k + 1))) ∧ Below w.heap.size w w8 ∧ ∀ j (h : j < ops.length), j < k + 1 → (ops[j]).val.lay.length ≤ 4096) := Lib.hid ⟨by rw [← HFIN.out]; exact hown8, (HST.out.up hown8 hup8).2.2.2.1, HN.out⟩
              clear hown8 hup8 HTX HST
              go_wp2_with fail
              go_roundw
              case rel => exact ⟨k + 1, HLT.out, by have := HLT.out; go_num, HX⟩
              case measure => have := HLT.out; simp [intOf]; omega
        · have he : encOf o.val = .tuple #[.string ⟨#[]⟩, .int .i64 4] := by unfold encOf; rw [if_pos hright.1, if_neg hfit]
          rw [he] at hcall
          have HB1 := Lib.hid hES.2.2.2.1
          have HST := Lib.hid (hstop hfit)
          subst hcs
          have HCALL := Lib.hid hcall
          clear hcall hin0 hin hat0 hat hops hnx hprev hnext hstop ho hro hso hkn hlt hES he hfit hA hpt HR HES
          go_wp2_with fail
          refine HCALL.out.mono ?_
          rintro e w4 ⟨rfl, hb4⟩
          have HF := Lib.hid (HB1.out.trans (hb4.mono HB1.out.size))
          clear hb4
          go_wp2
          go_ret2
          exact ⟨by rw [HST.out]; rfl, HF.out⟩
      · obtain rfl : k = ops.length := by omega
        have hge : ¬ (ops.length : Int) < (ops.length : Int) := by omega
        have hbs := HR.out.1
        rw [List.take_of_length_le (Nat.le_refl _)] at hbs
        have hz : encO ops = .tuple #[.string ⟨(octN ops.length ++ layOs ops).toArray⟩, .int .i64 0] := by
          rw [HE.out, if_pos]
          exact List.all_eq_true.2 fun x hx => by
            obtain ⟨j, hj, rfl⟩ := List.getElem_of_mem hx
            exact decide_eq_true (HR.out.2.2 j hj hj)
        obtain ⟨l, hl2⟩ : ∃ l, l = octN ops.length ++ layOs ops := ⟨_, rfl⟩
        rw [← hl2] at hbs hz
        obtain ⟨a2, c2, hv⟩ := hbs.lenEq
        subst hv
        have hcv := CV.out _ _ _ _ hbs
        have HZ := Lib.hid hz
        clear hlt hz hbs hl2
        go_wp2
        go_ret2
        exact ⟨by rw [HZ.out]; rfl, HR.out.2.1⟩
  · have h14 : checkV ops = 4 ∨ checkV ops = 1 := by
      unfold checkV at hc0 ⊢
      split
      · exact .inl rfl
      · rename_i h50
        rw [if_neg h50] at hc0
        split
        · rename_i hall
          rw [if_pos hall] at hc0
          exact absurd rfl hc0
        · exact .inr rfl
    have hE : encO ops = .tuple #[.string ⟨#[]⟩, .int .i64 (checkV ops)] := by unfold encO; rw [if_pos hc0]
    clear h hc0
    rcases h14 with h14 | h14
    all_goals
      rw [h14] at hchk hE
      have HE := Lib.hid hE
      clear hE h14
      go_enter Try.func27, Try.ntmps27
      go_wp2_with fail
      refine hchk.mono ?_
      rintro e w1 ⟨rfl, hb1⟩
      clear hchk
      go_wp2
      go_ret2
      exact ⟨by rw [HE.out]; rfl, hb1⟩

end Go.Proofs.Ytljhcnlifdmacaa
