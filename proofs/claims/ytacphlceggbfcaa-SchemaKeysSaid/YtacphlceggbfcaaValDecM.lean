/-
  val's decoder: a map.
-/
import Derived.Test.YtacphlceggbfcaaValDecL
import Derived.Test.YtacphlceggbfcaaValFld
namespace Go.Proofs.Ytacphlceggbfcaa
open Go.RowKit

attribute [local irreducible] wpStill

def mapOf (x : Int ⊕ (List Fd × L8)) : Int ⊕ (V × L8) := match x with | .inl e => .inl e | .inr (vs, r) => .inr (V.ofMap vs, r)
def goOnF (vs : List Fd) (x : Int ⊕ (List Fd × L8)) : Int ⊕ (List Fd × L8) := match x with | .inl e => .inl e | .inr (us, r) => .inr (vs ++ us, r)
def lastN (vs : List Fd) : Option ByteArray := vs.getLast?.map (·.1)

theorem lastN_snoc (vs : List Fd) (n : ByteArray) (x : V) : lastN (vs ++ [(n, x)]) = some n := by simp [lastN]
theorem goOnF_nil (x : Int ⊕ (List Fd × L8)) : goOnF [] x = x := by
  rcases x with e | ⟨us, r⟩ <;> rfl

theorem decFields_noName (f : L8 → Int ⊕ (V × L8)) (p : Option ByteArray) (m : Nat) (vs : List Fd) (l : L8) (h : textRead l 4096 = none) : goOnF vs (decFields f p (m + 1) l) = .inl 2 := by
  rw [decFields, h]; rfl
theorem decFields_notLt (f : L8 → Int ⊕ (V × L8)) (p : Option ByteArray) (m : Nat) (vs : List Fd) (l t r : L8) (h : textRead l 4096 = some (t, r)) (hl : nameLt p ⟨t.toArray⟩ = false) : goOnF vs (decFields f p (m + 1) l) = .inl 2 := by
  rw [decFields, h]; simp [hl, goOnF]
theorem decFields_fail (f : L8 → Int ⊕ (V × L8)) (p : Option ByteArray) (m : Nat) (vs : List Fd) (l t r : L8) (e : Int) (h : textRead l 4096 = some (t, r)) (hl : nameLt p ⟨t.toArray⟩ = true) (hf : f r = .inl e) : goOnF vs (decFields f p (m + 1) l) = .inl e := by
  rw [decFields, h]; simp [hl, hf, goOnF]
theorem decFields_step (f : L8 → Int ⊕ (V × L8)) (p : Option ByteArray) (m : Nat) (vs : List Fd) (l t r r' : L8) (x : V) (h : textRead l 4096 = some (t, r)) (hl : nameLt p ⟨t.toArray⟩ = true) (hf : f r = .inr (x, r')) :
    goOnF vs (decFields f p (m + 1) l) = goOnF (vs ++ [(⟨t.toArray⟩, x)]) (decFields f (some ⟨t.toArray⟩) m r') := by
  rw [decFields, h]
  simp only [hl, hf]
  rcases decFields f (some ⟨t.toArray⟩) m r' with e | ⟨us, r''⟩
  · rfl
  · simp [goOnF]

def decBodyM (d : Nat) (r : L8) : Int ⊕ (V × L8) := match numRead r 9223372036854775807 with | none => .inl 2 | some (n, r) => mapOf (decFields (decV d) none n r)

set_option maxHeartbeats 4000000 in
set_option maxRecDepth 100000 in
theorem fields_dec (d o : Nat) (ho : o + d = 31) (ih : ValOK d) (b : Nat) (r : L8) (hr : r.length ≤ 5000) (w : World) (h : Rd w b ⟨r.toArray⟩ false) :
    Calls Try.prog 84 #[.agg #[.pointer (some ⟨b, 0, none⟩)], .int .i64 o] w (DecP (decBodyM d r) b w) := by
  have hbl := h.lt
  obtain ⟨W0, hW0⟩ : ∃ W0, W0 = ((w.alloc (.cells #[.pointer (some ⟨b, 0, none⟩)] 85)).alloc (.cells #[.int .i64 0, .bool false, .int .i64 0, .string ⟨#[]⟩, .slice none 0 0, .slice none 0 0] 26)).alloc (.cells #[.int .i64 5, .bool false, .int .i64 0, .string ⟨#[]⟩, .slice none 0 0, .slice none 0 0] 26) := ⟨_, rfl⟩
  have hg0 : Goes w b ⟨r.toArray⟩ false W0 := by
    rw [hW0]; exact (Goes.refl h).below ((((Below.refl _ w).alloc (Nat.le_refl _) _).alloc (by simp) _).alloc (by simp; omega) _)
  have hP0 : Box W0 w.heap.size 85 #[.pointer (some ⟨b, 0, none⟩)] := by
    rw [hW0]; exact ((Box.new w _ _).alloc _).alloc _
  have hO0 : Box W0 (w.heap.size + 1) 26 #[.int .i64 0, .bool false, .int .i64 0, .string ⟨#[]⟩, .slice none 0 0, .slice none 0 0] := by
    have := Box.new (w.alloc (.cells #[.pointer (some ⟨b, 0, none⟩)] 85)) 26 #[.int .i64 0, .bool false, .int .i64 0, .string ⟨#[]⟩, .slice none 0 0, .slice none 0 0]
    rw [show (w.alloc (.cells #[.pointer (some ⟨b, 0, none⟩)] 85)).heap.size = w.heap.size + 1 by simp] at this
    rw [hW0]; exact this.alloc _
  have hV0 : Box W0 (w.heap.size + 2) 26 #[.int .i64 5, .bool false, .int .i64 0, .string ⟨#[]⟩, .slice none 0 0, .slice none 0 0] := by
    have := Box.new ((w.alloc (.cells #[.pointer (some ⟨b, 0, none⟩)] 85)).alloc (.cells #[.int .i64 0, .bool false, .int .i64 0, .string ⟨#[]⟩, .slice none 0 0, .slice none 0 0] 26)) 26 #[.int .i64 5, .bool false, .int .i64 0, .string ⟨#[]⟩, .slice none 0 0, .slice none 0 0]
    rw [show ((w.alloc (.cells #[.pointer (some ⟨b, 0, none⟩)] 85)).alloc (.cells #[.int .i64 0, .bool false, .int .i64 0, .string ⟨#[]⟩, .slice none 0 0, .slice none 0 0] 26)).heap.size = w.heap.size + 2 by simp] at this
    rw [hW0]; exact this
  have hz0 : W0.heap.size = w.heap.size + 3 := by rw [hW0]; simp
  have hnum := num_readM b r W0 hg0.1
  have p0 := hP0.cell 0
  simp only [List.getElem?_toArray, List.getElem?_cons_zero] at p0
  rw [hW0] at hnum p0
  go_enter Try.func84, Try.ntmps84
  go_wp2_with fail
  refine hnum.mono ?_
  rw [← hW0]
  clear hnum p0
  rintro e w2 (⟨ho2, rfl, hg2⟩ | ⟨n, r1, ho2, rfl, hg2⟩)
  · have hDec : Hid (decBodyM d r = .inl 2) := Lib.hid (by unfold decBodyM; rw [ho2])
    have hP3 := hP0.goes hg2 (by omega)
    have hO3 := hO0.goes hg2 (by omega)
    have hV3 := hV0.goes hg2 (by omega)
    have hG3 := hg0.trans hg2
    clear ho2 hg2 hg0 hP0 hO0 hV0 hW0 hz0
    go_wp2
    refine wp_loop_rounds 1 ?_
    rw [rounds_succ]
    have hE := err_flip' b _ _ hG3.drew.1
    obtain ⟨⟨v0, v1, v2, v3, v4, v5⟩, _⟩ := hV3.six
    obtain ⟨⟨o0, o1, o2, o3, o4, o5⟩, f0, f1, f2, f3, f4, f5⟩ := hO3.six
    have p3 := hP3.cell 0
    simp only [List.getElem?_toArray, List.getElem?_cons_zero] at p3
    go_wp2_with fail
    refine wp_region_still_tail 4 (by kernel_rfl) (by kernel_rfl) ?_
    change wpStill _ _ (World.drew _) (fun a' => wpList _ _ _ _ a' (World.drew _)) _ _
    simp only [List.take_succ_cons, List.take_zero, List.drop_succ_cons, List.drop_zero]
    still_step
    still_step
    still_step
    refine wpStill_step (fun K hK => ?_)
    go_simp
    refine ⟨_, hE, hK _ ?_⟩
    clear hK K
    refine wpStill_nil ?_
    go_wp2
    have hF := ((((((hO3.setSame 0 (.int .i64 5)).setSame 1 (.bool false)).setSame 2 (.int .i64 0)).setSame 3 (.string ⟨#[]⟩)).setSame 4 (.slice none 0 0)).setSame 5 (.slice none 0 0))
    obtain ⟨⟨k0, k1, k2, k3, k4, k5⟩, _⟩ := Box.six (c0 := (.int .i64 5)) (c1 := (.bool false)) (c2 := (.int .i64 0)) (c3 := (.string ⟨#[]⟩)) (c4 := (.slice none 0 0)) (c5 := (.slice none 0 0)) hF
    refine bodyPost_ret (v := .tuple #[.agg #[.int .i64 5, .bool false, .int .i64 0, .string ⟨#[]⟩, .slice none 0 0, .slice none 0 0], .int .i64 2]) (by simp [results, Try.results84, go_sem, k0, k1, k2, k3, k4, k5]) rfl ?_
    exact .inl ⟨2, _, _, _, _, _, _, _, _, _, _, _, _, hDec.out, rfl, ((((((hG3.set hbl (by simp) _).set hbl (by simp) _).set hbl (by simp) _).set hbl (by simp) _).set hbl (by simp) _).set hbl (by simp) _).drew⟩
  · have hn := (numRead_len ho2)
    have hDec : Hid (decBodyM d r = mapOf (decFields (decV d) none n r1)) := Lib.hid (by unfold decBodyM; rw [ho2])
    have hP2 := hP0.goes hg2 (by omega)
    have hO2 := hO0.goes hg2 (by omega)
    have hV2 := hV0.goes hg2 (by omega)
    have hG2 := hg0.trans hg2
    have hz2 : w.heap.size + 3 ≤ w2.heap.size := by have := hg2.2.size; omega
    have HZ := Lib.hid hz0
    clear hg2 hg0 hP0 hO0 hV0 ho2 hW0 hz0
    go_wp2
    go_loopw [15] (fun i wr => ∃ (j : Nat) (rr : L8) (vs : List Fd) (vv : Value), j ≤ n ∧ i = .int .i64 j ∧ vs.length = j ∧ rr.length + j ≤ 5000 ∧ Goes w b ⟨rr.toArray⟩ false wr ∧ Box wr w.heap.size 85 #[.pointer (some ⟨b, 0, none⟩)] ∧
      Box wr (w.heap.size + 1) 26 #[.int .i64 0, .bool false, .int .i64 0, .string ⟨#[]⟩, .slice none 0 0, .slice none 0 0] ∧ Box wr (w.heap.size + 2) 26 #[.int .i64 5, .bool false, .int .i64 0, .string ⟨#[]⟩, .slice none 0 0, vv] ∧
      FRow wr (w.heap.size + 3) vv vs ∧ decFields (decV d) none n r1 = goOnF vs (decFields (decV d) (lastN vs) (n - j) rr) ∧ w.heap.size + 3 ≤ wr.heap.size) (fun i _ => n - (intOf i).toNat)
    case atStart => exact ⟨0, r1, [], _, Nat.zero_le _, rfl, rfl, by omega, hG2, hP2, hO2, hV2, FRow.nil _ _, by rw [goOnF_nil]; rfl, hz2⟩
    case round =>
      clear hG2 hP2 hO2 hV2 hz2
      obtain ⟨j, rr, vs, vv, hj, rfl, hvl, hrl, hG, hP, hO, hV, hrow, hdec, hz⟩ := hrel
      obtain ⟨av, cv, rfl, hvc1, hvc2⟩ := hrow.form
      rw [hvl] at hV hrow hvc1
      have HVL := Lib.hid hvl
      have HD := Lib.hid hdec
      clear hdec hvl
      by_cases hjn : j < n
      · obtain ⟨m, hm⟩ : ∃ m, n - j = m + 1 := ⟨n - j - 1, by omega⟩
        have hjn' : (j : Int) < (n : Int) := by omega
        have HM := Lib.hid hm
        have htx := text_read4 b rr (by omega) wr hG.1
        have p0 := hP.cell 0
        simp only [List.getElem?_toArray, List.getElem?_cons_zero] at p0
        clear hm
        go_wp2_with fail
        refine htx.mono ?_
        rintro e wt (⟨ht, rfl, hgt⟩ | ⟨t, r2, ht, he, hgt⟩)
        · replace hO := hO.goes hgt (by omega)
          replace hP := hP.goes hgt (by omega)
          replace hG := hG.trans hgt
          have HT := Lib.hid ht
          have p4 := hP.cell 0
          simp only [List.getElem?_toArray, List.getElem?_cons_zero] at p4
          have hE := err_flip' b _ _ hG.1
          have hDec : Hid (decBodyM d r = .inl 2) := Lib.hid (by rw [hDec.out, HD.out, HM.out, decFields_noName _ _ _ _ _ HT.out]; rfl)
          obtain ⟨⟨o0, o1, o2, o3, o4, o5⟩, f0, f1, f2, f3, f4, f5⟩ := hO.six

          clear ht htx hgt hV hrow p0
          go_wp2_with fail
          refine hE.mono ?_
          rintro e w4 ⟨rfl, hw4⟩
          subst hw4
          clear hE
          go_wp2
          have hF := ((((((hO.setSame 0 (.int .i64 0)).setSame 1 (.bool false)).setSame 2 (.int .i64 0)).setSame 3 (.string ⟨#[]⟩)).setSame 4 (.slice none 0 0)).setSame 5 (.slice none 0 0))
          obtain ⟨⟨k0, k1, k2, k3', k4, k5⟩, _⟩ := Box.six (c0 := .int .i64 0) (c1 := .bool false) (c2 := .int .i64 0) (c3 := .string ⟨#[]⟩) (c4 := .slice none 0 0) (c5 := .slice none 0 0) hF
          refine bodyPost_ret (v := .tuple #[.agg #[.int .i64 0, .bool false, .int .i64 0, .string ⟨#[]⟩, .slice none 0 0, .slice none 0 0], .int .i64 2]) (by simp [results, Try.results84, go_sem, k0, k1, k2, k3', k4, k5]) rfl ?_
          exact .inl ⟨2, _, _, _, _, _, _, _, _, _, _, _, _, hDec.out, rfl, ((((((hG.set hbl (by simp) _).set hbl (by simp) _).set hbl (by simp) _).set hbl (by simp) _).set hbl (by simp) _).set hbl (by simp) _)⟩
        · obtain ⟨nm, hnm⟩ : ∃ nm : ByteArray, nm = ⟨t.toArray⟩ := ⟨_, rfl⟩
          replace he : e = .returned (.string nm) := by rw [hnm]; exact he
          subst he
          have HT := Lib.hid ht
          have HNM := Lib.hid hnm.symm
          have HR2 := Lib.hid (show r2.length ≤ rr.length by
            have h1 := congrArg List.length (textRead_back ht).1
            simp only [List.length_append] at h1
            omega)
          replace hO := hO.goes hgt (by omega)
          replace hP := hP.goes hgt (by omega)
          replace hV := hV.goes hgt (by omega)
          replace hG := hG.trans hgt
          replace hrow : FRow wt (w.heap.size + 3) (.slice av j cv) vs := hrow.keep (fun q h1 h2 => hgt.2.block q h2 (by intro e; injection e; omega)) hgt.2.size
          have hzt := hgt.2.size
          have hwt3 : w.heap.size + 3 ≤ wt.heap.size := by omega
          have hcall := ih (o + 1) b r2 wt (by omega) (by have := HR2.out; omega) hG.1
          have hoo : ((o + 1 : Nat) : Int) = (o : Int) + 1 := by omega
          rw [hoo] at hcall
          have p4 := hP.cell 0
          simp only [List.getElem?_toArray, List.getElem?_cons_zero] at p4
          have hE := err_flip b _ _ hG.1
          have v5 := hV.six.1.2.2.2.2.2
          clear ht htx hgt hnm hoo p0 hz hzt
          by_cases h0 : j = 0
          · have hlt0 : ¬ (0 : Int) < (j : Int) := by omega
            have HLT : Hid (nameLt (lastN vs) ⟨t.toArray⟩ = true) := Lib.hid (by rw [List.eq_nil_of_length_eq_zero (HVL.out.trans h0)]; rfl)
            clear h0
            go_wp2_with fail
            refine hE.mono ?_
            rintro e w4 ⟨rfl, hw4⟩
            subst hw4
            clear hE
            go_wp2_with fail
            refine hcall.mono ?_
            rintro e w3 (⟨er, s3, bad3, k3, y3, n3, t3, a1, n1, c1, a2, n2, c2, hd3, rfl, hg3⟩ | ⟨x, r3, lv, fv, hd3, rfl, hat3, hg3⟩)
            · have he23 := decV_err d _ er hd3
              have hDec : Hid (decBodyM d r = .inl er) := Lib.hid (by rw [hDec.out, HD.out, HM.out, decFields_fail _ _ _ _ _ _ _ _ HT.out HLT.out hd3]; rfl)
              have he0 : (er == 0) = false := by rw [beq_eq_false_iff_ne]; omega
              have he1 : (er != 0) = true := by rw [bne, he0]; rfl
              have hO4 := (hO.goes hg3 (by omega)).alloc (.cells #[.int .i64 k3, .bool y3, .int .i64 n3, .string t3, .slice a1 n1 c1, .slice a2 n2 c2] 26)
              have hG4 := (hG.trans hg3).alloc (.cells #[.int .i64 k3, .bool y3, .int .i64 n3, .string t3, .slice a1 n1 c1, .slice a2 n2 c2] 26)
              obtain ⟨⟨o0, o1, o2, o3, o4, o5⟩, f0, f1, f2, f3, f4, f5⟩ := hO4.six
              clear hcall hd3 hP hV hrow hg3 hO hG he23
              go_wp2
              have hF := ((((((hO4.setSame 0 (.int .i64 0)).setSame 1 (.bool false)).setSame 2 (.int .i64 0)).setSame 3 (.string ⟨#[]⟩)).setSame 4 (.slice none 0 0)).setSame 5 (.slice none 0 0))
              obtain ⟨⟨k0, k1, k2, k3', k4, k5⟩, _⟩ := Box.six (c0 := .int .i64 0) (c1 := .bool false) (c2 := .int .i64 0) (c3 := .string ⟨#[]⟩) (c4 := .slice none 0 0) (c5 := .slice none 0 0) hF
              refine bodyPost_ret (v := .tuple #[.agg #[.int .i64 0, .bool false, .int .i64 0, .string ⟨#[]⟩, .slice none 0 0, .slice none 0 0], .int .i64 er]) (by simp [results, Try.results84, go_sem, k0, k1, k2, k3', k4, k5]) rfl ?_
              exact .inl ⟨er, _, _, _, _, _, _, _, _, _, _, _, _, hDec.out, rfl, ((((((hG4.set hbl (by simp) _).set hbl (by simp) _).set hbl (by simp) _).set hbl (by simp) _).set hbl (by simp) _).set hbl (by simp) _)⟩
            · obtain ⟨⟨ax, cx, rfl⟩, ⟨ay, cy, rfl⟩, _, _⟩ := hat3.is.len
              obtain ⟨W3, hW3⟩ : ∃ W3, W3 = w3.alloc (.cells #[.int .i64 x.kind, .bool x.yes, .int .i64 x.num, .string x.text, .slice ax x.list.length cx, .slice ay x.fields.length cy] 26) := ⟨_, rfl⟩
              have hback := (decV_back d _ x r3 hd3).1
              have hrr : r3.length + 1 ≤ rr.length := by
                have h1 := congrArg List.length hback
                rw [List.length_append] at h1
                have := lay_pos x
                have := HR2.out
                omega
              have hstep : Hid (decFields (decV d) none n r1 = goOnF (vs ++ [(nm, x)]) (decFields (decV d) (lastN (vs ++ [(nm, x)])) m r3)) := Lib.hid (by rw [HD.out, HM.out, decFields_step _ _ _ _ _ _ _ _ _ HT.out HLT.out hd3, HNM.out, lastN_snoc])
              have hz3 := hg3.2.size
              have hzW : W3.heap.size = w3.heap.size + 1 := by rw [hW3]; simp
              have hP4 : Box W3 w.heap.size 85 #[.pointer (some ⟨b, 0, none⟩)] := by rw [hW3]; exact (hP.goes hg3 (by omega)).alloc _
              have hO4 : Box W3 (w.heap.size + 1) 26 #[.int .i64 0, .bool false, .int .i64 0, .string ⟨#[]⟩, .slice none 0 0, .slice none 0 0] := by rw [hW3]; exact (hO.goes hg3 (by omega)).alloc _
              have hV4 : Box W3 (w.heap.size + 2) 26 #[.int .i64 5, .bool false, .int .i64 0, .string ⟨#[]⟩, .slice none 0 0, .slice av j cv] := by rw [hW3]; exact (hV.goes hg3 (by omega)).alloc _
              have hX4 : Box W3 w3.heap.size 26 #[.int .i64 x.kind, .bool x.yes, .int .i64 x.num, .string x.text, .slice ax x.list.length cx, .slice ay x.fields.length cy] := by rw [hW3]; exact Box.new w3 _ _
              have hG4 : Goes w b ⟨r3.toArray⟩ false W3 := by rw [hW3]; exact (hG.trans hg3).alloc _
              have hk4 : ∀ q, w.heap.size + 3 ≤ q → q < w4.heap.size → W3.heap[q]? = w4.heap[q]? := fun q h1 h2 => by
                rw [hW3]
                exact (Below.heap_alloc w3 _ q (by omega)).trans (hg3.2.block q h2 (by intro e; injection e; omega))
              have hrow4 : FRow W3 (w.heap.size + 3) (.slice av j cv) vs := hrow.keep hk4 (by omega)
              have hown4 : ∀ q, w4.heap.size ≤ q → (Value.slice av j cv).ownBlock ≠ some q := fun q h1 e => by
                obtain ⟨cs, ho4, _⟩ := hrow
                have := (World.ownsRow.lt ho4 q e).2
                omega
              have hat4 : x.At W3 (fun q => w.heap.size + 3 ≤ q ∧ (Value.slice av j cv).ownBlock ≠ some q) (.slice ax x.list.length cx) (.slice ay x.fields.length cy) :=
                V.At.move (fun q hq hlt => ⟨⟨by omega, hown4 q hq⟩, by rw [hW3]; exact Below.heap_alloc w3 _ q hlt⟩) (by omega) _ (Nat.le_refl _) hat3
              have HX := Lib.hid (And.intro hat4 (And.intro hrow4 hG4))
              have HN := Lib.hid (show (Value.slice av j cv).ownBlock ≠ some (w.heap.size + 2) from fun e => by
                obtain ⟨cs, ho4, _⟩ := hrow
                have := (World.ownsRow.lt ho4 _ e).1
                omega)
              have HB := Lib.hid (show ∀ q, (Value.slice av j cv).ownBlock = some q → w.heap.size + 3 ≤ q from fun q e => by
                obtain ⟨cs, ho4, _⟩ := hrow
                exact (World.ownsRow.lt ho4 _ e).1)
              have v5 := hV4.six.1.2.2.2.2.2
              obtain ⟨⟨x0, x1, x2, x3, x4, x5⟩, _⟩ := hX4.six
              rw [hW3] at v5 x0 x1 x2 x3 x4 x5
              have hl5 : (vs ++ [(nm, x)]).length = j + 1 := by rw [List.length_append, HVL.out]; rfl
              have HL5 := Lib.hid hl5
              have hl6 : vs.length ≤ 1000000 := by have := HVL.out; omega
              have HL6 := Lib.hid hl6
              clear hcall hd3 hat3 hback hrow hat4 hrow4 hP hO hV hG hk4 hl5 hl6
              go_wp2_with (at_builtin; refine Mark.out ?_)
              refine Mark.mk ?_
              refine wpList_app_f _ (w3.heap.size + 1) (by simp) rfl (.tmp 53) (.tmp 57) rfl (w.heap.size + 3) (.slice av j cv) vs rfl (by rw [← hW3]; exact HX.out.2.1) (nm, x) (.slice ax x.list.length cx) (.slice ay x.fields.length cy) ⟨_, _, rfl⟩ ⟨_, _, rfl⟩ (by rw [← hW3]; exact HX.out.1) _ (by rfl) 1 rfl HL6.out (by simp; omega) ?_
              intro vv5 w5 hrow5 hup5
              rw [← hW3] at hup5
              have hV5 := (hV4.up hup5 HN.out)
              obtain ⟨⟨s0, s1, s2, s3, s4, s5⟩, f0, f1, f2, f3, f4, f5⟩ := hV5.six
              obtain ⟨av5, cv5, rfl, hc51, hc52⟩ := hrow5.form
              rw [HL5.out] at hrow5 hup5 hc51
              rw [HL5.out]
              have HK := Lib.hid (And.intro hrow5 (And.intro hup5 hV5))
              clear hrow5 hup5 hV5 v5 x0 x1 x2 x3 x4 x5
              go_wp2
              go_roundw
              case rel =>
                refine ⟨j + 1, r3, vs ++ [(nm, x)], .slice av5 (j + 1) cv5, by omega, by go_num, HL5.out, by omega, ?_, ?_, ?_, ?_, ?_, ?_, ?_⟩
                · exact (HX.out.2.2.up HK.out.2.1 hbl (fun q e => by have := HB.out q e; omega)).set hbl (by show w.heap.size ≤ w.heap.size + 1 + 1; omega) _
                · exact (hP4.up HK.out.2.1 (fun e => by have := HB.out _ e; omega)).setFar (by show w.heap.size ≠ w.heap.size + 1 + 1; omega) _
                · exact (hO4.up HK.out.2.1 (fun e => by have := HB.out _ e; omega)).setFar (by show w.heap.size + 1 ≠ w.heap.size + 1 + 1; omega) _
                · exact HK.out.2.2.setSame 5 _
                · exact HK.out.1.keep (fun q h1 h2 => Below.heap_setCell w5 _ _ q (by show q ≠ w.heap.size + 1 + 1; omega)) (by simp [World.setCell])
                · have h1 := HM.out
                  rw [hstep.out, show n - (j + 1) = m by omega]
                · have h1 := HK.out.2.1.1.size
                  have e : ∀ p u, (w5.setCell p u).heap.size = w5.heap.size := fun p u => by simp [World.setCell]
                  rw [e]
                  omega
              case measure => simp [intOf]; omega
          · have hj0' : (0 : Int) < (j : Int) := by omega
            have HQ := Lib.hid (show IntKind.i64.wrap ((j : Int) - 1) = (j : Int) - 1 ∧ (0 : Int) ≤ (j : Int) - 1 ∧ ((j : Int) - 1).toNat = j - 1 ∧ (j : Int) - 1 < (j : Int) ∧ (1 : Int) ≤ (j : Int) by rw [IntKind.wrap_i64]; omega)
            obtain ⟨a', c', e', hc', hc'', hfc⟩ := hrow.at_
            have hlen := HVL.out
            rcases hfc with hfc | ⟨g, off, ha, hgB, hgl, hFC⟩
            · rw [hfc] at hlen; simp at hlen; omega
            injection e' with ea eb ec
            subst ea
            subst ha
            obtain ⟨lp, fp, hinp, hig⟩ := hFC.get (i := j - 1) (by omega)
            have p6 := hinp.seven.1
            have hlast : lastN vs = some (vs[j - 1]'(by omega)).1 := by
              rw [lastN, List.getLast?_eq_getElem?, show vs.length - 1 = j - 1 by omega, List.getElem?_eq_getElem (by omega)]; rfl
            generalize (vs[j - 1]'(by omega)).1 = pm at p6 hlast
            clear hig hinp hFC hlen eb ec h0 hc' hc''
            obtain ⟨q1, q2, q3, q4, q5⟩ := HQ.out
            by_cases hpn : pm.data.toList < nm.data.toList
            · have HLT : Hid (nameLt (lastN vs) ⟨t.toArray⟩ = true) := Lib.hid (by rw [hlast, HNM.out]; exact decide_eq_true hpn)
              have e1 : Op.bytesLess nm.toList pm.toList = false := by rw [Proofs.bytesLess_eq, Lib.toList_data, Lib.toList_data]; exact decide_eq_false (lt_asym hpn)
              have e2 : (nm.toList == pm.toList) = false := by
                rw [Lib.toList_data, Lib.toList_data, beq_eq_false_iff_ne]; intro e; rw [e] at hpn; exact lt_irr _ hpn
              clear hpn hlast
              go_wp2_with fail
              refine hE.mono ?_
              rintro e w4 ⟨rfl, hw4⟩
              subst hw4
              clear hE
              go_wp2_with fail
              clear q1 q2 q3 q4 q5 p6 e1 e2
              refine hcall.mono ?_
              rintro e w3 (⟨er, s3, bad3, k3, y3, n3, t3, a1, n1, c1, a2, n2, c2, hd3, rfl, hg3⟩ | ⟨x, r3, lv, fv, hd3, rfl, hat3, hg3⟩)
              · have he23 := decV_err d _ er hd3
                have hDec : Hid (decBodyM d r = .inl er) := Lib.hid (by rw [hDec.out, HD.out, HM.out, decFields_fail _ _ _ _ _ _ _ _ HT.out HLT.out hd3]; rfl)
                have he0 : (er == 0) = false := by rw [beq_eq_false_iff_ne]; omega
                have he1 : (er != 0) = true := by rw [bne, he0]; rfl
                have hO4 := (hO.goes hg3 (by omega)).alloc (.cells #[.int .i64 k3, .bool y3, .int .i64 n3, .string t3, .slice a1 n1 c1, .slice a2 n2 c2] 26)
                have hG4 := (hG.trans hg3).alloc (.cells #[.int .i64 k3, .bool y3, .int .i64 n3, .string t3, .slice a1 n1 c1, .slice a2 n2 c2] 26)
                obtain ⟨⟨o0, o1, o2, o3, o4, o5⟩, f0, f1, f2, f3, f4, f5⟩ := hO4.six
                clear hcall hd3 hP hV hrow hg3 hO hG he23
                go_wp2
                have hF := ((((((hO4.setSame 0 (.int .i64 0)).setSame 1 (.bool false)).setSame 2 (.int .i64 0)).setSame 3 (.string ⟨#[]⟩)).setSame 4 (.slice none 0 0)).setSame 5 (.slice none 0 0))
                obtain ⟨⟨k0, k1, k2, k3', k4, k5⟩, _⟩ := Box.six (c0 := .int .i64 0) (c1 := .bool false) (c2 := .int .i64 0) (c3 := .string ⟨#[]⟩) (c4 := .slice none 0 0) (c5 := .slice none 0 0) hF
                refine bodyPost_ret (v := .tuple #[.agg #[.int .i64 0, .bool false, .int .i64 0, .string ⟨#[]⟩, .slice none 0 0, .slice none 0 0], .int .i64 er]) (by simp [results, Try.results84, go_sem, k0, k1, k2, k3', k4, k5]) rfl ?_
                exact .inl ⟨er, _, _, _, _, _, _, _, _, _, _, _, _, hDec.out, rfl, ((((((hG4.set hbl (by simp) _).set hbl (by simp) _).set hbl (by simp) _).set hbl (by simp) _).set hbl (by simp) _).set hbl (by simp) _)⟩
              · obtain ⟨⟨ax, cx, rfl⟩, ⟨ay, cy, rfl⟩, _, _⟩ := hat3.is.len
                obtain ⟨W3, hW3⟩ : ∃ W3, W3 = w3.alloc (.cells #[.int .i64 x.kind, .bool x.yes, .int .i64 x.num, .string x.text, .slice ax x.list.length cx, .slice ay x.fields.length cy] 26) := ⟨_, rfl⟩
                have hback := (decV_back d _ x r3 hd3).1
                have hrr : r3.length + 1 ≤ rr.length := by
                  have h1 := congrArg List.length hback
                  rw [List.length_append] at h1
                  have := lay_pos x
                  have := HR2.out
                  omega
                have hstep : Hid (decFields (decV d) none n r1 = goOnF (vs ++ [(nm, x)]) (decFields (decV d) (lastN (vs ++ [(nm, x)])) m r3)) := Lib.hid (by rw [HD.out, HM.out, decFields_step _ _ _ _ _ _ _ _ _ HT.out HLT.out hd3, HNM.out, lastN_snoc])
                have hz3 := hg3.2.size
                have hzW : W3.heap.size = w3.heap.size + 1 := by rw [hW3]; simp
                have hP4 : Box W3 w.heap.size 85 #[.pointer (some ⟨b, 0, none⟩)] := by rw [hW3]; exact (hP.goes hg3 (by omega)).alloc _
                have hO4 : Box W3 (w.heap.size + 1) 26 #[.int .i64 0, .bool false, .int .i64 0, .string ⟨#[]⟩, .slice none 0 0, .slice none 0 0] := by rw [hW3]; exact (hO.goes hg3 (by omega)).alloc _
                have hV4 : Box W3 (w.heap.size + 2) 26 #[.int .i64 5, .bool false, .int .i64 0, .string ⟨#[]⟩, .slice none 0 0, .slice (some ⟨g, off, none⟩) j cv] := by rw [hW3]; exact (hV.goes hg3 (by omega)).alloc _
                have hX4 : Box W3 w3.heap.size 26 #[.int .i64 x.kind, .bool x.yes, .int .i64 x.num, .string x.text, .slice ax x.list.length cx, .slice ay x.fields.length cy] := by rw [hW3]; exact Box.new w3 _ _
                have hG4 : Goes w b ⟨r3.toArray⟩ false W3 := by rw [hW3]; exact (hG.trans hg3).alloc _
                have hk4 : ∀ q, w.heap.size + 3 ≤ q → q < w4.heap.size → W3.heap[q]? = w4.heap[q]? := fun q h1 h2 => by
                  rw [hW3]
                  exact (Below.heap_alloc w3 _ q (by omega)).trans (hg3.2.block q h2 (by intro e; injection e; omega))
                have hrow4 : FRow W3 (w.heap.size + 3) (.slice (some ⟨g, off, none⟩) j cv) vs := hrow.keep hk4 (by omega)
                have hown4 : ∀ q, w4.heap.size ≤ q → (Value.slice (some ⟨g, off, none⟩) j cv).ownBlock ≠ some q := fun q h1 e => by
                  obtain ⟨cs, ho4, _⟩ := hrow
                  have := (World.ownsRow.lt ho4 q e).2
                  omega
                have hat4 : x.At W3 (fun q => w.heap.size + 3 ≤ q ∧ (Value.slice (some ⟨g, off, none⟩) j cv).ownBlock ≠ some q) (.slice ax x.list.length cx) (.slice ay x.fields.length cy) :=
                  V.At.move (fun q hq hlt => ⟨⟨by omega, hown4 q hq⟩, by rw [hW3]; exact Below.heap_alloc w3 _ q hlt⟩) (by omega) _ (Nat.le_refl _) hat3
                have HX := Lib.hid (And.intro hat4 (And.intro hrow4 hG4))
                have HN := Lib.hid (show (Value.slice (some ⟨g, off, none⟩) j cv).ownBlock ≠ some (w.heap.size + 2) from fun e => by
                  obtain ⟨cs, ho4, _⟩ := hrow
                  have := (World.ownsRow.lt ho4 _ e).1
                  omega)
                have HB := Lib.hid (show ∀ q, (Value.slice (some ⟨g, off, none⟩) j cv).ownBlock = some q → w.heap.size + 3 ≤ q from fun q e => by
                  obtain ⟨cs, ho4, _⟩ := hrow
                  exact (World.ownsRow.lt ho4 _ e).1)
                have v5 := hV4.six.1.2.2.2.2.2
                obtain ⟨⟨x0, x1, x2, x3, x4, x5⟩, _⟩ := hX4.six
                rw [hW3] at v5 x0 x1 x2 x3 x4 x5
                have hl5 : (vs ++ [(nm, x)]).length = j + 1 := by rw [List.length_append, HVL.out]; rfl
                have HL5 := Lib.hid hl5
                have hl6 : vs.length ≤ 1000000 := by have := HVL.out; omega
                have HL6 := Lib.hid hl6
                clear hcall hd3 hat3 hback hrow hat4 hrow4 hP hO hV hG hk4 hl5 hl6
                go_wp2_with (at_builtin; refine Mark.out ?_)
                refine Mark.mk ?_
                refine wpList_app_f _ (w3.heap.size + 1) (by simp) rfl (.tmp 53) (.tmp 57) rfl (w.heap.size + 3) (.slice (some ⟨g, off, none⟩) j cv) vs rfl (by rw [← hW3]; exact HX.out.2.1) (nm, x) (.slice ax x.list.length cx) (.slice ay x.fields.length cy) ⟨_, _, rfl⟩ ⟨_, _, rfl⟩ (by rw [← hW3]; exact HX.out.1) _ (by rfl) 1 rfl HL6.out (by simp; omega) ?_
                intro vv5 w5 hrow5 hup5
                rw [← hW3] at hup5
                have hV5 := (hV4.up hup5 HN.out)
                obtain ⟨⟨s0, s1, s2, s3, s4, s5⟩, f0, f1, f2, f3, f4, f5⟩ := hV5.six
                obtain ⟨av5, cv5, rfl, hc51, hc52⟩ := hrow5.form
                rw [HL5.out] at hrow5 hup5 hc51
                rw [HL5.out]
                have HK := Lib.hid (And.intro hrow5 (And.intro hup5 hV5))
                clear hrow5 hup5 hV5 v5 x0 x1 x2 x3 x4 x5
                go_wp2
                go_roundw
                case rel =>
                  refine ⟨j + 1, r3, vs ++ [(nm, x)], .slice av5 (j + 1) cv5, by omega, by go_num, HL5.out, by omega, ?_, ?_, ?_, ?_, ?_, ?_, ?_⟩
                  · exact (HX.out.2.2.up HK.out.2.1 hbl (fun q e => by have := HB.out q e; omega)).set hbl (by show w.heap.size ≤ w.heap.size + 1 + 1; omega) _
                  · exact (hP4.up HK.out.2.1 (fun e => by have := HB.out _ e; omega)).setFar (by show w.heap.size ≠ w.heap.size + 1 + 1; omega) _
                  · exact (hO4.up HK.out.2.1 (fun e => by have := HB.out _ e; omega)).setFar (by show w.heap.size + 1 ≠ w.heap.size + 1 + 1; omega) _
                  · exact HK.out.2.2.setSame 5 _
                  · exact HK.out.1.keep (fun q h1 h2 => Below.heap_setCell w5 _ _ q (by show q ≠ w.heap.size + 1 + 1; omega)) (by simp [World.setCell])
                  · have h1 := HM.out
                    rw [hstep.out, show n - (j + 1) = m by omega]
                  · have h1 := HK.out.2.1.1.size
                    have e : ∀ p u, (w5.setCell p u).heap.size = w5.heap.size := fun p u => by simp [World.setCell]
                    rw [e]
                    omega
                case measure => simp [intOf]; omega
            · have HNL : Hid (nameLt (lastN vs) ⟨t.toArray⟩ = false) := Lib.hid (by rw [hlast, HNM.out]; exact decide_eq_false hpn)
              have e1 : (Op.bytesLess nm.toList pm.toList || nm.toList == pm.toList) = true := by
                rw [Proofs.bytesLess_eq, Lib.toList_data, Lib.toList_data]
                rcases lt_tri nm.data.toList pm.data.toList with h | h | h
                · simp [h]
                · simp [h]
                · exact absurd h hpn
              have hDec : Hid (decBodyM d r = .inl 2) := Lib.hid (by rw [hDec.out, HD.out, HM.out, decFields_notLt _ _ _ _ _ _ _ HT.out HNL.out]; rfl)
              obtain ⟨⟨o0, o1, o2, o3, o4, o5⟩, f0, f1, f2, f3, f4, f5⟩ := hO.six

              clear hpn hlast hcall
              go_wp2_with fail
              refine hE.mono ?_
              rintro e w4 ⟨rfl, hw4⟩
              subst hw4
              clear hE
              go_wp2
              have hF := ((((((hO.setSame 0 (.int .i64 0)).setSame 1 (.bool false)).setSame 2 (.int .i64 0)).setSame 3 (.string ⟨#[]⟩)).setSame 4 (.slice none 0 0)).setSame 5 (.slice none 0 0))
              obtain ⟨⟨k0, k1, k2, k3', k4, k5⟩, _⟩ := Box.six (c0 := .int .i64 0) (c1 := .bool false) (c2 := .int .i64 0) (c3 := .string ⟨#[]⟩) (c4 := .slice none 0 0) (c5 := .slice none 0 0) hF
              refine bodyPost_ret (v := .tuple #[.agg #[.int .i64 0, .bool false, .int .i64 0, .string ⟨#[]⟩, .slice none 0 0, .slice none 0 0], .int .i64 2]) (by simp [results, Try.results84, go_sem, k0, k1, k2, k3', k4, k5]) rfl ?_
              exact .inl ⟨2, _, _, _, _, _, _, _, _, _, _, _, _, hDec.out, rfl, ((((((hG.set hbl (by simp) _).set hbl (by simp) _).set hbl (by simp) _).set hbl (by simp) _).set hbl (by simp) _).set hbl (by simp) _)⟩
      · have hjj : j = n := by omega
        have hDec2 : Hid (decBodyM d r = .inr (V.ofMap vs, rr)) := Lib.hid (by rw [hDec.out, HD.out, hjj, Nat.sub_self]; simp [decFields, goOnF, mapOf])
        have hat : (V.ofMap vs).At wr (fun q => w.heap.size + 3 ≤ q) (.slice none 0 0) (.slice av j cv) := V.at_iff.2 ⟨⟨none, 0, rfl, Nat.le_refl _, by unfold maxLen; omega, .inl rfl⟩, hrow.at_⟩
        have HAT := Lib.hid hat
        have hge : ¬ (j : Int) < (n : Int) := by omega
        have hV3 := hV
        have hP3 := hP
        have hO3 := hO
        have hG3 := hG
        clear hjn hjj hat hrow hV hP hO hG
        have hE := err_flip b _ _ hG3.drew.1
        obtain ⟨⟨v0, v1, v2, v3, v4, v5⟩, _⟩ := hV3.six
        obtain ⟨⟨o0, o1, o2, o3, o4, o5⟩, f0, f1, f2, f3, f4, f5⟩ := hO3.six
        have p3 := hP3.cell 0
        simp only [List.getElem?_toArray, List.getElem?_cons_zero] at p3
        go_wp2_with fail
        refine wp_region_still_tail 4 (by kernel_rfl) (by kernel_rfl) ?_
        change wpStill _ _ (World.drew _) (fun a' => wpList _ _ _ _ a' (World.drew _)) _ _
        simp only [List.take_succ_cons, List.take_zero, List.drop_succ_cons, List.drop_zero]
        still_step
        still_step
        still_step
        refine wpStill_step (fun K hK => ?_)
        go_simp
        refine ⟨_, hE, hK _ ?_⟩
        clear hK K
        refine wpStill_nil ?_
        go_wp2
        have hF := ((((((hO3.setSame 0 (.int .i64 5)).setSame 1 (.bool false)).setSame 2 (.int .i64 0)).setSame 3 (.string ⟨#[]⟩)).setSame 4 (.slice none 0 0)).setSame 5 (.slice av j cv))
        obtain ⟨⟨k0, k1, k2, k3, k4, k5⟩, _⟩ := Box.six (c0 := (.int .i64 5)) (c1 := (.bool false)) (c2 := (.int .i64 0)) (c3 := (.string ⟨#[]⟩)) (c4 := (.slice none 0 0)) (c5 := (.slice av j cv)) hF
        refine bodyPost_ret (v := .tuple #[.agg #[.int .i64 5, .bool false, .int .i64 0, .string ⟨#[]⟩, .slice none 0 0, .slice av j cv], .int .i64 0]) (by simp [results, Try.results84, go_sem, k0, k1, k2, k3, k4, k5]) rfl ?_
        have hfar : ∀ q, w.heap.size + 3 ≤ q → q ≠ w.heap.size + 1 := fun q h1 => by omega
        exact .inr ⟨V.ofMap vs, rr, .slice none 0 0, .slice av j cv, hDec2.out, rfl, (((((((HAT.out.set hfar _).set hfar _).set hfar _).set hfar _).set hfar _).set hfar _).drew).wider (fun q (hq : w.heap.size + 3 ≤ q) => by show w.heap.size ≤ q; omega), ((((((hG3.set hbl (by simp) _).set hbl (by simp) _).set hbl (by simp) _).set hbl (by simp) _).set hbl (by simp) _).set hbl (by simp) _).drew⟩


end Go.Proofs.Ytacphlceggbfcaa
