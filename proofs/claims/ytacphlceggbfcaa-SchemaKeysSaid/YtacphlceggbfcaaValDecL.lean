/-
  val's decoder: a list.
-/
import Derived.Test.YtacphlceggbfcaaValRow
import Derived.Outline
namespace Go.Proofs.Ytacphlceggbfcaa
open Go.RowKit

attribute [local irreducible] wpStill

/-- what a value is read as, so many levels being left -/
def ValOK (d : Nat) : Prop := ∀ (o : Nat) (b : Nat) (l : L8) (w : World), o + d = 32 → l.length ≤ 5000 → Rd w b ⟨l.toArray⟩ false →
  Calls Try.prog 54 #[.agg #[.pointer (some ⟨b, 0, none⟩)], .int .i64 o] w (DecP (decV d l) b w)

/-- what the list makes of what was read -/
def listOf (x : Int ⊕ (List V × L8)) : Int ⊕ (V × L8) := match x with | .inl e => .inl e | .inr (vs, r) => .inr (V.ofList vs, r)

def goOn (vs : List V) (x : Int ⊕ (List V × L8)) : Int ⊕ (List V × L8) := match x with | .inl e => .inl e | .inr (us, r) => .inr (vs ++ us, r)

theorem goOn_nil (x : Int ⊕ (List V × L8)) : goOn [] x = x := by
  rcases x with e | ⟨us, r⟩ <;> rfl

theorem decList_step (f : L8 → Int ⊕ (V × L8)) (m : Nat) (vs : List V) (l r : L8) (v : V) (h : f l = .inr (v, r)) : goOn vs (decList f (m + 1) l) = goOn (vs ++ [v]) (decList f m r) := by
  rw [decList, h]
  simp only
  rcases decList f m r with e | ⟨us, r'⟩
  · rfl
  · simp [goOn]

theorem decList_fail (f : L8 → Int ⊕ (V × L8)) (m : Nat) (vs : List V) (l : L8) (e : Int) (h : f l = .inl e) : goOn vs (decList f (m + 1) l) = .inl e := by
  rw [decList, h]; rfl

theorem num_readM (b : Nat) (l : L8) (w : World) (h : Rd w b ⟨l.toArray⟩ false) :
    Calls Try.prog 59 #[.pointer (some ⟨b, 0, none⟩), .int .i64 9223372036854775807] w (ReadPost (.int .i64 0) (fun v : Nat => .int .i64 (v : Int)) (numRead l 9223372036854775807) b false w) :=
  num_read b false l 9223372036854775807 (by omega) w h

theorem Box.up {w w' : World} {g : Nat} {t : TypeId} {cs : Array Value} {v v' : Value} (h : Box w g t cs) (hu : Up w v w' v') (hne : v.ownBlock ≠ some g) : Box w' g t cs :=
  (hu.1.block g h.lt (fun e => hne e.symm)).trans h

theorem Goes.up {w w1 w2 : World} {b : Nat} {s : ByteArray} {bad : Bool} {v v' : Value} (h : Goes w b s bad w1) (hu : Up w1 v w2 v') (hb : b < w.heap.size) (hne : ∀ q, v.ownBlock = some q → w.heap.size ≤ q) : Goes w b s bad w2 :=
  ⟨(hu.1.block b h.1.lt (fun e => by have := hne b e.symm; omega)).trans h.1, ⟨hu.1.os.trans h.2.os, hu.1.tape.trans h.2.tape, hu.1.output.trans h.2.output, Nat.le_trans h.2.size hu.1.size,
    fun j hj hn => (hu.1.block j (Nat.lt_of_lt_of_le hj h.2.size) (fun e => by have := hne j e.symm; omega)).trans (h.2.block j hj hn)⟩⟩

structure Mark (p : Prop) : Prop where
  mk :: out : p

theorem V.At.set {w : World} {S : Nat → Prop} {v : V} {lv fv : Value} (h : v.At w S lv fv) {p : Addr} (hp : ∀ q, S q → q ≠ p.block) (u : Value) : v.At (w.setCell p u) S lv fv :=
  V.At.move (fun q hS _ => ⟨hS, Below.heap_setCell w p u q (hp q hS)⟩) (by simp [World.setCell]) _ (Nat.le_refl _) h
theorem V.At.drew {w : World} {S : Nat → Prop} {v : V} {lv fv : Value} (h : v.At w S lv fv) : v.At w.drew S lv fv :=
  V.At.move (w := w) (w' := w.drew) (fun _ hS _ => ⟨hS, rfl⟩) (Nat.le_refl w.heap.size) _ (Nat.le_refl _) h
theorem V.At.wider {w : World} {S S' : Nat → Prop} {v : V} {lv fv : Value} (h : v.At w S lv fv) (hS : ∀ q, S q → S' q) : v.At w S' lv fv :=
  V.At.move (fun q hq _ => ⟨hS q hq, rfl⟩) (Nat.le_refl _) _ (Nat.le_refl _) h

def decBody (d : Nat) (r : L8) : Int ⊕ (V × L8) := match numRead r 9223372036854775807 with | none => .inl 2 | some (n, r) => listOf (decList (decV d) n r)

set_option maxHeartbeats 4000000 in
set_option maxRecDepth 100000 in
theorem list_dec (d o : Nat) (ho : o + d = 31) (ih : ValOK d) (b : Nat) (r : L8) (hr : r.length ≤ 5000) (w : World) (h : Rd w b ⟨r.toArray⟩ false) :
    Calls Try.prog 83 #[.agg #[.pointer (some ⟨b, 0, none⟩)], .int .i64 o] w (DecP (decBody d r) b w) := by
  have hbl := h.lt
  obtain ⟨W0, hW0⟩ : ∃ W0, W0 = ((w.alloc (.cells #[.pointer (some ⟨b, 0, none⟩)] 85)).alloc (.cells #[.int .i64 0, .bool false, .int .i64 0, .string ⟨#[]⟩, .slice none 0 0, .slice none 0 0] 26)).alloc (.cells #[.int .i64 4, .bool false, .int .i64 0, .string ⟨#[]⟩, .slice none 0 0, .slice none 0 0] 26) := ⟨_, rfl⟩
  have hg0 : Goes w b ⟨r.toArray⟩ false W0 := by
    rw [hW0]; exact (Goes.refl h).below ((((Below.refl _ w).alloc (Nat.le_refl _) _).alloc (by simp) _).alloc (by simp; omega) _)
  have hP0 : Box W0 w.heap.size 85 #[.pointer (some ⟨b, 0, none⟩)] := by
    rw [hW0]; exact ((Box.new w _ _).alloc _).alloc _
  have hO0 : Box W0 (w.heap.size + 1) 26 #[.int .i64 0, .bool false, .int .i64 0, .string ⟨#[]⟩, .slice none 0 0, .slice none 0 0] := by
    have := Box.new (w.alloc (.cells #[.pointer (some ⟨b, 0, none⟩)] 85)) 26 #[.int .i64 0, .bool false, .int .i64 0, .string ⟨#[]⟩, .slice none 0 0, .slice none 0 0]
    rw [show (w.alloc (.cells #[.pointer (some ⟨b, 0, none⟩)] 85)).heap.size = w.heap.size + 1 by simp] at this
    rw [hW0]; exact this.alloc _
  have hV0 : Box W0 (w.heap.size + 2) 26 #[.int .i64 4, .bool false, .int .i64 0, .string ⟨#[]⟩, .slice none 0 0, .slice none 0 0] := by
    have := Box.new ((w.alloc (.cells #[.pointer (some ⟨b, 0, none⟩)] 85)).alloc (.cells #[.int .i64 0, .bool false, .int .i64 0, .string ⟨#[]⟩, .slice none 0 0, .slice none 0 0] 26)) 26 #[.int .i64 4, .bool false, .int .i64 0, .string ⟨#[]⟩, .slice none 0 0, .slice none 0 0]
    rw [show ((w.alloc (.cells #[.pointer (some ⟨b, 0, none⟩)] 85)).alloc (.cells #[.int .i64 0, .bool false, .int .i64 0, .string ⟨#[]⟩, .slice none 0 0, .slice none 0 0] 26)).heap.size = w.heap.size + 2 by simp] at this
    rw [hW0]; exact this
  have hz0 : W0.heap.size = w.heap.size + 3 := by rw [hW0]; simp
  have hnum := num_readM b r W0 hg0.1
  have p0 := hP0.cell 0
  simp only [List.getElem?_toArray, List.getElem?_cons_zero] at p0
  rw [hW0] at hnum p0
  go_enter Try.func83, Try.ntmps83
  go_wp2_with fail
  refine hnum.mono ?_
  rw [← hW0]
  clear hnum p0
  rintro e w2 (⟨ho2, rfl, hg2⟩ | ⟨n, r1, ho2, rfl, hg2⟩)
  · have hDec : Hid (decBody d r = .inl 2) := Lib.hid (by unfold decBody; rw [ho2])
    have hP3 := hP0.goes hg2 (by omega)
    have hO3 := hO0.goes hg2 (by omega)
    have hV3 := hV0.goes hg2 (by omega)
    have hG3 := hg0.trans hg2
    clear ho2 hg2 hg0 hP0 hO0 hV0 hW0 hz0
    go_wp2
    refine wp_loop_rounds 1 ?_
    rw [rounds_succ]
    have hE := err_flip' b _ _ hG3.drew.1
    obtain ⟨⟨v0, v1, v2, v3, v4, v5⟩, _⟩ := hV3.six
    obtain ⟨⟨o0, o1, o2, o3, o4, o5⟩, f0, f1, f2, f3, f4, f5⟩ := hO3.six
    have p3 := hP3.cell 0
    simp only [List.getElem?_toArray, List.getElem?_cons_zero] at p3
    go_wp2_with fail
    refine wp_region_still_tail 4 (by kernel_rfl) (by kernel_rfl) ?_
    change wpStill _ _ (World.drew _) (fun a' => wpList _ _ _ _ a' (World.drew _)) _ _
    simp only [List.take_succ_cons, List.take_zero, List.drop_succ_cons, List.drop_zero]
    still_step
    still_step
    still_step
    refine wpStill_step (fun K hK => ?_)
    go_simp
    refine ⟨_, hE, hK _ ?_⟩
    clear hK K
    refine wpStill_nil ?_
    go_wp2
    have hF := ((((((hO3.setSame 0 (.int .i64 4)).setSame 1 (.bool false)).setSame 2 (.int .i64 0)).setSame 3 (.string ⟨#[]⟩)).setSame 4 (.slice none 0 0)).setSame 5 (.slice none 0 0))
    obtain ⟨⟨k0, k1, k2, k3, k4, k5⟩, _⟩ := Box.six (c0 := (.int .i64 4)) (c1 := (.bool false)) (c2 := (.int .i64 0)) (c3 := (.string ⟨#[]⟩)) (c4 := (.slice none 0 0)) (c5 := (.slice none 0 0)) hF
    refine bodyPost_ret (v := .tuple #[.agg #[.int .i64 4, .bool false, .int .i64 0, .string ⟨#[]⟩, .slice none 0 0, .slice none 0 0], .int .i64 2]) (by simp [results, Try.results83, go_sem, k0, k1, k2, k3, k4, k5]) rfl ?_
    exact .inl ⟨2, _, _, _, _, _, _, _, _, _, _, _, _, hDec.out, rfl, ((((((hG3.set hbl (by simp) _).set hbl (by simp) _).set hbl (by simp) _).set hbl (by simp) _).set hbl (by simp) _).set hbl (by simp) _).drew⟩
  · have hn := (numRead_len ho2)
    have hDec : Hid (decBody d r = listOf (decList (decV d) n r1)) := Lib.hid (by unfold decBody; rw [ho2])
    have hP2 := hP0.goes hg2 (by omega)
    have hO2 := hO0.goes hg2 (by omega)
    have hV2 := hV0.goes hg2 (by omega)
    have hG2 := hg0.trans hg2
    have hz2 : w.heap.size + 3 ≤ w2.heap.size := by have := hg2.2.size; omega
    have HZ := Lib.hid hz0
    clear hg2 hg0 hP0 hO0 hV0 ho2 hW0 hz0
    go_wp2
    go_loopw [13] (fun i wr => ∃ (j : Nat) (rr : L8) (vs : List V) (vv : Value), j ≤ n ∧ i = .int .i64 j ∧ vs.length = j ∧ rr.length + j ≤ 5000 ∧ Goes w b ⟨rr.toArray⟩ false wr ∧ Box wr w.heap.size 85 #[.pointer (some ⟨b, 0, none⟩)] ∧
      Box wr (w.heap.size + 1) 26 #[.int .i64 0, .bool false, .int .i64 0, .string ⟨#[]⟩, .slice none 0 0, .slice none 0 0] ∧ Box wr (w.heap.size + 2) 26 #[.int .i64 4, .bool false, .int .i64 0, .string ⟨#[]⟩, vv, .slice none 0 0] ∧
      VRow wr (w.heap.size + 3) vv vs ∧ decList (decV d) n r1 = goOn vs (decList (decV d) (n - j) rr) ∧ w.heap.size + 3 ≤ wr.heap.size) (fun i _ => n - (intOf i).toNat)
    case atStart => exact ⟨0, r1, [], _, Nat.zero_le _, rfl, rfl, by omega, hG2, hP2, hO2, hV2, VRow.nil _ _, by rw [goOn_nil]; rfl, hz2⟩
    case round =>
      clear hG2 hP2 hO2 hV2 hz2
      obtain ⟨j, rr, vs, vv, hj, rfl, hvl, hrl, hG, hP, hO, hV, hrow, hdec, hz⟩ := hrel
      subst hvl
      obtain ⟨av, cv, rfl, hvc1, hvc2⟩ := hrow.form
      have HD := Lib.hid hdec
      clear hdec
      have p0 := hP.cell 0
      simp only [List.getElem?_toArray, List.getElem?_cons_zero] at p0
      by_cases hjn : vs.length < n
      · have hcall := ih (o + 1) b rr wr (by omega) (by omega) hG.1
        have hoo : ((o + 1 : Nat) : Int) = (o : Int) + 1 := by omega
        rw [hoo] at hcall
        have hjn' : (vs.length : Int) < (n : Int) := by omega
        obtain ⟨m, hm⟩ : ∃ m, n - vs.length = m + 1 := ⟨n - vs.length - 1, by omega⟩
        have HM := Lib.hid hm
        clear hoo hm
        go_wp2_with fail
        refine hcall.mono ?_
        rintro e w3 (⟨er, s3, bad3, k3, y3, n3, t3, a1, n1, c1, a2, n2, c2, hd3, rfl, hg3⟩ | ⟨x, r3, lv, fv, hd3, rfl, hat3, hg3⟩)
        · have he23 := decV_err d rr er hd3
          have hDec : Hid (decBody d r = .inl er) := Lib.hid (by rw [hDec.out, HD.out, HM.out, decList_fail _ _ _ _ _ hd3]; rfl)
          have he0 : (er == 0) = false := by rw [beq_eq_false_iff_ne]; omega
          have he1 : (er != 0) = true := by rw [bne, he0]; rfl
          have hO4 := (hO.goes hg3 (by omega)).alloc (.cells #[.int .i64 k3, .bool y3, .int .i64 n3, .string t3, .slice a1 n1 c1, .slice a2 n2 c2] 26)
          have hG4 := (hG.trans hg3).alloc (.cells #[.int .i64 k3, .bool y3, .int .i64 n3, .string t3, .slice a1 n1 c1, .slice a2 n2 c2] 26)
          obtain ⟨⟨o0, o1, o2, o3, o4, o5⟩, f0, f1, f2, f3, f4, f5⟩ := hO4.six
          clear hcall hd3 hP hV hrow hg3 hO hG he23
          go_wp2
          have hF := ((((((hO4.setSame 0 (.int .i64 0)).setSame 1 (.bool false)).setSame 2 (.int .i64 0)).setSame 3 (.string ⟨#[]⟩)).setSame 4 (.slice none 0 0)).setSame 5 (.slice none 0 0))
          obtain ⟨⟨k0, k1, k2, k3', k4, k5⟩, _⟩ := Box.six (c0 := (.int .i64 0)) (c1 := (.bool false)) (c2 := (.int .i64 0)) (c3 := (.string ⟨#[]⟩)) (c4 := (.slice none 0 0)) (c5 := (.slice none 0 0)) hF
          refine bodyPost_ret (v := .tuple #[.agg #[.int .i64 0, .bool false, .int .i64 0, .string ⟨#[]⟩, .slice none 0 0, .slice none 0 0], .int .i64 er]) (by simp [results, Try.results83, go_sem, k0, k1, k2, k3', k4, k5]) rfl ?_
          exact .inl ⟨er, _, _, _, _, _, _, _, _, _, _, _, _, hDec.out, rfl, ((((((hG4.set hbl (by simp) _).set hbl (by simp) _).set hbl (by simp) _).set hbl (by simp) _).set hbl (by simp) _).set hbl (by simp) _)⟩
        · obtain ⟨⟨ax, cx, rfl⟩, ⟨ay, cy, rfl⟩, _, _⟩ := hat3.is.len
          obtain ⟨W3, hW3⟩ : ∃ W3, W3 = w3.alloc (.cells #[.int .i64 x.kind, .bool x.yes, .int .i64 x.num, .string x.text, .slice ax x.list.length cx, .slice ay x.fields.length cy] 26) := ⟨_, rfl⟩
          have hback := (decV_back d rr x r3 hd3).1
          have hrr : r3.length + 1 ≤ rr.length := by
            rw [hback, List.length_append]
            have := lay_pos x
            omega
          have hstep : Hid (decList (decV d) n r1 = goOn (vs ++ [x]) (decList (decV d) m r3)) := Lib.hid (by rw [HD.out, HM.out, decList_step _ _ _ _ _ _ hd3])
          have hz3 := hg3.2.size
          have hzW : W3.heap.size = w3.heap.size + 1 := by rw [hW3]; simp
          have hP4 : Box W3 w.heap.size 85 #[.pointer (some ⟨b, 0, none⟩)] := by rw [hW3]; exact (hP.goes hg3 (by omega)).alloc _
          have hO4 : Box W3 (w.heap.size + 1) 26 #[.int .i64 0, .bool false, .int .i64 0, .string ⟨#[]⟩, .slice none 0 0, .slice none 0 0] := by rw [hW3]; exact (hO.goes hg3 (by omega)).alloc _
          have hV4 : Box W3 (w.heap.size + 2) 26 #[.int .i64 4, .bool false, .int .i64 0, .string ⟨#[]⟩, .slice av vs.length cv, .slice none 0 0] := by rw [hW3]; exact (hV.goes hg3 (by omega)).alloc _
          have hX4 : Box W3 w3.heap.size 26 #[.int .i64 x.kind, .bool x.yes, .int .i64 x.num, .string x.text, .slice ax x.list.length cx, .slice ay x.fields.length cy] := by rw [hW3]; exact Box.new w3 _ _
          have hG4 : Goes w b ⟨r3.toArray⟩ false W3 := by rw [hW3]; exact (hG.trans hg3).alloc _
          have hk4 : ∀ q, w.heap.size + 3 ≤ q → q < wr.heap.size → W3.heap[q]? = wr.heap[q]? := fun q h1 h2 => by
            rw [hW3]
            exact (Below.heap_alloc w3 _ q (by omega)).trans (hg3.2.block q h2 (by intro e; injection e; omega))
          have hrow4 : VRow W3 (w.heap.size + 3) (.slice av vs.length cv) vs := hrow.keep hk4 (by omega)
          have hown4 : ∀ q, wr.heap.size ≤ q → (Value.slice av vs.length cv).ownBlock ≠ some q := fun q h1 e => by
            obtain ⟨cs, ho4, _⟩ := hrow
            have := (World.ownsRow.lt ho4 q e).2
            omega
          have hat4 : x.At W3 (fun q => w.heap.size + 3 ≤ q ∧ (Value.slice av vs.length cv).ownBlock ≠ some q) (.slice ax x.list.length cx) (.slice ay x.fields.length cy) :=
            V.At.move (fun q hq hlt => ⟨⟨by omega, hown4 q hq⟩, by rw [hW3]; exact Below.heap_alloc w3 _ q hlt⟩) (by omega) _ (Nat.le_refl _) hat3
          have HX := Lib.hid (And.intro hat4 (And.intro hrow4 hG4))
          have HN := Lib.hid (show (Value.slice av vs.length cv).ownBlock ≠ some (w.heap.size + 2) from fun e => by
            obtain ⟨cs, ho4, _⟩ := hrow
            have := (World.ownsRow.lt ho4 _ e).1
            omega)
          have HB := Lib.hid (show ∀ q, (Value.slice av vs.length cv).ownBlock = some q → w.heap.size + 3 ≤ q from fun q e => by
            obtain ⟨cs, ho4, _⟩ := hrow
            exact (World.ownsRow.lt ho4 _ e).1)
          have v4 := hV4.six.1.2.2.2.2.1
          obtain ⟨⟨x0, x1, x2, x3, x4, x5⟩, _⟩ := hX4.six
          rw [hW3] at v4 x0 x1 x2 x3 x4 x5
          clear hcall hd3 hat3 hback hrow hat4 hrow4 hP hO hV hG hk4
          go_wp2_with (at_builtin; refine Mark.out ?_)
          refine Mark.mk ?_
          refine wpList_app_v _ (w3.heap.size + 1) (by simp) rfl (.tmp 27) (.tmp 29) rfl (w.heap.size + 3) (.slice av vs.length cv) vs rfl (by rw [← hW3]; exact HX.out.2.1) x (.slice ax x.list.length cx) (.slice ay x.fields.length cy) ⟨_, _, rfl⟩ ⟨_, _, rfl⟩ (by rw [← hW3]; exact HX.out.1) _ (by rfl) 1 rfl (by omega) (by simp; omega) ?_
          intro vv5 w5 hrow5 hup5
          rw [← hW3] at hup5
          have hV5 := (hV4.up hup5 HN.out)
          obtain ⟨⟨s0, s1, s2, s3, s4, s5⟩, f0, f1, f2, f3, f4, f5⟩ := hV5.six
          obtain ⟨av5, cv5, rfl, hc51, hc52⟩ := hrow5.form
          have HK := Lib.hid (And.intro hrow5 (And.intro hup5 hV5))
          clear hrow5 hup5 hV5 v4 x0 x1 x2 x3 x4 x5
          go_wp2
          go_roundw
          case rel =>
            refine ⟨vs.length + 1, r3, vs ++ [x], .slice av5 (vs.length + 1) cv5, by omega, by go_num, by simp, by omega, ?_, ?_, ?_, ?_, ?_, ?_, ?_⟩
            · exact (HX.out.2.2.up HK.out.2.1 hbl (fun q e => by have := HB.out q e; omega)).set hbl (by show w.heap.size ≤ w.heap.size + 1 + 1; omega) _
            · exact (hP4.up HK.out.2.1 (fun e => by have := HB.out _ e; omega)).setFar (by show w.heap.size ≠ w.heap.size + 1 + 1; omega) _
            · exact (hO4.up HK.out.2.1 (fun e => by have := HB.out _ e; omega)).setFar (by show w.heap.size + 1 ≠ w.heap.size + 1 + 1; omega) _
            · exact HK.out.2.2.setSame 4 _
            · have h1 := HK.out.1
              rw [List.length_append] at h1
              exact h1.keep (fun q h1 h2 => Below.heap_setCell w5 _ _ q (by show q ≠ w.heap.size + 1 + 1; omega)) (by simp [World.setCell])
            · have h1 := HM.out
              rw [hstep.out, show n - (vs.length + 1) = m by omega]
            · have h1 := HK.out.2.1.1.size
              have e : ∀ p u, (w5.setCell p u).heap.size = w5.heap.size := fun p u => by simp [World.setCell]
              rw [e]
              omega
          case measure => simp [intOf]; omega
      · have hjj : vs.length = n := by omega
        have hDec2 : Hid (decBody d r = .inr (V.ofList vs, rr)) := Lib.hid (by rw [hDec.out, HD.out, hjj, Nat.sub_self]; simp [decList, goOn, listOf])
        have hat : (V.ofList vs).At wr (fun q => w.heap.size + 3 ≤ q) (.slice av vs.length cv) (.slice none 0 0) := V.at_iff.2 ⟨hrow.at_, ⟨none, 0, rfl, Nat.le_refl _, by unfold maxLen; omega, .inl rfl⟩⟩
        have HAT := Lib.hid hat
        have hge : ¬ (vs.length : Int) < (n : Int) := by omega
        have hV3 := hV
        have hP3 := hP
        have hO3 := hO
        have hG3 := hG
        clear hjn hjj hat hrow hV hP hO hG
        have hE := err_flip b _ _ hG3.drew.1
        obtain ⟨⟨v0, v1, v2, v3, v4, v5⟩, _⟩ := hV3.six
        obtain ⟨⟨o0, o1, o2, o3, o4, o5⟩, f0, f1, f2, f3, f4, f5⟩ := hO3.six
        have p3 := hP3.cell 0
        simp only [List.getElem?_toArray, List.getElem?_cons_zero] at p3
        go_wp2_with fail
        refine wp_region_still_tail 4 (by kernel_rfl) (by kernel_rfl) ?_
        change wpStill _ _ (World.drew _) (fun a' => wpList _ _ _ _ a' (World.drew _)) _ _
        simp only [List.take_succ_cons, List.take_zero, List.drop_succ_cons, List.drop_zero]
        still_step
        still_step
        still_step
        refine wpStill_step (fun K hK => ?_)
        go_simp
        refine ⟨_, hE, hK _ ?_⟩
        clear hK K
        refine wpStill_nil ?_
        go_wp2
        have hF := ((((((hO3.setSame 0 (.int .i64 4)).setSame 1 (.bool false)).setSame 2 (.int .i64 0)).setSame 3 (.string ⟨#[]⟩)).setSame 4 (.slice av vs.length cv)).setSame 5 (.slice none 0 0))
        obtain ⟨⟨k0, k1, k2, k3, k4, k5⟩, _⟩ := Box.six (c0 := (.int .i64 4)) (c1 := (.bool false)) (c2 := (.int .i64 0)) (c3 := (.string ⟨#[]⟩)) (c4 := (.slice av vs.length cv)) (c5 := (.slice none 0 0)) hF
        refine bodyPost_ret (v := .tuple #[.agg #[.int .i64 4, .bool false, .int .i64 0, .string ⟨#[]⟩, .slice av vs.length cv, .slice none 0 0], .int .i64 0]) (by simp [results, Try.results83, go_sem, k0, k1, k2, k3, k4, k5]) rfl ?_
        have hfar : ∀ q, w.heap.size + 3 ≤ q → q ≠ w.heap.size + 1 := fun q h1 => by omega
        exact .inr ⟨V.ofList vs, rr, .slice av vs.length cv, .slice none 0 0, hDec2.out, rfl, (((((((HAT.out.set hfar _).set hfar _).set hfar _).set hfar _).set hfar _).set hfar _).drew).wider (fun q (hq : w.heap.size + 3 ≤ q) => by show w.heap.size ≤ q; omega), ((((((hG3.set hbl (by simp) _).set hbl (by simp) _).set hbl (by simp) _).set hbl (by simp) _).set hbl (by simp) _).set hbl (by simp) _).drew⟩

end Go.Proofs.Ytacphlceggbfcaa
