/-
  The walk of mailbaglaw13.SchemaKeys: its laws, and the ways out.
-/
import Derived.Test.YtacphlceggbfcaaSKB2
import Derived.Test.YtacphlceggbfcaaOParts
import Derived.Test.YtacphlceggbfcaaVArg
import Derived.Deep.RegionHeld
namespace Go.Proofs.Ytacphlceggbfcaa.schemaKeys
open Go.RowKit Go.Proofs.Ytacphlceggbfcaa.valOrders

set_option linter.unusedVariables false
set_option linter.unusedSimpArgs false

theorem txts_inj : ∀ {ps qs : List ByteArray}, txts ps = txts qs → ps = qs
  | [], [], _ => rfl
  | [], _ :: _, h => by simp [txts] at h
  | _ :: _, [], h => by simp [txts] at h
  | p :: ps, q :: qs, h => by
    have h : txt p :: txts ps = txt q :: txts qs := h
    injection h with h1 h2
    rw [txt_inj h1, txts_inj h2]
theorem kS_list (ps : List ByteArray) : (kS ps).data.toList = oK (txts ps) := by unfold kS; simp
theorem kS_inj {ps qs : List ByteArray} (h : kS ps = kS qs) : ps = qs := by
  have := congrArg (fun s : ByteArray => s.data.toList) h
  simp only [kS_list] at this
  exact txts_inj (oK_inj _ _ this)
theorem beg_docs (a id : ByteArray) : ordVals.begB (kS [tD, a, id]).data.toList (kS [tD, a]).data.toList = true := decide_eq_true (by
  rw [kS_list, kS_list, oK_prefix]
  exact ⟨[txt id], rfl⟩)
theorem beg_entries (a : ByteArray) (x : Ix) (u : V) (i : ByteArray) : ordVals.begB (⟨(eB a x u i).toArray⟩ : ByteArray).data.toList (kS [tI, a, x.name]).data.toList = true := decide_eq_true (by
  rw [kS_list]
  unfold eB
  simp only [List.append_assoc]
  exact List.prefix_append _ _)

/-- the order that the law tells -/
def ordR (x : Ix) (X : Int) (a b : ByteArray) : Int := if X = 0 ∧ x.uniq = false then cmpL a.data.toList b.data.toList else X
theorem eB_cmp (cn : ByteArray) (x : Ix) (u v : V) (a b : ByteArray) (pu : u.pl) (pv : v.pl) (nu : u.n64) (nv : v.n64) : cmpL (eB cn x u a) (eB cn x v b) = ordR x (u.cmp v) a b := by
  unfold eB ordR
  rw [List.append_assoc, List.append_assoc, cmpL_append_left, ob_cmp u.dep u v _ _ (Nat.le_refl _) pu pv nu nv]
  unfold thn
  by_cases hx : u.cmp v = 0
  · rw [if_neg (by simp [hx])]
    obtain ⟨xn, xf, xu⟩ := x
    cases xu with
    | true => simp [cmpL_self, hx]
    | false =>
      have h := cmpL_oT a.data.toList b.data.toList [] []
      simp only [List.append_nil] at h
      simp only [Bool.false_eq_true, if_false, hx, and_self, if_true]
      rw [h]
      by_cases he : a.data.toList = b.data.toList
      · rw [if_pos he, he, cmpL_self, cmpL_self]
      · rw [if_neg he]
  · rw [if_pos (by simpa using hx), if_neg (fun h => hx h.1)]
theorem less_of (P Q : ByteArray) (R : Int) (h : cmpL P.data.toList Q.data.toList = R) : Op.bytesLess P.toList Q.toList = decide (R < 0) ∧ (P.toList == Q.toList) = decide (R = 0) := by
  rw [Proofs.bytesLess_eq, Lib.toList_data, Lib.toList_data]
  rcases lt_tri P.data.toList Q.data.toList with k | k | k
  · rw [cmpL_lt k] at h
    subst h
    refine ⟨by rw [decide_eq_true k]; rfl, ?_⟩
    rw [show (P.data.toList == Q.data.toList) = false from by rw [beq_eq_false_iff_ne]; intro e; rw [e] at k; exact lt_irr _ k]
    rfl
  · rw [k, cmpL_self] at h
    subst h
    rw [k]
    exact ⟨by rw [decide_eq_false (lt_irr _)]; rfl, by simp⟩
  · rw [cmpL_gt k] at h
    subst h
    refine ⟨by rw [decide_eq_false (lt_asym k)]; rfl, ?_⟩
    rw [show (P.data.toList == Q.data.toList) = false from by rw [beq_eq_false_iff_ne]; intro e; rw [e] at k; exact lt_irr _ k]
    rfl
theorem tri (a b : ByteArray) : (Op.bytesLess a.toList b.toList = true ∧ (a.toList == b.toList) = false ∧ cmpL a.data.toList b.data.toList = -1) ∨ (Op.bytesLess a.toList b.toList = false ∧ (a.toList == b.toList) = true ∧ cmpL a.data.toList b.data.toList = 0) ∨ (Op.bytesLess a.toList b.toList = false ∧ (a.toList == b.toList) = false ∧ cmpL a.data.toList b.data.toList = 1) := by
  rw [Proofs.bytesLess_eq, Lib.toList_data, Lib.toList_data]
  rcases lt_tri a.data.toList b.data.toList with k | k | k
  · exact .inl ⟨decide_eq_true k, by rw [beq_eq_false_iff_ne]; intro e; rw [e] at k; exact lt_irr _ k, cmpL_lt k⟩
  · exact .inr (.inl ⟨by rw [k]; exact decide_eq_false (lt_irr _), by rw [k]; simp, by rw [k, cmpL_self]⟩)
  · exact .inr (.inr ⟨decide_eq_false (lt_asym k), by rw [beq_eq_false_iff_ne]; intro e; rw [e] at k; exact lt_irr _ k, cmpL_gt k⟩)

/-- a block of texts -/
def RowAt (cs : Array Value) (b : Nat) (W : World) : Prop := Box W b 9 cs
theorem RowAt.below {cs : Array Value} {b : Nat} {W W' : World} (h : RowAt cs b W) (hb : Below W.heap.size W W') : RowAt cs b W' := (hb.block b (Box.lt h)).trans h
theorem row_new (cs : Array Value) (W : World) {b : Nat} (hb : b = W.heap.size) : RowAt cs b (W.alloc (.cells cs 9)) := by subst hb; exact Box.new W _ _
theorem key_at (ps : List ByteArray) (h : ∀ p ∈ ps, p.size ≤ 1000) (hn : ps.length ≤ 100) (b : Nat) (W : World) (hr : RowAt (ps.map Value.string).toArray b W) :
    Calls Try.prog 36 #[.slice (some ⟨b, 0, none⟩) ps.length ps.length] W fun e w' => e = .returned (.string (kS ps)) ∧ Below W.heap.size W w' := by
  refine (key_any _ ps.length ps W (.inr ⟨b, 0, rfl, Box.lt hr, fun i hi => ?_⟩) (by have := oK_le ps h; omega) (by omega)).mono fun e w' hh => hh
  rw [Box.cell hr]
  simp [hi]

/-- the four boxes of the law, and what they are behind new blocks -/
theorem four (w : World) (c0 c1 c2 c3 : Array Value) (t0 t1 t2 t3 : TypeId) (W : World)
    (hb : Below ((((w.alloc (.cells c0 t0)).alloc (.cells c1 t1)).alloc (.cells c2 t2)).alloc (.cells c3 t3)).heap.size ((((w.alloc (.cells c0 t0)).alloc (.cells c1 t1)).alloc (.cells c2 t2)).alloc (.cells c3 t3)) W) :
    Below w.heap.size w W ∧ w.heap.size + 4 ≤ W.heap.size ∧ Box W w.heap.size t0 c0 ∧ Box W (w.heap.size + 1) t1 c1 ∧ Box W (w.heap.size + 2) t2 c2 ∧ Box W (w.heap.size + 3) t3 c3 := by
  have e1 : (w.alloc (.cells c0 t0)).heap.size = w.heap.size + 1 := by simp
  have e2 : ((w.alloc (.cells c0 t0)).alloc (.cells c1 t1)).heap.size = w.heap.size + 2 := by simp
  have e3 : (((w.alloc (.cells c0 t0)).alloc (.cells c1 t1)).alloc (.cells c2 t2)).heap.size = w.heap.size + 3 := by simp
  have e4 : ((((w.alloc (.cells c0 t0)).alloc (.cells c1 t1)).alloc (.cells c2 t2)).alloc (.cells c3 t3)).heap.size = w.heap.size + 4 := by simp
  have b0 := Box.new w t0 c0
  have b1 := Box.new (w.alloc (.cells c0 t0)) t1 c1
  have b2 := Box.new ((w.alloc (.cells c0 t0)).alloc (.cells c1 t1)) t2 c2
  have b3 := Box.new (((w.alloc (.cells c0 t0)).alloc (.cells c1 t1)).alloc (.cells c2 t2)) t3 c3
  rw [e1] at b1
  rw [e2] at b2
  rw [e3] at b3
  have hw : Below w.heap.size w ((((w.alloc (.cells c0 t0)).alloc (.cells c1 t1)).alloc (.cells c2 t2)).alloc (.cells c3 t3)) := ((((Below.refl _ w).alloc (Nat.le_refl _) _).alloc (by omega) _).alloc (by omega) _).alloc (by omega) _
  have hz := hb.size
  rw [e4] at hb hz
  exact ⟨hw.trans (hb.mono (by omega)), hz, (hb.block _ (by omega)).trans (((b0.alloc _).alloc _).alloc _), (hb.block _ (by omega)).trans ((b1.alloc _).alloc _), (hb.block _ (by omega)).trans (b2.alloc _), (hb.block _ (by omega)).trans b3⟩

theorem Box.two {w : World} {g : Nat} {c0 c1 : Value} {t : TypeId} (h : Box w g t #[c0, c1]) : w.cell? ⟨g, 0, none⟩ = some c0 ∧ w.cell? ⟨g, 1, none⟩ = some c1 := ⟨h.cell 0, h.cell 1⟩
theorem Box.three {w : World} {g : Nat} {c0 c1 c2 : Value} {t : TypeId} (h : Box w g t #[c0, c1, c2]) : w.cell? ⟨g, 0, none⟩ = some c0 ∧ w.cell? ⟨g, 1, none⟩ = some c1 ∧ w.cell? ⟨g, 2, none⟩ = some c2 := ⟨h.cell 0, h.cell 1, h.cell 2⟩

set_option maxHeartbeats 20000000 in
set_option maxRecDepth 100000 in
theorem out0 (w : World) (cn : ByteArray) (ca : Option Addr) (clen ccap : Nat) (cxs : List Ix) (hcc : IxsCame w ca clen ccap cxs) (x : Ix) (u0 : V) (la : Option Addr) (lc : Nat) (fa : Option Addr) (fc : Nat) (hu0 : u0.Is w (.slice la u0.list.length lc) (.slice fa u0.fields.length fc)) (nu0 : u0.n64) (v0 : V) (ma : Option Addr) (mc : Nat) (na : Option Addr) (nc : Nat) (hv0 : v0.Is w (.slice ma v0.list.length mc) (.slice na v0.fields.length nc)) (nv0 : v0.n64) (ta tb : ByteArray)  (f0 : fewCo cn cxs = false) :
    Calls Try.prog 7 #[.agg #[.string cn, .slice ca clen ccap], .agg #[.string x.name, .string x.field, .bool x.uniq], .agg #[.int .i64 u0.kind, .bool u0.yes, .int .i64 u0.num, .string u0.text, .slice la u0.list.length lc, .slice fa u0.fields.length fc], .agg #[.int .i64 v0.kind, .bool v0.yes, .int .i64 v0.num, .string v0.text, .slice ma v0.list.length mc, .slice na v0.fields.length nc], .string ta, .string tb] w fun e w' => e = .returned (.bool true) ∧ Below w.heap.size w w' := by
  have HH := Lib.hid head13_any
  have HFC : Hid (∀ W, Below w.heap.size w W → Calls Try.prog 30 #[.agg #[.string cn, .slice ca clen ccap]] W fun e w' => e = .returned (.bool (fewCo cn cxs)) ∧ Below W.heap.size W w') := Lib.hid fun W hb => cfew_any (hcc.2.2.2.1.below hb) hcc.1 (by have := hcc.2.1; have := hcc.2.2.1; omega) cn
  have HFU : Hid (∀ W, Below w.heap.size w W → Calls Try.prog 10 #[.agg #[.int .i64 u0.kind, .bool u0.yes, .int .i64 u0.num, .string u0.text, .slice la u0.list.length lc, .slice fa u0.fields.length fc], .int .i64 0] W fun e w' => e = .returned (.bool (u0.few 0)) ∧ Below W.heap.size W w') := Lib.hid fun W hb => few_any u0 _ _ W (hu0.below hb)
  have HFV : Hid (∀ W, Below w.heap.size w W → Calls Try.prog 10 #[.agg #[.int .i64 v0.kind, .bool v0.yes, .int .i64 v0.num, .string v0.text, .slice ma v0.list.length mc, .slice na v0.fields.length nc], .int .i64 0] W fun e w' => e = .returned (.bool (v0.few 0)) ∧ Below W.heap.size W w') := Lib.hid fun W hb => few_any v0 _ _ W (hv0.below hb)
  have HX := Lib.hid (four w #[.string cn, .slice ca clen ccap] #[.string x.name, .string x.field, .bool x.uniq] #[.int .i64 u0.kind, .bool u0.yes, .int .i64 u0.num, .string u0.text, .slice la u0.list.length lc, .slice fa u0.fields.length fc] #[.int .i64 v0.kind, .bool v0.yes, .int .i64 v0.num, .string v0.text, .slice ma v0.list.length mc, .slice na v0.fields.length nc] 51 56 26 26)
  obtain ⟨W0, hW0⟩ : ∃ W0, W0 = (((w.alloc (.cells #[.string cn, .slice ca clen ccap] 51)).alloc (.cells #[.string x.name, .string x.field, .bool x.uniq] 56)).alloc (.cells #[.int .i64 u0.kind, .bool u0.yes, .int .i64 u0.num, .string u0.text, .slice la u0.list.length lc, .slice fa u0.fields.length fc] 26)).alloc (.cells #[.int .i64 v0.kind, .bool v0.yes, .int .i64 v0.num, .string v0.text, .slice ma v0.list.length mc, .slice na v0.fields.length nc] 26) := ⟨_, rfl⟩
  rw [← hW0] at HX
  clear hcc hu0 hv0 nu0 nv0
  rw [f0] at HFC
  clear f0
  go_enter Try.func7, Try.ntmps7
  go_wp2_with fail
  rw [← hW0]
  clear hW0
  refine (HH.out _).mono ?_
  rintro e w1 ⟨rfl, hb1⟩
  have HB1 := Lib.hid hb1
  clear hb1 HH
  obtain ⟨hbw, hzw, b0, b1, b2, b3⟩ := HX.out w1 HB1.out
  have HBW1 := Lib.hid hbw
  have HZ1 := Lib.hid hzw
  obtain ⟨p0, p1⟩ := Box.two b0
  obtain ⟨r0, r1, r2⟩ := Box.three b1
  obtain ⟨⟨s0, s1, s2, s3, s4, s5⟩, _⟩ := b2.six
  obtain ⟨⟨t0, t1, t2, t3, t4, t5⟩, _⟩ := b3.six
  clear hbw hzw b0 b1 b2 b3
  go_wp2_with fail
  refine (HFC.out w1 HBW1.out).mono ?_
  rintro e w2 ⟨rfl, hb⟩
  have HB2 := Lib.hid (HB1.out.trans (hb.mono HB1.out.size))
  clear hb HFC
  clear p0 p1 r0 r1 r2 s0 s1 s2 s3 s4 s5 t0 t1 t2 t3 t4 t5
  obtain ⟨hbw, hzw, b0, b1, b2, b3⟩ := HX.out w2 HB2.out
  have HBW2 := Lib.hid hbw
  have HZ2 := Lib.hid hzw
  obtain ⟨p0, p1⟩ := Box.two b0
  obtain ⟨r0, r1, r2⟩ := Box.three b1
  obtain ⟨⟨s0, s1, s2, s3, s4, s5⟩, _⟩ := b2.six
  obtain ⟨⟨t0, t1, t2, t3, t4, t5⟩, _⟩ := b3.six
  clear hbw hzw b0 b1 b2 b3
  go_wp2
  go_ret
  exact ⟨rfl, HBW2.out⟩

set_option maxHeartbeats 20000000 in
set_option maxRecDepth 100000 in
theorem out1 (w : World) (cn : ByteArray) (ca : Option Addr) (clen ccap : Nat) (cxs : List Ix) (hcc : IxsCame w ca clen ccap cxs) (x : Ix) (u0 : V) (la : Option Addr) (lc : Nat) (fa : Option Addr) (fc : Nat) (hu0 : u0.Is w (.slice la u0.list.length lc) (.slice fa u0.fields.length fc)) (nu0 : u0.n64) (v0 : V) (ma : Option Addr) (mc : Nat) (na : Option Addr) (nc : Nat) (hv0 : v0.Is w (.slice ma v0.list.length mc) (.slice na v0.fields.length nc)) (nv0 : v0.n64) (ta tb : ByteArray) (f0 : fewCo cn cxs = true) (f1 : (60 : Int) < (x.name.size : Int)) :
    Calls Try.prog 7 #[.agg #[.string cn, .slice ca clen ccap], .agg #[.string x.name, .string x.field, .bool x.uniq], .agg #[.int .i64 u0.kind, .bool u0.yes, .int .i64 u0.num, .string u0.text, .slice la u0.list.length lc, .slice fa u0.fields.length fc], .agg #[.int .i64 v0.kind, .bool v0.yes, .int .i64 v0.num, .string v0.text, .slice ma v0.list.length mc, .slice na v0.fields.length nc], .string ta, .string tb] w fun e w' => e = .returned (.bool true) ∧ Below w.heap.size w w' := by
  have HH := Lib.hid head13_any
  have HFC : Hid (∀ W, Below w.heap.size w W → Calls Try.prog 30 #[.agg #[.string cn, .slice ca clen ccap]] W fun e w' => e = .returned (.bool (fewCo cn cxs)) ∧ Below W.heap.size W w') := Lib.hid fun W hb => cfew_any (hcc.2.2.2.1.below hb) hcc.1 (by have := hcc.2.1; have := hcc.2.2.1; omega) cn
  have HFU : Hid (∀ W, Below w.heap.size w W → Calls Try.prog 10 #[.agg #[.int .i64 u0.kind, .bool u0.yes, .int .i64 u0.num, .string u0.text, .slice la u0.list.length lc, .slice fa u0.fields.length fc], .int .i64 0] W fun e w' => e = .returned (.bool (u0.few 0)) ∧ Below W.heap.size W w') := Lib.hid fun W hb => few_any u0 _ _ W (hu0.below hb)
  have HFV : Hid (∀ W, Below w.heap.size w W → Calls Try.prog 10 #[.agg #[.int .i64 v0.kind, .bool v0.yes, .int .i64 v0.num, .string v0.text, .slice ma v0.list.length mc, .slice na v0.fields.length nc], .int .i64 0] W fun e w' => e = .returned (.bool (v0.few 0)) ∧ Below W.heap.size W w') := Lib.hid fun W hb => few_any v0 _ _ W (hv0.below hb)
  have HX := Lib.hid (four w #[.string cn, .slice ca clen ccap] #[.string x.name, .string x.field, .bool x.uniq] #[.int .i64 u0.kind, .bool u0.yes, .int .i64 u0.num, .string u0.text, .slice la u0.list.length lc, .slice fa u0.fields.length fc] #[.int .i64 v0.kind, .bool v0.yes, .int .i64 v0.num, .string v0.text, .slice ma v0.list.length mc, .slice na v0.fields.length nc] 51 56 26 26)
  obtain ⟨W0, hW0⟩ : ∃ W0, W0 = (((w.alloc (.cells #[.string cn, .slice ca clen ccap] 51)).alloc (.cells #[.string x.name, .string x.field, .bool x.uniq] 56)).alloc (.cells #[.int .i64 u0.kind, .bool u0.yes, .int .i64 u0.num, .string u0.text, .slice la u0.list.length lc, .slice fa u0.fields.length fc] 26)).alloc (.cells #[.int .i64 v0.kind, .bool v0.yes, .int .i64 v0.num, .string v0.text, .slice ma v0.list.length mc, .slice na v0.fields.length nc] 26) := ⟨_, rfl⟩
  rw [← hW0] at HX
  clear hcc hu0 hv0 nu0 nv0
  rw [f0] at HFC
  clear f0
  go_enter Try.func7, Try.ntmps7
  go_wp2_with fail
  rw [← hW0]
  clear hW0
  refine (HH.out _).mono ?_
  rintro e w1 ⟨rfl, hb1⟩
  have HB1 := Lib.hid hb1
  clear hb1 HH
  obtain ⟨hbw, hzw, b0, b1, b2, b3⟩ := HX.out w1 HB1.out
  have HBW1 := Lib.hid hbw
  have HZ1 := Lib.hid hzw
  obtain ⟨p0, p1⟩ := Box.two b0
  obtain ⟨r0, r1, r2⟩ := Box.three b1
  obtain ⟨⟨s0, s1, s2, s3, s4, s5⟩, _⟩ := b2.six
  obtain ⟨⟨t0, t1, t2, t3, t4, t5⟩, _⟩ := b3.six
  clear hbw hzw b0 b1 b2 b3
  go_wp2_with fail
  refine (HFC.out w1 HBW1.out).mono ?_
  rintro e w2 ⟨rfl, hb⟩
  have HB2 := Lib.hid (HB1.out.trans (hb.mono HB1.out.size))
  clear hb HFC
  clear p0 p1 r0 r1 r2 s0 s1 s2 s3 s4 s5 t0 t1 t2 t3 t4 t5
  obtain ⟨hbw, hzw, b0, b1, b2, b3⟩ := HX.out w2 HB2.out
  have HBW2 := Lib.hid hbw
  have HZ2 := Lib.hid hzw
  obtain ⟨p0, p1⟩ := Box.two b0
  obtain ⟨r0, r1, r2⟩ := Box.three b1
  obtain ⟨⟨s0, s1, s2, s3, s4, s5⟩, _⟩ := b2.six
  obtain ⟨⟨t0, t1, t2, t3, t4, t5⟩, _⟩ := b3.six
  clear hbw hzw b0 b1 b2 b3
  go_wp2
  go_ret
  exact ⟨rfl, HBW2.out⟩

set_option maxHeartbeats 20000000 in
set_option maxRecDepth 100000 in
theorem out2 (w : World) (cn : ByteArray) (ca : Option Addr) (clen ccap : Nat) (cxs : List Ix) (hcc : IxsCame w ca clen ccap cxs) (x : Ix) (u0 : V) (la : Option Addr) (lc : Nat) (fa : Option Addr) (fc : Nat) (hu0 : u0.Is w (.slice la u0.list.length lc) (.slice fa u0.fields.length fc)) (nu0 : u0.n64) (v0 : V) (ma : Option Addr) (mc : Nat) (na : Option Addr) (nc : Nat) (hv0 : v0.Is w (.slice ma v0.list.length mc) (.slice na v0.fields.length nc)) (nv0 : v0.n64) (ta tb : ByteArray) (f0 : fewCo cn cxs = true) (f1 : ¬ (60 : Int) < (x.name.size : Int)) (f2 : u0.few 0 = false) :
    Calls Try.prog 7 #[.agg #[.string cn, .slice ca clen ccap], .agg #[.string x.name, .string x.field, .bool x.uniq], .agg #[.int .i64 u0.kind, .bool u0.yes, .int .i64 u0.num, .string u0.text, .slice la u0.list.length lc, .slice fa u0.fields.length fc], .agg #[.int .i64 v0.kind, .bool v0.yes, .int .i64 v0.num, .string v0.text, .slice ma v0.list.length mc, .slice na v0.fields.length nc], .string ta, .string tb] w fun e w' => e = .returned (.bool true) ∧ Below w.heap.size w w' := by
  have HH := Lib.hid head13_any
  have HFC : Hid (∀ W, Below w.heap.size w W → Calls Try.prog 30 #[.agg #[.string cn, .slice ca clen ccap]] W fun e w' => e = .returned (.bool (fewCo cn cxs)) ∧ Below W.heap.size W w') := Lib.hid fun W hb => cfew_any (hcc.2.2.2.1.below hb) hcc.1 (by have := hcc.2.1; have := hcc.2.2.1; omega) cn
  have HFU : Hid (∀ W, Below w.heap.size w W → Calls Try.prog 10 #[.agg #[.int .i64 u0.kind, .bool u0.yes, .int .i64 u0.num, .string u0.text, .slice la u0.list.length lc, .slice fa u0.fields.length fc], .int .i64 0] W fun e w' => e = .returned (.bool (u0.few 0)) ∧ Below W.heap.size W w') := Lib.hid fun W hb => few_any u0 _ _ W (hu0.below hb)
  have HFV : Hid (∀ W, Below w.heap.size w W → Calls Try.prog 10 #[.agg #[.int .i64 v0.kind, .bool v0.yes, .int .i64 v0.num, .string v0.text, .slice ma v0.list.length mc, .slice na v0.fields.length nc], .int .i64 0] W fun e w' => e = .returned (.bool (v0.few 0)) ∧ Below W.heap.size W w') := Lib.hid fun W hb => few_any v0 _ _ W (hv0.below hb)
  have HX := Lib.hid (four w #[.string cn, .slice ca clen ccap] #[.string x.name, .string x.field, .bool x.uniq] #[.int .i64 u0.kind, .bool u0.yes, .int .i64 u0.num, .string u0.text, .slice la u0.list.length lc, .slice fa u0.fields.length fc] #[.int .i64 v0.kind, .bool v0.yes, .int .i64 v0.num, .string v0.text, .slice ma v0.list.length mc, .slice na v0.fields.length nc] 51 56 26 26)
  obtain ⟨W0, hW0⟩ : ∃ W0, W0 = (((w.alloc (.cells #[.string cn, .slice ca clen ccap] 51)).alloc (.cells #[.string x.name, .string x.field, .bool x.uniq] 56)).alloc (.cells #[.int .i64 u0.kind, .bool u0.yes, .int .i64 u0.num, .string u0.text, .slice la u0.list.length lc, .slice fa u0.fields.length fc] 26)).alloc (.cells #[.int .i64 v0.kind, .bool v0.yes, .int .i64 v0.num, .string v0.text, .slice ma v0.list.length mc, .slice na v0.fields.length nc] 26) := ⟨_, rfl⟩
  rw [← hW0] at HX
  clear hcc hu0 hv0 nu0 nv0
  rw [f0] at HFC
  rw [f2] at HFU
  clear f0 f2
  go_enter Try.func7, Try.ntmps7
  go_wp2_with fail
  rw [← hW0]
  clear hW0
  refine (HH.out _).mono ?_
  rintro e w1 ⟨rfl, hb1⟩
  have HB1 := Lib.hid hb1
  clear hb1 HH
  obtain ⟨hbw, hzw, b0, b1, b2, b3⟩ := HX.out w1 HB1.out
  have HBW1 := Lib.hid hbw
  have HZ1 := Lib.hid hzw
  obtain ⟨p0, p1⟩ := Box.two b0
  obtain ⟨r0, r1, r2⟩ := Box.three b1
  obtain ⟨⟨s0, s1, s2, s3, s4, s5⟩, _⟩ := b2.six
  obtain ⟨⟨t0, t1, t2, t3, t4, t5⟩, _⟩ := b3.six
  clear hbw hzw b0 b1 b2 b3
  go_wp2_with fail
  refine (HFC.out w1 HBW1.out).mono ?_
  rintro e w2 ⟨rfl, hb⟩
  have HB2 := Lib.hid (HB1.out.trans (hb.mono HB1.out.size))
  clear hb HFC
  clear p0 p1 r0 r1 r2 s0 s1 s2 s3 s4 s5 t0 t1 t2 t3 t4 t5
  obtain ⟨hbw, hzw, b0, b1, b2, b3⟩ := HX.out w2 HB2.out
  have HBW2 := Lib.hid hbw
  have HZ2 := Lib.hid hzw
  obtain ⟨p0, p1⟩ := Box.two b0
  obtain ⟨r0, r1, r2⟩ := Box.three b1
  obtain ⟨⟨s0, s1, s2, s3, s4, s5⟩, _⟩ := b2.six
  obtain ⟨⟨t0, t1, t2, t3, t4, t5⟩, _⟩ := b3.six
  clear hbw hzw b0 b1 b2 b3
  go_wp2_with fail
  refine (HFU.out w2 HBW2.out).mono ?_
  rintro e w3 ⟨rfl, hb⟩
  have HB3 := Lib.hid (HB2.out.trans (hb.mono HB2.out.size))
  clear hb HFU
  clear p0 p1 r0 r1 r2 s0 s1 s2 s3 s4 s5 t0 t1 t2 t3 t4 t5
  obtain ⟨hbw, hzw, b0, b1, b2, b3⟩ := HX.out w3 HB3.out
  have HBW3 := Lib.hid hbw
  have HZ3 := Lib.hid hzw
  obtain ⟨p0, p1⟩ := Box.two b0
  obtain ⟨r0, r1, r2⟩ := Box.three b1
  obtain ⟨⟨s0, s1, s2, s3, s4, s5⟩, _⟩ := b2.six
  obtain ⟨⟨t0, t1, t2, t3, t4, t5⟩, _⟩ := b3.six
  clear hbw hzw b0 b1 b2 b3
  go_wp2
  go_ret
  exact ⟨rfl, HBW3.out⟩

set_option maxHeartbeats 20000000 in
set_option maxRecDepth 100000 in
theorem out3 (w : World) (cn : ByteArray) (ca : Option Addr) (clen ccap : Nat) (cxs : List Ix) (hcc : IxsCame w ca clen ccap cxs) (x : Ix) (u0 : V) (la : Option Addr) (lc : Nat) (fa : Option Addr) (fc : Nat) (hu0 : u0.Is w (.slice la u0.list.length lc) (.slice fa u0.fields.length fc)) (nu0 : u0.n64) (v0 : V) (ma : Option Addr) (mc : Nat) (na : Option Addr) (nc : Nat) (hv0 : v0.Is w (.slice ma v0.list.length mc) (.slice na v0.fields.length nc)) (nv0 : v0.n64) (ta tb : ByteArray) (f0 : fewCo cn cxs = true) (f1 : ¬ (60 : Int) < (x.name.size : Int)) (f2 : u0.few 0 = true) (f3 : v0.few 0 = false) :
    Calls Try.prog 7 #[.agg #[.string cn, .slice ca clen ccap], .agg #[.string x.name, .string x.field, .bool x.uniq], .agg #[.int .i64 u0.kind, .bool u0.yes, .int .i64 u0.num, .string u0.text, .slice la u0.list.length lc, .slice fa u0.fields.length fc], .agg #[.int .i64 v0.kind, .bool v0.yes, .int .i64 v0.num, .string v0.text, .slice ma v0.list.length mc, .slice na v0.fields.length nc], .string ta, .string tb] w fun e w' => e = .returned (.bool true) ∧ Below w.heap.size w w' := by
  have HH := Lib.hid head13_any
  have HFC : Hid (∀ W, Below w.heap.size w W → Calls Try.prog 30 #[.agg #[.string cn, .slice ca clen ccap]] W fun e w' => e = .returned (.bool (fewCo cn cxs)) ∧ Below W.heap.size W w') := Lib.hid fun W hb => cfew_any (hcc.2.2.2.1.below hb) hcc.1 (by have := hcc.2.1; have := hcc.2.2.1; omega) cn
  have HFU : Hid (∀ W, Below w.heap.size w W → Calls Try.prog 10 #[.agg #[.int .i64 u0.kind, .bool u0.yes, .int .i64 u0.num, .string u0.text, .slice la u0.list.length lc, .slice fa u0.fields.length fc], .int .i64 0] W fun e w' => e = .returned (.bool (u0.few 0)) ∧ Below W.heap.size W w') := Lib.hid fun W hb => few_any u0 _ _ W (hu0.below hb)
  have HFV : Hid (∀ W, Below w.heap.size w W → Calls Try.prog 10 #[.agg #[.int .i64 v0.kind, .bool v0.yes, .int .i64 v0.num, .string v0.text, .slice ma v0.list.length mc, .slice na v0.fields.length nc], .int .i64 0] W fun e w' => e = .returned (.bool (v0.few 0)) ∧ Below W.heap.size W w') := Lib.hid fun W hb => few_any v0 _ _ W (hv0.below hb)
  have HX := Lib.hid (four w #[.string cn, .slice ca clen ccap] #[.string x.name, .string x.field, .bool x.uniq] #[.int .i64 u0.kind, .bool u0.yes, .int .i64 u0.num, .string u0.text, .slice la u0.list.length lc, .slice fa u0.fields.length fc] #[.int .i64 v0.kind, .bool v0.yes, .int .i64 v0.num, .string v0.text, .slice ma v0.list.length mc, .slice na v0.fields.length nc] 51 56 26 26)
  obtain ⟨W0, hW0⟩ : ∃ W0, W0 = (((w.alloc (.cells #[.string cn, .slice ca clen ccap] 51)).alloc (.cells #[.string x.name, .string x.field, .bool x.uniq] 56)).alloc (.cells #[.int .i64 u0.kind, .bool u0.yes, .int .i64 u0.num, .string u0.text, .slice la u0.list.length lc, .slice fa u0.fields.length fc] 26)).alloc (.cells #[.int .i64 v0.kind, .bool v0.yes, .int .i64 v0.num, .string v0.text, .slice ma v0.list.length mc, .slice na v0.fields.length nc] 26) := ⟨_, rfl⟩
  rw [← hW0] at HX
  clear hcc hu0 hv0 nu0 nv0
  rw [f0] at HFC
  rw [f2] at HFU
  rw [f3] at HFV
  clear f0 f2 f3
  go_enter Try.func7, Try.ntmps7
  go_wp2_with fail
  rw [← hW0]
  clear hW0
  refine (HH.out _).mono ?_
  rintro e w1 ⟨rfl, hb1⟩
  have HB1 := Lib.hid hb1
  clear hb1 HH
  obtain ⟨hbw, hzw, b0, b1, b2, b3⟩ := HX.out w1 HB1.out
  have HBW1 := Lib.hid hbw
  have HZ1 := Lib.hid hzw
  obtain ⟨p0, p1⟩ := Box.two b0
  obtain ⟨r0, r1, r2⟩ := Box.three b1
  obtain ⟨⟨s0, s1, s2, s3, s4, s5⟩, _⟩ := b2.six
  obtain ⟨⟨t0, t1, t2, t3, t4, t5⟩, _⟩ := b3.six
  clear hbw hzw b0 b1 b2 b3
  go_wp2_with fail
  refine (HFC.out w1 HBW1.out).mono ?_
  rintro e w2 ⟨rfl, hb⟩
  have HB2 := Lib.hid (HB1.out.trans (hb.mono HB1.out.size))
  clear hb HFC
  clear p0 p1 r0 r1 r2 s0 s1 s2 s3 s4 s5 t0 t1 t2 t3 t4 t5
  obtain ⟨hbw, hzw, b0, b1, b2, b3⟩ := HX.out w2 HB2.out
  have HBW2 := Lib.hid hbw
  have HZ2 := Lib.hid hzw
  obtain ⟨p0, p1⟩ := Box.two b0
  obtain ⟨r0, r1, r2⟩ := Box.three b1
  obtain ⟨⟨s0, s1, s2, s3, s4, s5⟩, _⟩ := b2.six
  obtain ⟨⟨t0, t1, t2, t3, t4, t5⟩, _⟩ := b3.six
  clear hbw hzw b0 b1 b2 b3
  go_wp2_with fail
  refine (HFU.out w2 HBW2.out).mono ?_
  rintro e w3 ⟨rfl, hb⟩
  have HB3 := Lib.hid (HB2.out.trans (hb.mono HB2.out.size))
  clear hb HFU
  clear p0 p1 r0 r1 r2 s0 s1 s2 s3 s4 s5 t0 t1 t2 t3 t4 t5
  obtain ⟨hbw, hzw, b0, b1, b2, b3⟩ := HX.out w3 HB3.out
  have HBW3 := Lib.hid hbw
  have HZ3 := Lib.hid hzw
  obtain ⟨p0, p1⟩ := Box.two b0
  obtain ⟨r0, r1, r2⟩ := Box.three b1
  obtain ⟨⟨s0, s1, s2, s3, s4, s5⟩, _⟩ := b2.six
  obtain ⟨⟨t0, t1, t2, t3, t4, t5⟩, _⟩ := b3.six
  clear hbw hzw b0 b1 b2 b3
  go_wp2_with fail
  refine (HFV.out w3 HBW3.out).mono ?_
  rintro e w4 ⟨rfl, hb⟩
  have HB4 := Lib.hid (HB3.out.trans (hb.mono HB3.out.size))
  clear hb HFV
  clear p0 p1 r0 r1 r2 s0 s1 s2 s3 s4 s5 t0 t1 t2 t3 t4 t5
  obtain ⟨hbw, hzw, b0, b1, b2, b3⟩ := HX.out w4 HB4.out
  have HBW4 := Lib.hid hbw
  have HZ4 := Lib.hid hzw
  obtain ⟨p0, p1⟩ := Box.two b0
  obtain ⟨r0, r1, r2⟩ := Box.three b1
  obtain ⟨⟨s0, s1, s2, s3, s4, s5⟩, _⟩ := b2.six
  obtain ⟨⟨t0, t1, t2, t3, t4, t5⟩, _⟩ := b3.six
  clear hbw hzw b0 b1 b2 b3
  go_wp2
  go_ret
  exact ⟨rfl, HBW4.out⟩

set_option maxHeartbeats 20000000 in
set_option maxRecDepth 100000 in
theorem out4 (w : World) (cn : ByteArray) (ca : Option Addr) (clen ccap : Nat) (cxs : List Ix) (hcc : IxsCame w ca clen ccap cxs) (x : Ix) (u0 : V) (la : Option Addr) (lc : Nat) (fa : Option Addr) (fc : Nat) (hu0 : u0.Is w (.slice la u0.list.length lc) (.slice fa u0.fields.length fc)) (nu0 : u0.n64) (v0 : V) (ma : Option Addr) (mc : Nat) (na : Option Addr) (nc : Nat) (hv0 : v0.Is w (.slice ma v0.list.length mc) (.slice na v0.fields.length nc)) (nv0 : v0.n64) (ta tb : ByteArray) (f0 : fewCo cn cxs = true) (f1 : ¬ (60 : Int) < (x.name.size : Int)) (f2 : u0.few 0 = true) (f3 : v0.few 0 = true) (f4 : (60 : Int) < (ta.size : Int)) :
    Calls Try.prog 7 #[.agg #[.string cn, .slice ca clen ccap], .agg #[.string x.name, .string x.field, .bool x.uniq], .agg #[.int .i64 u0.kind, .bool u0.yes, .int .i64 u0.num, .string u0.text, .slice la u0.list.length lc, .slice fa u0.fields.length fc], .agg #[.int .i64 v0.kind, .bool v0.yes, .int .i64 v0.num, .string v0.text, .slice ma v0.list.length mc, .slice na v0.fields.length nc], .string ta, .string tb] w fun e w' => e = .returned (.bool true) ∧ Below w.heap.size w w' := by
  have HH := Lib.hid head13_any
  have HFC : Hid (∀ W, Below w.heap.size w W → Calls Try.prog 30 #[.agg #[.string cn, .slice ca clen ccap]] W fun e w' => e = .returned (.bool (fewCo cn cxs)) ∧ Below W.heap.size W w') := Lib.hid fun W hb => cfew_any (hcc.2.2.2.1.below hb) hcc.1 (by have := hcc.2.1; have := hcc.2.2.1; omega) cn
  have HFU : Hid (∀ W, Below w.heap.size w W → Calls Try.prog 10 #[.agg #[.int .i64 u0.kind, .bool u0.yes, .int .i64 u0.num, .string u0.text, .slice la u0.list.length lc, .slice fa u0.fields.length fc], .int .i64 0] W fun e w' => e = .returned (.bool (u0.few 0)) ∧ Below W.heap.size W w') := Lib.hid fun W hb => few_any u0 _ _ W (hu0.below hb)
  have HFV : Hid (∀ W, Below w.heap.size w W → Calls Try.prog 10 #[.agg #[.int .i64 v0.kind, .bool v0.yes, .int .i64 v0.num, .string v0.text, .slice ma v0.list.length mc, .slice na v0.fields.length nc], .int .i64 0] W fun e w' => e = .returned (.bool (v0.few 0)) ∧ Below W.heap.size W w') := Lib.hid fun W hb => few_any v0 _ _ W (hv0.below hb)
  have HX := Lib.hid (four w #[.string cn, .slice ca clen ccap] #[.string x.name, .string x.field, .bool x.uniq] #[.int .i64 u0.kind, .bool u0.yes, .int .i64 u0.num, .string u0.text, .slice la u0.list.length lc, .slice fa u0.fields.length fc] #[.int .i64 v0.kind, .bool v0.yes, .int .i64 v0.num, .string v0.text, .slice ma v0.list.length mc, .slice na v0.fields.length nc] 51 56 26 26)
  obtain ⟨W0, hW0⟩ : ∃ W0, W0 = (((w.alloc (.cells #[.string cn, .slice ca clen ccap] 51)).alloc (.cells #[.string x.name, .string x.field, .bool x.uniq] 56)).alloc (.cells #[.int .i64 u0.kind, .bool u0.yes, .int .i64 u0.num, .string u0.text, .slice la u0.list.length lc, .slice fa u0.fields.length fc] 26)).alloc (.cells #[.int .i64 v0.kind, .bool v0.yes, .int .i64 v0.num, .string v0.text, .slice ma v0.list.length mc, .slice na v0.fields.length nc] 26) := ⟨_, rfl⟩
  rw [← hW0] at HX
  clear hcc hu0 hv0 nu0 nv0
  rw [f0] at HFC
  rw [f2] at HFU
  rw [f3] at HFV
  clear f0 f2 f3
  go_enter Try.func7, Try.ntmps7
  go_wp2_with fail
  rw [← hW0]
  clear hW0
  refine (HH.out _).mono ?_
  rintro e w1 ⟨rfl, hb1⟩
  have HB1 := Lib.hid hb1
  clear hb1 HH
  obtain ⟨hbw, hzw, b0, b1, b2, b3⟩ := HX.out w1 HB1.out
  have HBW1 := Lib.hid hbw
  have HZ1 := Lib.hid hzw
  obtain ⟨p0, p1⟩ := Box.two b0
  obtain ⟨r0, r1, r2⟩ := Box.three b1
  obtain ⟨⟨s0, s1, s2, s3, s4, s5⟩, _⟩ := b2.six
  obtain ⟨⟨t0, t1, t2, t3, t4, t5⟩, _⟩ := b3.six
  clear hbw hzw b0 b1 b2 b3
  go_wp2_with fail
  refine (HFC.out w1 HBW1.out).mono ?_
  rintro e w2 ⟨rfl, hb⟩
  have HB2 := Lib.hid (HB1.out.trans (hb.mono HB1.out.size))
  clear hb HFC
  clear p0 p1 r0 r1 r2 s0 s1 s2 s3 s4 s5 t0 t1 t2 t3 t4 t5
  obtain ⟨hbw, hzw, b0, b1, b2, b3⟩ := HX.out w2 HB2.out
  have HBW2 := Lib.hid hbw
  have HZ2 := Lib.hid hzw
  obtain ⟨p0, p1⟩ := Box.two b0
  obtain ⟨r0, r1, r2⟩ := Box.three b1
  obtain ⟨⟨s0, s1, s2, s3, s4, s5⟩, _⟩ := b2.six
  obtain ⟨⟨t0, t1, t2, t3, t4, t5⟩, _⟩ := b3.six
  clear hbw hzw b0 b1 b2 b3
  go_wp2_with fail
  refine (HFU.out w2 HBW2.out).mono ?_
  rintro e w3 ⟨rfl, hb⟩
  have HB3 := Lib.hid (HB2.out.trans (hb.mono HB2.out.size))
  clear hb HFU
  clear p0 p1 r0 r1 r2 s0 s1 s2 s3 s4 s5 t0 t1 t2 t3 t4 t5
  obtain ⟨hbw, hzw, b0, b1, b2, b3⟩ := HX.out w3 HB3.out
  have HBW3 := Lib.hid hbw
  have HZ3 := Lib.hid hzw
  obtain ⟨p0, p1⟩ := Box.two b0
  obtain ⟨r0, r1, r2⟩ := Box.three b1
  obtain ⟨⟨s0, s1, s2, s3, s4, s5⟩, _⟩ := b2.six
  obtain ⟨⟨t0, t1, t2, t3, t4, t5⟩, _⟩ := b3.six
  clear hbw hzw b0 b1 b2 b3
  go_wp2_with fail
  refine (HFV.out w3 HBW3.out).mono ?_
  rintro e w4 ⟨rfl, hb⟩
  have HB4 := Lib.hid (HB3.out.trans (hb.mono HB3.out.size))
  clear hb HFV
  clear p0 p1 r0 r1 r2 s0 s1 s2 s3 s4 s5 t0 t1 t2 t3 t4 t5
  obtain ⟨hbw, hzw, b0, b1, b2, b3⟩ := HX.out w4 HB4.out
  have HBW4 := Lib.hid hbw
  have HZ4 := Lib.hid hzw
  obtain ⟨p0, p1⟩ := Box.two b0
  obtain ⟨r0, r1, r2⟩ := Box.three b1
  obtain ⟨⟨s0, s1, s2, s3, s4, s5⟩, _⟩ := b2.six
  obtain ⟨⟨t0, t1, t2, t3, t4, t5⟩, _⟩ := b3.six
  clear hbw hzw b0 b1 b2 b3
  go_wp2
  go_ret
  exact ⟨rfl, HBW4.out⟩

set_option maxHeartbeats 20000000 in
set_option maxRecDepth 100000 in
theorem out5 (w : World) (cn : ByteArray) (ca : Option Addr) (clen ccap : Nat) (cxs : List Ix) (hcc : IxsCame w ca clen ccap cxs) (x : Ix) (u0 : V) (la : Option Addr) (lc : Nat) (fa : Option Addr) (fc : Nat) (hu0 : u0.Is w (.slice la u0.list.length lc) (.slice fa u0.fields.length fc)) (nu0 : u0.n64) (v0 : V) (ma : Option Addr) (mc : Nat) (na : Option Addr) (nc : Nat) (hv0 : v0.Is w (.slice ma v0.list.length mc) (.slice na v0.fields.length nc)) (nv0 : v0.n64) (ta tb : ByteArray) (f0 : fewCo cn cxs = true) (f1 : ¬ (60 : Int) < (x.name.size : Int)) (f2 : u0.few 0 = true) (f3 : v0.few 0 = true) (f4 : ¬ (60 : Int) < (ta.size : Int)) (f5 : (60 : Int) < (tb.size : Int)) :
    Calls Try.prog 7 #[.agg #[.string cn, .slice ca clen ccap], .agg #[.string x.name, .string x.field, .bool x.uniq], .agg #[.int .i64 u0.kind, .bool u0.yes, .int .i64 u0.num, .string u0.text, .slice la u0.list.length lc, .slice fa u0.fields.length fc], .agg #[.int .i64 v0.kind, .bool v0.yes, .int .i64 v0.num, .string v0.text, .slice ma v0.list.length mc, .slice na v0.fields.length nc], .string ta, .string tb] w fun e w' => e = .returned (.bool true) ∧ Below w.heap.size w w' := by
  have HH := Lib.hid head13_any
  have HFC : Hid (∀ W, Below w.heap.size w W → Calls Try.prog 30 #[.agg #[.string cn, .slice ca clen ccap]] W fun e w' => e = .returned (.bool (fewCo cn cxs)) ∧ Below W.heap.size W w') := Lib.hid fun W hb => cfew_any (hcc.2.2.2.1.below hb) hcc.1 (by have := hcc.2.1; have := hcc.2.2.1; omega) cn
  have HFU : Hid (∀ W, Below w.heap.size w W → Calls Try.prog 10 #[.agg #[.int .i64 u0.kind, .bool u0.yes, .int .i64 u0.num, .string u0.text, .slice la u0.list.length lc, .slice fa u0.fields.length fc], .int .i64 0] W fun e w' => e = .returned (.bool (u0.few 0)) ∧ Below W.heap.size W w') := Lib.hid fun W hb => few_any u0 _ _ W (hu0.below hb)
  have HFV : Hid (∀ W, Below w.heap.size w W → Calls Try.prog 10 #[.agg #[.int .i64 v0.kind, .bool v0.yes, .int .i64 v0.num, .string v0.text, .slice ma v0.list.length mc, .slice na v0.fields.length nc], .int .i64 0] W fun e w' => e = .returned (.bool (v0.few 0)) ∧ Below W.heap.size W w') := Lib.hid fun W hb => few_any v0 _ _ W (hv0.below hb)
  have HX := Lib.hid (four w #[.string cn, .slice ca clen ccap] #[.string x.name, .string x.field, .bool x.uniq] #[.int .i64 u0.kind, .bool u0.yes, .int .i64 u0.num, .string u0.text, .slice la u0.list.length lc, .slice fa u0.fields.length fc] #[.int .i64 v0.kind, .bool v0.yes, .int .i64 v0.num, .string v0.text, .slice ma v0.list.length mc, .slice na v0.fields.length nc] 51 56 26 26)
  obtain ⟨W0, hW0⟩ : ∃ W0, W0 = (((w.alloc (.cells #[.string cn, .slice ca clen ccap] 51)).alloc (.cells #[.string x.name, .string x.field, .bool x.uniq] 56)).alloc (.cells #[.int .i64 u0.kind, .bool u0.yes, .int .i64 u0.num, .string u0.text, .slice la u0.list.length lc, .slice fa u0.fields.length fc] 26)).alloc (.cells #[.int .i64 v0.kind, .bool v0.yes, .int .i64 v0.num, .string v0.text, .slice ma v0.list.length mc, .slice na v0.fields.length nc] 26) := ⟨_, rfl⟩
  rw [← hW0] at HX
  clear hcc hu0 hv0 nu0 nv0
  rw [f0] at HFC
  rw [f2] at HFU
  rw [f3] at HFV
  clear f0 f2 f3
  go_enter Try.func7, Try.ntmps7
  go_wp2_with fail
  rw [← hW0]
  clear hW0
  refine (HH.out _).mono ?_
  rintro e w1 ⟨rfl, hb1⟩
  have HB1 := Lib.hid hb1
  clear hb1 HH
  obtain ⟨hbw, hzw, b0, b1, b2, b3⟩ := HX.out w1 HB1.out
  have HBW1 := Lib.hid hbw
  have HZ1 := Lib.hid hzw
  obtain ⟨p0, p1⟩ := Box.two b0
  obtain ⟨r0, r1, r2⟩ := Box.three b1
  obtain ⟨⟨s0, s1, s2, s3, s4, s5⟩, _⟩ := b2.six
  obtain ⟨⟨t0, t1, t2, t3, t4, t5⟩, _⟩ := b3.six
  clear hbw hzw b0 b1 b2 b3
  go_wp2_with fail
  refine (HFC.out w1 HBW1.out).mono ?_
  rintro e w2 ⟨rfl, hb⟩
  have HB2 := Lib.hid (HB1.out.trans (hb.mono HB1.out.size))
  clear hb HFC
  clear p0 p1 r0 r1 r2 s0 s1 s2 s3 s4 s5 t0 t1 t2 t3 t4 t5
  obtain ⟨hbw, hzw, b0, b1, b2, b3⟩ := HX.out w2 HB2.out
  have HBW2 := Lib.hid hbw
  have HZ2 := Lib.hid hzw
  obtain ⟨p0, p1⟩ := Box.two b0
  obtain ⟨r0, r1, r2⟩ := Box.three b1
  obtain ⟨⟨s0, s1, s2, s3, s4, s5⟩, _⟩ := b2.six
  obtain ⟨⟨t0, t1, t2, t3, t4, t5⟩, _⟩ := b3.six
  clear hbw hzw b0 b1 b2 b3
  go_wp2_with fail
  refine (HFU.out w2 HBW2.out).mono ?_
  rintro e w3 ⟨rfl, hb⟩
  have HB3 := Lib.hid (HB2.out.trans (hb.mono HB2.out.size))
  clear hb HFU
  clear p0 p1 r0 r1 r2 s0 s1 s2 s3 s4 s5 t0 t1 t2 t3 t4 t5
  obtain ⟨hbw, hzw, b0, b1, b2, b3⟩ := HX.out w3 HB3.out
  have HBW3 := Lib.hid hbw
  have HZ3 := Lib.hid hzw
  obtain ⟨p0, p1⟩ := Box.two b0
  obtain ⟨r0, r1, r2⟩ := Box.three b1
  obtain ⟨⟨s0, s1, s2, s3, s4, s5⟩, _⟩ := b2.six
  obtain ⟨⟨t0, t1, t2, t3, t4, t5⟩, _⟩ := b3.six
  clear hbw hzw b0 b1 b2 b3
  go_wp2_with fail
  refine (HFV.out w3 HBW3.out).mono ?_
  rintro e w4 ⟨rfl, hb⟩
  have HB4 := Lib.hid (HB3.out.trans (hb.mono HB3.out.size))
  clear hb HFV
  clear p0 p1 r0 r1 r2 s0 s1 s2 s3 s4 s5 t0 t1 t2 t3 t4 t5
  obtain ⟨hbw, hzw, b0, b1, b2, b3⟩ := HX.out w4 HB4.out
  have HBW4 := Lib.hid hbw
  have HZ4 := Lib.hid hzw
  obtain ⟨p0, p1⟩ := Box.two b0
  obtain ⟨r0, r1, r2⟩ := Box.three b1
  obtain ⟨⟨s0, s1, s2, s3, s4, s5⟩, _⟩ := b2.six
  obtain ⟨⟨t0, t1, t2, t3, t4, t5⟩, _⟩ := b3.six
  clear hbw hzw b0 b1 b2 b3
  go_wp2
  go_ret
  exact ⟨rfl, HBW4.out⟩

end Go.Proofs.Ytacphlceggbfcaa.schemaKeys
