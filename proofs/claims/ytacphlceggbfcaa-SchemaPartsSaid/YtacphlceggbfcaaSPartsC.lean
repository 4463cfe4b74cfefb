/-
  The walk of mailbaglaw13.SchemaParts.
-/
import Derived.Test.YtacphlceggbfcaaSKB2
import Derived.Test.YtacphlceggbfcaaVArg
import Derived.Deep.RegionHeld
namespace Go.Proofs.Ytacphlceggbfcaa.schemaParts
open Go.RowKit Go.Proofs.Ytacphlceggbfcaa.valOrders

set_option linter.unusedVariables false
set_option linter.unusedSimpArgs false

theorem ne_beq {s t : ByteArray} (h : s ≠ t) : (s.toList == t.toList) = false := by
  rw [beq_eq_false_iff_ne]
  intro e
  rw [Lib.toList_data, Lib.toList_data] at e
  exact h (ByteArray.ext (Array.toList_inj.1 e))
theorem mk_ne {l m : List UInt8} (h : l ≠ m) : (⟨l.toArray⟩ : ByteArray) ≠ ⟨m.toArray⟩ := fun e => h (by injection e with e; simpa using e)
theorem txts_inj : ∀ {ps qs : List ByteArray}, txts ps = txts qs → ps = qs
  | [], [], _ => rfl
  | [], _ :: _, h => by simp [txts] at h
  | _ :: _, [], h => by simp [txts] at h
  | p :: ps, q :: qs, h => by
    have h : txt p :: txts ps = txt q :: txts qs := h
    injection h with h1 h2
    rw [txt_inj h1, txts_inj h2]
theorem kS_ne {ps qs : List ByteArray} (h : ps ≠ qs) : kS ps ≠ kS qs := mk_ne fun e => h (txts_inj (oK_inj _ _ e))
theorem eB_parse {a b : ByteArray} {x y : Ix} {u v : V} {i j : ByteArray} {r s : List UInt8} (h : eB a x u i ++ r = eB b y v j ++ s) : a = b := by
  unfold eB at h
  have h' : oT (txt tI) ++ (oT (txt a) ++ (oT (txt x.name) ++ (oK [] ++ (u.ob ++ ((if x.uniq then [] else oT i.data.toList) ++ r))))) = oT (txt tI) ++ (oT (txt b) ++ (oT (txt y.name) ++ (oK [] ++ (v.ob ++ ((if y.uniq then [] else oT j.data.toList) ++ s))))) := by
    simpa [txts, oK_cons, List.append_assoc] using h
  exact txt_inj (oT_inj _ _ _ _ (oT_inj _ _ _ _ h').2).1
theorem eB_ne {a b : ByteArray} (h : a ≠ b) (x y : Ix) (u v : V) (i j : ByteArray) : eB a x u i ≠ eB b y v j := fun e => h (eB_parse (r := []) (s := []) (by rw [e]))
theorem kS_list (ps : List ByteArray) : (kS ps).data.toList = oK (txts ps) := by unfold kS; simp
theorem beg_false {s t : ByteArray} (h : ¬ t.data.toList <+: s.data.toList) : ordVals.begB s.data.toList t.data.toList = false := decide_eq_false h
theorem beg_docs {a b id : ByteArray} (h : a ≠ b) : ordVals.begB (kS [tD, a, id]).data.toList (kS [tD, b]).data.toList = false := beg_false fun k => by
  rw [kS_list, kS_list, oK_prefix] at k
  simp only [txts, List.map_cons, List.map_nil] at k
  obtain ⟨t, ht⟩ := k
  simp only [List.cons_append, List.cons.injEq] at ht
  exact h (txt_inj ht.2.1).symm
theorem beg_entries {a b : ByteArray} (h : a ≠ b) (x y : Ix) (u : V) (i : ByteArray) : ordVals.begB (⟨(eB a x u i).toArray⟩ : ByteArray).data.toList (kS [tI, b, y.name]).data.toList = false := beg_false fun k => by
  rw [kS_list] at k
  obtain ⟨t, ht⟩ := k
  have ht : oK (txts [tI, b, y.name]) ++ t = eB a x u i := by simpa using ht
  unfold eB at ht
  have h' : oT (txt tI) ++ (oT (txt b) ++ (oT (txt y.name) ++ (oK [] ++ t))) = oT (txt tI) ++ (oT (txt a) ++ (oT (txt x.name) ++ (oK [] ++ (u.ob ++ (if x.uniq then [] else oT i.data.toList))))) := by
    simpa [txts, oK_cons, List.append_assoc] using ht
  exact h (txt_inj (oT_inj _ _ _ _ (oT_inj _ _ _ _ h').2).1).symm
theorem doc_ne_entry (a id nm : ByteArray) (x : Ix) (u : V) (i : ByteArray) : kS [tD, a, id] ≠ ⟨(eB nm x u i).toArray⟩ := mk_ne fun e => by
  unfold eB at e
  have h' : oT (txt tD) ++ (oT (txt a) ++ (oT (txt id) ++ oK [])) = oT (txt tI) ++ (oT (txt nm) ++ (oT (txt x.name) ++ (oK [] ++ (u.ob ++ (if x.uniq then [] else oT i.data.toList))))) := by
    simpa [txts, oK_cons, List.append_assoc] using e
  have := (oT_inj _ _ _ _ h').1
  exact absurd this (by decide)
theorem key_ne_doc (a b id : ByteArray) : kS [tC, a] ≠ kS [tD, b, id] := kS_ne fun e => by injection e with e _; exact absurd e (by decide)

/-- the five boxes of the law, and what they are behind new blocks -/
theorem five (w : World) (c0 c1 c2 c3 c4 : Array Value) (t0 t1 t2 t3 t4 : TypeId) (W : World)
    (hb : Below (((((w.alloc (.cells c0 t0)).alloc (.cells c1 t1)).alloc (.cells c2 t2)).alloc (.cells c3 t3)).alloc (.cells c4 t4)).heap.size (((((w.alloc (.cells c0 t0)).alloc (.cells c1 t1)).alloc (.cells c2 t2)).alloc (.cells c3 t3)).alloc (.cells c4 t4)) W) :
    Below w.heap.size w W ∧ w.heap.size + 5 ≤ W.heap.size ∧ Box W w.heap.size t0 c0 ∧ Box W (w.heap.size + 1) t1 c1 ∧ Box W (w.heap.size + 2) t2 c2 ∧ Box W (w.heap.size + 3) t3 c3 ∧ Box W (w.heap.size + 4) t4 c4 := by
  have e1 : (w.alloc (.cells c0 t0)).heap.size = w.heap.size + 1 := by simp
  have e2 : ((w.alloc (.cells c0 t0)).alloc (.cells c1 t1)).heap.size = w.heap.size + 2 := by simp
  have e3 : (((w.alloc (.cells c0 t0)).alloc (.cells c1 t1)).alloc (.cells c2 t2)).heap.size = w.heap.size + 3 := by simp
  have e4 : ((((w.alloc (.cells c0 t0)).alloc (.cells c1 t1)).alloc (.cells c2 t2)).alloc (.cells c3 t3)).heap.size = w.heap.size + 4 := by simp
  have e5 : (((((w.alloc (.cells c0 t0)).alloc (.cells c1 t1)).alloc (.cells c2 t2)).alloc (.cells c3 t3)).alloc (.cells c4 t4)).heap.size = w.heap.size + 5 := by simp
  have b0 := Box.new w t0 c0
  have b1 := Box.new (w.alloc (.cells c0 t0)) t1 c1
  have b2 := Box.new ((w.alloc (.cells c0 t0)).alloc (.cells c1 t1)) t2 c2
  have b3 := Box.new (((w.alloc (.cells c0 t0)).alloc (.cells c1 t1)).alloc (.cells c2 t2)) t3 c3
  have b4 := Box.new ((((w.alloc (.cells c0 t0)).alloc (.cells c1 t1)).alloc (.cells c2 t2)).alloc (.cells c3 t3)) t4 c4
  rw [e1] at b1
  rw [e2] at b2
  rw [e3] at b3
  rw [e4] at b4
  have hw : Below w.heap.size w (((((w.alloc (.cells c0 t0)).alloc (.cells c1 t1)).alloc (.cells c2 t2)).alloc (.cells c3 t3)).alloc (.cells c4 t4)) := (((((Below.refl _ w).alloc (Nat.le_refl _) _).alloc (by omega) _).alloc (by omega) _).alloc (by omega) _).alloc (by omega) _
  have hz := hb.size
  rw [e5] at hb hz
  exact ⟨hw.trans (hb.mono (by omega)), hz, (hb.block _ (by omega)).trans ((((b0.alloc _).alloc _).alloc _).alloc _), (hb.block _ (by omega)).trans (((b1.alloc _).alloc _).alloc _), (hb.block _ (by omega)).trans ((b2.alloc _).alloc _), (hb.block _ (by omega)).trans (b3.alloc _), (hb.block _ (by omega)).trans b4⟩

theorem Box.two {w : World} {g : Nat} {c0 c1 : Value} {t : TypeId} (h : Box w g t #[c0, c1]) : w.cell? ⟨g, 0, none⟩ = some c0 ∧ w.cell? ⟨g, 1, none⟩ = some c1 := ⟨h.cell 0, h.cell 1⟩
theorem Box.three {w : World} {g : Nat} {c0 c1 c2 : Value} {t : TypeId} (h : Box w g t #[c0, c1, c2]) : w.cell? ⟨g, 0, none⟩ = some c0 ∧ w.cell? ⟨g, 1, none⟩ = some c1 ∧ w.cell? ⟨g, 2, none⟩ = some c2 := ⟨h.cell 0, h.cell 1, h.cell 2⟩

set_option maxHeartbeats 8000000 in
set_option maxRecDepth 100000 in
theorem out0 (w : World) (an : ByteArray) (aa : Option Addr) (alen acap : Nat) (axs : List Ix) (hca : IxsCame w aa alen acap axs) (bn : ByteArray) (ba : Option Addr) (blen bcap : Nat) (bxs : List Ix) (hcb : IxsCame w ba blen bcap bxs) (x y : Ix) (v : V) (la : Option Addr) (lc : Nat) (fa : Option Addr) (fc : Nat) (hv : v.Is w (.slice la v.list.length lc) (.slice fa v.fields.length fc)) (nv : v.n64) (id ot : ByteArray)  (f0 : fewCo an axs = false) :
    Calls Try.prog 8 #[.agg #[.string an, .slice aa alen acap], .agg #[.string bn, .slice ba blen bcap], .agg #[.string x.name, .string x.field, .bool x.uniq], .agg #[.string y.name, .string y.field, .bool y.uniq], .agg #[.int .i64 v.kind, .bool v.yes, .int .i64 v.num, .string v.text, .slice la v.list.length lc, .slice fa v.fields.length fc], .string id, .string ot] w fun e w' => e = .returned (.bool true) ∧ Below w.heap.size w w' := by
  have HH := Lib.hid head13_any
  have HFA : Hid (∀ W, Below w.heap.size w W → Calls Try.prog 30 #[.agg #[.string an, .slice aa alen acap]] W fun e w' => e = .returned (.bool (fewCo an axs)) ∧ Below W.heap.size W w') := Lib.hid fun W hb => cfew_any (hca.2.2.2.1.below hb) hca.1 (by have := hca.2.1; have := hca.2.2.1; omega) an
  have HFB : Hid (∀ W, Below w.heap.size w W → Calls Try.prog 30 #[.agg #[.string bn, .slice ba blen bcap]] W fun e w' => e = .returned (.bool (fewCo bn bxs)) ∧ Below W.heap.size W w') := Lib.hid fun W hb => cfew_any (hcb.2.2.2.1.below hb) hcb.1 (by have := hcb.2.1; have := hcb.2.2.1; omega) bn
  have HFV : Hid (∀ W, Below w.heap.size w W → Calls Try.prog 10 #[.agg #[.int .i64 v.kind, .bool v.yes, .int .i64 v.num, .string v.text, .slice la v.list.length lc, .slice fa v.fields.length fc], .int .i64 0] W fun e w' => e = .returned (.bool (v.few 0)) ∧ Below W.heap.size W w') := Lib.hid fun W hb => few_any v _ _ W (hv.below hb)
  have HX := Lib.hid (five w #[.string an, .slice aa alen acap] #[.string bn, .slice ba blen bcap] #[.string x.name, .string x.field, .bool x.uniq] #[.string y.name, .string y.field, .bool y.uniq] #[.int .i64 v.kind, .bool v.yes, .int .i64 v.num, .string v.text, .slice la v.list.length lc, .slice fa v.fields.length fc] 51 51 56 56 26)
  obtain ⟨W0, hW0⟩ : ∃ W0, W0 = ((((w.alloc (.cells #[.string an, .slice aa alen acap] 51)).alloc (.cells #[.string bn, .slice ba blen bcap] 51)).alloc (.cells #[.string x.name, .string x.field, .bool x.uniq] 56)).alloc (.cells #[.string y.name, .string y.field, .bool y.uniq] 56)).alloc (.cells #[.int .i64 v.kind, .bool v.yes, .int .i64 v.num, .string v.text, .slice la v.list.length lc, .slice fa v.fields.length fc] 26) := ⟨_, rfl⟩
  rw [← hW0] at HX
  clear hca hcb hv nv
  rw [f0] at HFA
  clear f0
  go_enter Try.func8, Try.ntmps8
  go_wp2_with fail
  rw [← hW0]
  clear hW0
  refine (HH.out _).mono ?_
  rintro e w1 ⟨rfl, hb1⟩
  have HB1 := Lib.hid hb1
  clear hb1 HH
  obtain ⟨hbw, hzw, b0, b1, b2, b3, b4⟩ := HX.out w1 HB1.out
  have HBW1 := Lib.hid hbw
  have HZ1 := Lib.hid hzw
  obtain ⟨p0, p1⟩ := Box.two b0
  obtain ⟨q0, q1⟩ := Box.two b1
  obtain ⟨r0, r1, r2⟩ := Box.three b2
  obtain ⟨s0, s1, s2⟩ := Box.three b3
  obtain ⟨⟨t0, t1, t2, t3, t4, t5⟩, _⟩ := b4.six
  clear hbw hzw b0 b1 b2 b3 b4
  go_wp2_with fail
  refine (HFA.out w1 HBW1.out).mono ?_
  rintro e w2 ⟨rfl, hb⟩
  have HB2 := Lib.hid (HB1.out.trans (hb.mono HB1.out.size))
  clear hb HFA
  clear p0 p1 q0 q1 r0 r1 r2 s0 s1 s2 t0 t1 t2 t3 t4 t5
  obtain ⟨hbw, hzw, b0, b1, b2, b3, b4⟩ := HX.out w2 HB2.out
  have HBW2 := Lib.hid hbw
  have HZ2 := Lib.hid hzw
  obtain ⟨p0, p1⟩ := Box.two b0
  obtain ⟨q0, q1⟩ := Box.two b1
  obtain ⟨r0, r1, r2⟩ := Box.three b2
  obtain ⟨s0, s1, s2⟩ := Box.three b3
  obtain ⟨⟨t0, t1, t2, t3, t4, t5⟩, _⟩ := b4.six
  clear hbw hzw b0 b1 b2 b3 b4
  go_wp2
  go_ret
  exact ⟨rfl, HBW2.out⟩

set_option maxHeartbeats 8000000 in
set_option maxRecDepth 100000 in
theorem out1 (w : World) (an : ByteArray) (aa : Option Addr) (alen acap : Nat) (axs : List Ix) (hca : IxsCame w aa alen acap axs) (bn : ByteArray) (ba : Option Addr) (blen bcap : Nat) (bxs : List Ix) (hcb : IxsCame w ba blen bcap bxs) (x y : Ix) (v : V) (la : Option Addr) (lc : Nat) (fa : Option Addr) (fc : Nat) (hv : v.Is w (.slice la v.list.length lc) (.slice fa v.fields.length fc)) (nv : v.n64) (id ot : ByteArray) (f0 : fewCo an axs = true) (f1 : fewCo bn bxs = false) :
    Calls Try.prog 8 #[.agg #[.string an, .slice aa alen acap], .agg #[.string bn, .slice ba blen bcap], .agg #[.string x.name, .string x.field, .bool x.uniq], .agg #[.string y.name, .string y.field, .bool y.uniq], .agg #[.int .i64 v.kind, .bool v.yes, .int .i64 v.num, .string v.text, .slice la v.list.length lc, .slice fa v.fields.length fc], .string id, .string ot] w fun e w' => e = .returned (.bool true) ∧ Below w.heap.size w w' := by
  have HH := Lib.hid head13_any
  have HFA : Hid (∀ W, Below w.heap.size w W → Calls Try.prog 30 #[.agg #[.string an, .slice aa alen acap]] W fun e w' => e = .returned (.bool (fewCo an axs)) ∧ Below W.heap.size W w') := Lib.hid fun W hb => cfew_any (hca.2.2.2.1.below hb) hca.1 (by have := hca.2.1; have := hca.2.2.1; omega) an
  have HFB : Hid (∀ W, Below w.heap.size w W → Calls Try.prog 30 #[.agg #[.string bn, .slice ba blen bcap]] W fun e w' => e = .returned (.bool (fewCo bn bxs)) ∧ Below W.heap.size W w') := Lib.hid fun W hb => cfew_any (hcb.2.2.2.1.below hb) hcb.1 (by have := hcb.2.1; have := hcb.2.2.1; omega) bn
  have HFV : Hid (∀ W, Below w.heap.size w W → Calls Try.prog 10 #[.agg #[.int .i64 v.kind, .bool v.yes, .int .i64 v.num, .string v.text, .slice la v.list.length lc, .slice fa v.fields.length fc], .int .i64 0] W fun e w' => e = .returned (.bool (v.few 0)) ∧ Below W.heap.size W w') := Lib.hid fun W hb => few_any v _ _ W (hv.below hb)
  have HX := Lib.hid (five w #[.string an, .slice aa alen acap] #[.string bn, .slice ba blen bcap] #[.string x.name, .string x.field, .bool x.uniq] #[.string y.name, .string y.field, .bool y.uniq] #[.int .i64 v.kind, .bool v.yes, .int .i64 v.num, .string v.text, .slice la v.list.length lc, .slice fa v.fields.length fc] 51 51 56 56 26)
  obtain ⟨W0, hW0⟩ : ∃ W0, W0 = ((((w.alloc (.cells #[.string an, .slice aa alen acap] 51)).alloc (.cells #[.string bn, .slice ba blen bcap] 51)).alloc (.cells #[.string x.name, .string x.field, .bool x.uniq] 56)).alloc (.cells #[.string y.name, .string y.field, .bool y.uniq] 56)).alloc (.cells #[.int .i64 v.kind, .bool v.yes, .int .i64 v.num, .string v.text, .slice la v.list.length lc, .slice fa v.fields.length fc] 26) := ⟨_, rfl⟩
  rw [← hW0] at HX
  clear hca hcb hv nv
  rw [f0] at HFA
  rw [f1] at HFB
  clear f0 f1
  go_enter Try.func8, Try.ntmps8
  go_wp2_with fail
  rw [← hW0]
  clear hW0
  refine (HH.out _).mono ?_
  rintro e w1 ⟨rfl, hb1⟩
  have HB1 := Lib.hid hb1
  clear hb1 HH
  obtain ⟨hbw, hzw, b0, b1, b2, b3, b4⟩ := HX.out w1 HB1.out
  have HBW1 := Lib.hid hbw
  have HZ1 := Lib.hid hzw
  obtain ⟨p0, p1⟩ := Box.two b0
  obtain ⟨q0, q1⟩ := Box.two b1
  obtain ⟨r0, r1, r2⟩ := Box.three b2
  obtain ⟨s0, s1, s2⟩ := Box.three b3
  obtain ⟨⟨t0, t1, t2, t3, t4, t5⟩, _⟩ := b4.six
  clear hbw hzw b0 b1 b2 b3 b4
  go_wp2_with fail
  refine (HFA.out w1 HBW1.out).mono ?_
  rintro e w2 ⟨rfl, hb⟩
  have HB2 := Lib.hid (HB1.out.trans (hb.mono HB1.out.size))
  clear hb HFA
  clear p0 p1 q0 q1 r0 r1 r2 s0 s1 s2 t0 t1 t2 t3 t4 t5
  obtain ⟨hbw, hzw, b0, b1, b2, b3, b4⟩ := HX.out w2 HB2.out
  have HBW2 := Lib.hid hbw
  have HZ2 := Lib.hid hzw
  obtain ⟨p0, p1⟩ := Box.two b0
  obtain ⟨q0, q1⟩ := Box.two b1
  obtain ⟨r0, r1, r2⟩ := Box.three b2
  obtain ⟨s0, s1, s2⟩ := Box.three b3
  obtain ⟨⟨t0, t1, t2, t3, t4, t5⟩, _⟩ := b4.six
  clear hbw hzw b0 b1 b2 b3 b4
  go_wp2_with fail
  refine (HFB.out w2 HBW2.out).mono ?_
  rintro e w3 ⟨rfl, hb⟩
  have HB3 := Lib.hid (HB2.out.trans (hb.mono HB2.out.size))
  clear hb HFB
  clear p0 p1 q0 q1 r0 r1 r2 s0 s1 s2 t0 t1 t2 t3 t4 t5
  obtain ⟨hbw, hzw, b0, b1, b2, b3, b4⟩ := HX.out w3 HB3.out
  have HBW3 := Lib.hid hbw
  have HZ3 := Lib.hid hzw
  obtain ⟨p0, p1⟩ := Box.two b0
  obtain ⟨q0, q1⟩ := Box.two b1
  obtain ⟨r0, r1, r2⟩ := Box.three b2
  obtain ⟨s0, s1, s2⟩ := Box.three b3
  obtain ⟨⟨t0, t1, t2, t3, t4, t5⟩, _⟩ := b4.six
  clear hbw hzw b0 b1 b2 b3 b4
  go_wp2
  go_ret
  exact ⟨rfl, HBW3.out⟩

set_option maxHeartbeats 8000000 in
set_option maxRecDepth 100000 in
theorem out2 (w : World) (an : ByteArray) (aa : Option Addr) (alen acap : Nat) (axs : List Ix) (hca : IxsCame w aa alen acap axs) (bn : ByteArray) (ba : Option Addr) (blen bcap : Nat) (bxs : List Ix) (hcb : IxsCame w ba blen bcap bxs) (x y : Ix) (v : V) (la : Option Addr) (lc : Nat) (fa : Option Addr) (fc : Nat) (hv : v.Is w (.slice la v.list.length lc) (.slice fa v.fields.length fc)) (nv : v.n64) (id ot : ByteArray) (f0 : fewCo an axs = true) (f1 : fewCo bn bxs = true) (f2 : (60 : Int) < (x.name.size : Int)) :
    Calls Try.prog 8 #[.agg #[.string an, .slice aa alen acap], .agg #[.string bn, .slice ba blen bcap], .agg #[.string x.name, .string x.field, .bool x.uniq], .agg #[.string y.name, .string y.field, .bool y.uniq], .agg #[.int .i64 v.kind, .bool v.yes, .int .i64 v.num, .string v.text, .slice la v.list.length lc, .slice fa v.fields.length fc], .string id, .string ot] w fun e w' => e = .returned (.bool true) ∧ Below w.heap.size w w' := by
  have HH := Lib.hid head13_any
  have HFA : Hid (∀ W, Below w.heap.size w W → Calls Try.prog 30 #[.agg #[.string an, .slice aa alen acap]] W fun e w' => e = .returned (.bool (fewCo an axs)) ∧ Below W.heap.size W w') := Lib.hid fun W hb => cfew_any (hca.2.2.2.1.below hb) hca.1 (by have := hca.2.1; have := hca.2.2.1; omega) an
  have HFB : Hid (∀ W, Below w.heap.size w W → Calls Try.prog 30 #[.agg #[.string bn, .slice ba blen bcap]] W fun e w' => e = .returned (.bool (fewCo bn bxs)) ∧ Below W.heap.size W w') := Lib.hid fun W hb => cfew_any (hcb.2.2.2.1.below hb) hcb.1 (by have := hcb.2.1; have := hcb.2.2.1; omega) bn
  have HFV : Hid (∀ W, Below w.heap.size w W → Calls Try.prog 10 #[.agg #[.int .i64 v.kind, .bool v.yes, .int .i64 v.num, .string v.text, .slice la v.list.length lc, .slice fa v.fields.length fc], .int .i64 0] W fun e w' => e = .returned (.bool (v.few 0)) ∧ Below W.heap.size W w') := Lib.hid fun W hb => few_any v _ _ W (hv.below hb)
  have HX := Lib.hid (five w #[.string an, .slice aa alen acap] #[.string bn, .slice ba blen bcap] #[.string x.name, .string x.field, .bool x.uniq] #[.string y.name, .string y.field, .bool y.uniq] #[.int .i64 v.kind, .bool v.yes, .int .i64 v.num, .string v.text, .slice la v.list.length lc, .slice fa v.fields.length fc] 51 51 56 56 26)
  obtain ⟨W0, hW0⟩ : ∃ W0, W0 = ((((w.alloc (.cells #[.string an, .slice aa alen acap] 51)).alloc (.cells #[.string bn, .slice ba blen bcap] 51)).alloc (.cells #[.string x.name, .string x.field, .bool x.uniq] 56)).alloc (.cells #[.string y.name, .string y.field, .bool y.uniq] 56)).alloc (.cells #[.int .i64 v.kind, .bool v.yes, .int .i64 v.num, .string v.text, .slice la v.list.length lc, .slice fa v.fields.length fc] 26) := ⟨_, rfl⟩
  rw [← hW0] at HX
  clear hca hcb hv nv
  rw [f0] at HFA
  rw [f1] at HFB
  clear f0 f1
  go_enter Try.func8, Try.ntmps8
  go_wp2_with fail
  rw [← hW0]
  clear hW0
  refine (HH.out _).mono ?_
  rintro e w1 ⟨rfl, hb1⟩
  have HB1 := Lib.hid hb1
  clear hb1 HH
  obtain ⟨hbw, hzw, b0, b1, b2, b3, b4⟩ := HX.out w1 HB1.out
  have HBW1 := Lib.hid hbw
  have HZ1 := Lib.hid hzw
  obtain ⟨p0, p1⟩ := Box.two b0
  obtain ⟨q0, q1⟩ := Box.two b1
  obtain ⟨r0, r1, r2⟩ := Box.three b2
  obtain ⟨s0, s1, s2⟩ := Box.three b3
  obtain ⟨⟨t0, t1, t2, t3, t4, t5⟩, _⟩ := b4.six
  clear hbw hzw b0 b1 b2 b3 b4
  go_wp2_with fail
  refine (HFA.out w1 HBW1.out).mono ?_
  rintro e w2 ⟨rfl, hb⟩
  have HB2 := Lib.hid (HB1.out.trans (hb.mono HB1.out.size))
  clear hb HFA
  clear p0 p1 q0 q1 r0 r1 r2 s0 s1 s2 t0 t1 t2 t3 t4 t5
  obtain ⟨hbw, hzw, b0, b1, b2, b3, b4⟩ := HX.out w2 HB2.out
  have HBW2 := Lib.hid hbw
  have HZ2 := Lib.hid hzw
  obtain ⟨p0, p1⟩ := Box.two b0
  obtain ⟨q0, q1⟩ := Box.two b1
  obtain ⟨r0, r1, r2⟩ := Box.three b2
  obtain ⟨s0, s1, s2⟩ := Box.three b3
  obtain ⟨⟨t0, t1, t2, t3, t4, t5⟩, _⟩ := b4.six
  clear hbw hzw b0 b1 b2 b3 b4
  go_wp2_with fail
  refine (HFB.out w2 HBW2.out).mono ?_
  rintro e w3 ⟨rfl, hb⟩
  have HB3 := Lib.hid (HB2.out.trans (hb.mono HB2.out.size))
  clear hb HFB
  clear p0 p1 q0 q1 r0 r1 r2 s0 s1 s2 t0 t1 t2 t3 t4 t5
  obtain ⟨hbw, hzw, b0, b1, b2, b3, b4⟩ := HX.out w3 HB3.out
  have HBW3 := Lib.hid hbw
  have HZ3 := Lib.hid hzw
  obtain ⟨p0, p1⟩ := Box.two b0
  obtain ⟨q0, q1⟩ := Box.two b1
  obtain ⟨r0, r1, r2⟩ := Box.three b2
  obtain ⟨s0, s1, s2⟩ := Box.three b3
  obtain ⟨⟨t0, t1, t2, t3, t4, t5⟩, _⟩ := b4.six
  clear hbw hzw b0 b1 b2 b3 b4
  go_wp2
  go_ret
  exact ⟨rfl, HBW3.out⟩

set_option maxHeartbeats 8000000 in
set_option maxRecDepth 100000 in
theorem out3 (w : World) (an : ByteArray) (aa : Option Addr) (alen acap : Nat) (axs : List Ix) (hca : IxsCame w aa alen acap axs) (bn : ByteArray) (ba : Option Addr) (blen bcap : Nat) (bxs : List Ix) (hcb : IxsCame w ba blen bcap bxs) (x y : Ix) (v : V) (la : Option Addr) (lc : Nat) (fa : Option Addr) (fc : Nat) (hv : v.Is w (.slice la v.list.length lc) (.slice fa v.fields.length fc)) (nv : v.n64) (id ot : ByteArray) (f0 : fewCo an axs = true) (f1 : fewCo bn bxs = true) (f2 : ¬ (60 : Int) < (x.name.size : Int)) (f3 : (60 : Int) < (y.name.size : Int)) :
    Calls Try.prog 8 #[.agg #[.string an, .slice aa alen acap], .agg #[.string bn, .slice ba blen bcap], .agg #[.string x.name, .string x.field, .bool x.uniq], .agg #[.string y.name, .string y.field, .bool y.uniq], .agg #[.int .i64 v.kind, .bool v.yes, .int .i64 v.num, .string v.text, .slice la v.list.length lc, .slice fa v.fields.length fc], .string id, .string ot] w fun e w' => e = .returned (.bool true) ∧ Below w.heap.size w w' := by
  have HH := Lib.hid head13_any
  have HFA : Hid (∀ W, Below w.heap.size w W → Calls Try.prog 30 #[.agg #[.string an, .slice aa alen acap]] W fun e w' => e = .returned (.bool (fewCo an axs)) ∧ Below W.heap.size W w') := Lib.hid fun W hb => cfew_any (hca.2.2.2.1.below hb) hca.1 (by have := hca.2.1; have := hca.2.2.1; omega) an
  have HFB : Hid (∀ W, Below w.heap.size w W → Calls Try.prog 30 #[.agg #[.string bn, .slice ba blen bcap]] W fun e w' => e = .returned (.bool (fewCo bn bxs)) ∧ Below W.heap.size W w') := Lib.hid fun W hb => cfew_any (hcb.2.2.2.1.below hb) hcb.1 (by have := hcb.2.1; have := hcb.2.2.1; omega) bn
  have HFV : Hid (∀ W, Below w.heap.size w W → Calls Try.prog 10 #[.agg #[.int .i64 v.kind, .bool v.yes, .int .i64 v.num, .string v.text, .slice la v.list.length lc, .slice fa v.fields.length fc], .int .i64 0] W fun e w' => e = .returned (.bool (v.few 0)) ∧ Below W.heap.size W w') := Lib.hid fun W hb => few_any v _ _ W (hv.below hb)
  have HX := Lib.hid (five w #[.string an, .slice aa alen acap] #[.string bn, .slice ba blen bcap] #[.string x.name, .string x.field, .bool x.uniq] #[.string y.name, .string y.field, .bool y.uniq] #[.int .i64 v.kind, .bool v.yes, .int .i64 v.num, .string v.text, .slice la v.list.length lc, .slice fa v.fields.length fc] 51 51 56 56 26)
  obtain ⟨W0, hW0⟩ : ∃ W0, W0 = ((((w.alloc (.cells #[.string an, .slice aa alen acap] 51)).alloc (.cells #[.string bn, .slice ba blen bcap] 51)).alloc (.cells #[.string x.name, .string x.field, .bool x.uniq] 56)).alloc (.cells #[.string y.name, .string y.field, .bool y.uniq] 56)).alloc (.cells #[.int .i64 v.kind, .bool v.yes, .int .i64 v.num, .string v.text, .slice la v.list.length lc, .slice fa v.fields.length fc] 26) := ⟨_, rfl⟩
  rw [← hW0] at HX
  clear hca hcb hv nv
  rw [f0] at HFA
  rw [f1] at HFB
  clear f0 f1
  go_enter Try.func8, Try.ntmps8
  go_wp2_with fail
  rw [← hW0]
  clear hW0
  refine (HH.out _).mono ?_
  rintro e w1 ⟨rfl, hb1⟩
  have HB1 := Lib.hid hb1
  clear hb1 HH
  obtain ⟨hbw, hzw, b0, b1, b2, b3, b4⟩ := HX.out w1 HB1.out
  have HBW1 := Lib.hid hbw
  have HZ1 := Lib.hid hzw
  obtain ⟨p0, p1⟩ := Box.two b0
  obtain ⟨q0, q1⟩ := Box.two b1
  obtain ⟨r0, r1, r2⟩ := Box.three b2
  obtain ⟨s0, s1, s2⟩ := Box.three b3
  obtain ⟨⟨t0, t1, t2, t3, t4, t5⟩, _⟩ := b4.six
  clear hbw hzw b0 b1 b2 b3 b4
  go_wp2_with fail
  refine (HFA.out w1 HBW1.out).mono ?_
  rintro e w2 ⟨rfl, hb⟩
  have HB2 := Lib.hid (HB1.out.trans (hb.mono HB1.out.size))
  clear hb HFA
  clear p0 p1 q0 q1 r0 r1 r2 s0 s1 s2 t0 t1 t2 t3 t4 t5
  obtain ⟨hbw, hzw, b0, b1, b2, b3, b4⟩ := HX.out w2 HB2.out
  have HBW2 := Lib.hid hbw
  have HZ2 := Lib.hid hzw
  obtain ⟨p0, p1⟩ := Box.two b0
  obtain ⟨q0, q1⟩ := Box.two b1
  obtain ⟨r0, r1, r2⟩ := Box.three b2
  obtain ⟨s0, s1, s2⟩ := Box.three b3
  obtain ⟨⟨t0, t1, t2, t3, t4, t5⟩, _⟩ := b4.six
  clear hbw hzw b0 b1 b2 b3 b4
  go_wp2_with fail
  refine (HFB.out w2 HBW2.out).mono ?_
  rintro e w3 ⟨rfl, hb⟩
  have HB3 := Lib.hid (HB2.out.trans (hb.mono HB2.out.size))
  clear hb HFB
  clear p0 p1 q0 q1 r0 r1 r2 s0 s1 s2 t0 t1 t2 t3 t4 t5
  obtain ⟨hbw, hzw, b0, b1, b2, b3, b4⟩ := HX.out w3 HB3.out
  have HBW3 := Lib.hid hbw
  have HZ3 := Lib.hid hzw
  obtain ⟨p0, p1⟩ := Box.two b0
  obtain ⟨q0, q1⟩ := Box.two b1
  obtain ⟨r0, r1, r2⟩ := Box.three b2
  obtain ⟨s0, s1, s2⟩ := Box.three b3
  obtain ⟨⟨t0, t1, t2, t3, t4, t5⟩, _⟩ := b4.six
  clear hbw hzw b0 b1 b2 b3 b4
  go_wp2
  go_ret
  exact ⟨rfl, HBW3.out⟩

set_option maxHeartbeats 8000000 in
set_option maxRecDepth 100000 in
theorem out4 (w : World) (an : ByteArray) (aa : Option Addr) (alen acap : Nat) (axs : List Ix) (hca : IxsCame w aa alen acap axs) (bn : ByteArray) (ba : Option Addr) (blen bcap : Nat) (bxs : List Ix) (hcb : IxsCame w ba blen bcap bxs) (x y : Ix) (v : V) (la : Option Addr) (lc : Nat) (fa : Option Addr) (fc : Nat) (hv : v.Is w (.slice la v.list.length lc) (.slice fa v.fields.length fc)) (nv : v.n64) (id ot : ByteArray) (f0 : fewCo an axs = true) (f1 : fewCo bn bxs = true) (f2 : ¬ (60 : Int) < (x.name.size : Int)) (f3 : ¬ (60 : Int) < (y.name.size : Int)) (f4 : v.few 0 = false) :
    Calls Try.prog 8 #[.agg #[.string an, .slice aa alen acap], .agg #[.string bn, .slice ba blen bcap], .agg #[.string x.name, .string x.field, .bool x.uniq], .agg #[.string y.name, .string y.field, .bool y.uniq], .agg #[.int .i64 v.kind, .bool v.yes, .int .i64 v.num, .string v.text, .slice la v.list.length lc, .slice fa v.fields.length fc], .string id, .string ot] w fun e w' => e = .returned (.bool true) ∧ Below w.heap.size w w' := by
  have HH := Lib.hid head13_any
  have HFA : Hid (∀ W, Below w.heap.size w W → Calls Try.prog 30 #[.agg #[.string an, .slice aa alen acap]] W fun e w' => e = .returned (.bool (fewCo an axs)) ∧ Below W.heap.size W w') := Lib.hid fun W hb => cfew_any (hca.2.2.2.1.below hb) hca.1 (by have := hca.2.1; have := hca.2.2.1; omega) an
  have HFB : Hid (∀ W, Below w.heap.size w W → Calls Try.prog 30 #[.agg #[.string bn, .slice ba blen bcap]] W fun e w' => e = .returned (.bool (fewCo bn bxs)) ∧ Below W.heap.size W w') := Lib.hid fun W hb => cfew_any (hcb.2.2.2.1.below hb) hcb.1 (by have := hcb.2.1; have := hcb.2.2.1; omega) bn
  have HFV : Hid (∀ W, Below w.heap.size w W → Calls Try.prog 10 #[.agg #[.int .i64 v.kind, .bool v.yes, .int .i64 v.num, .string v.text, .slice la v.list.length lc, .slice fa v.fields.length fc], .int .i64 0] W fun e w' => e = .returned (.bool (v.few 0)) ∧ Below W.heap.size W w') := Lib.hid fun W hb => few_any v _ _ W (hv.below hb)
  have HX := Lib.hid (five w #[.string an, .slice aa alen acap] #[.string bn, .slice ba blen bcap] #[.string x.name, .string x.field, .bool x.uniq] #[.string y.name, .string y.field, .bool y.uniq] #[.int .i64 v.kind, .bool v.yes, .int .i64 v.num, .string v.text, .slice la v.list.length lc, .slice fa v.fields.length fc] 51 51 56 56 26)
  obtain ⟨W0, hW0⟩ : ∃ W0, W0 = ((((w.alloc (.cells #[.string an, .slice aa alen acap] 51)).alloc (.cells #[.string bn, .slice ba blen bcap] 51)).alloc (.cells #[.string x.name, .string x.field, .bool x.uniq] 56)).alloc (.cells #[.string y.name, .string y.field, .bool y.uniq] 56)).alloc (.cells #[.int .i64 v.kind, .bool v.yes, .int .i64 v.num, .string v.text, .slice la v.list.length lc, .slice fa v.fields.length fc] 26) := ⟨_, rfl⟩
  rw [← hW0] at HX
  clear hca hcb hv nv
  rw [f0] at HFA
  rw [f1] at HFB
  rw [f4] at HFV
  clear f0 f1 f4
  go_enter Try.func8, Try.ntmps8
  go_wp2_with fail
  rw [← hW0]
  clear hW0
  refine (HH.out _).mono ?_
  rintro e w1 ⟨rfl, hb1⟩
  have HB1 := Lib.hid hb1
  clear hb1 HH
  obtain ⟨hbw, hzw, b0, b1, b2, b3, b4⟩ := HX.out w1 HB1.out
  have HBW1 := Lib.hid hbw
  have HZ1 := Lib.hid hzw
  obtain ⟨p0, p1⟩ := Box.two b0
  obtain ⟨q0, q1⟩ := Box.two b1
  obtain ⟨r0, r1, r2⟩ := Box.three b2
  obtain ⟨s0, s1, s2⟩ := Box.three b3
  obtain ⟨⟨t0, t1, t2, t3, t4, t5⟩, _⟩ := b4.six
  clear hbw hzw b0 b1 b2 b3 b4
  go_wp2_with fail
  refine (HFA.out w1 HBW1.out).mono ?_
  rintro e w2 ⟨rfl, hb⟩
  have HB2 := Lib.hid (HB1.out.trans (hb.mono HB1.out.size))
  clear hb HFA
  clear p0 p1 q0 q1 r0 r1 r2 s0 s1 s2 t0 t1 t2 t3 t4 t5
  obtain ⟨hbw, hzw, b0, b1, b2, b3, b4⟩ := HX.out w2 HB2.out
  have HBW2 := Lib.hid hbw
  have HZ2 := Lib.hid hzw
  obtain ⟨p0, p1⟩ := Box.two b0
  obtain ⟨q0, q1⟩ := Box.two b1
  obtain ⟨r0, r1, r2⟩ := Box.three b2
  obtain ⟨s0, s1, s2⟩ := Box.three b3
  obtain ⟨⟨t0, t1, t2, t3, t4, t5⟩, _⟩ := b4.six
  clear hbw hzw b0 b1 b2 b3 b4
  go_wp2_with fail
  refine (HFB.out w2 HBW2.out).mono ?_
  rintro e w3 ⟨rfl, hb⟩
  have HB3 := Lib.hid (HB2.out.trans (hb.mono HB2.out.size))
  clear hb HFB
  clear p0 p1 q0 q1 r0 r1 r2 s0 s1 s2 t0 t1 t2 t3 t4 t5
  obtain ⟨hbw, hzw, b0, b1, b2, b3, b4⟩ := HX.out w3 HB3.out
  have HBW3 := Lib.hid hbw
  have HZ3 := Lib.hid hzw
  obtain ⟨p0, p1⟩ := Box.two b0
  obtain ⟨q0, q1⟩ := Box.two b1
  obtain ⟨r0, r1, r2⟩ := Box.three b2
  obtain ⟨s0, s1, s2⟩ := Box.three b3
  obtain ⟨⟨t0, t1, t2, t3, t4, t5⟩, _⟩ := b4.six
  clear hbw hzw b0 b1 b2 b3 b4
  go_wp2_with fail
  refine (HFV.out w3 HBW3.out).mono ?_
  rintro e w4 ⟨rfl, hb⟩
  have HB4 := Lib.hid (HB3.out.trans (hb.mono HB3.out.size))
  clear hb HFV
  clear p0 p1 q0 q1 r0 r1 r2 s0 s1 s2 t0 t1 t2 t3 t4 t5
  obtain ⟨hbw, hzw, b0, b1, b2, b3, b4⟩ := HX.out w4 HB4.out
  have HBW4 := Lib.hid hbw
  have HZ4 := Lib.hid hzw
  obtain ⟨p0, p1⟩ := Box.two b0
  obtain ⟨q0, q1⟩ := Box.two b1
  obtain ⟨r0, r1, r2⟩ := Box.three b2
  obtain ⟨s0, s1, s2⟩ := Box.three b3
  obtain ⟨⟨t0, t1, t2, t3, t4, t5⟩, _⟩ := b4.six
  clear hbw hzw b0 b1 b2 b3 b4
  go_wp2
  go_ret
  exact ⟨rfl, HBW4.out⟩

set_option maxHeartbeats 8000000 in
set_option maxRecDepth 100000 in
theorem out5 (w : World) (an : ByteArray) (aa : Option Addr) (alen acap : Nat) (axs : List Ix) (hca : IxsCame w aa alen acap axs) (bn : ByteArray) (ba : Option Addr) (blen bcap : Nat) (bxs : List Ix) (hcb : IxsCame w ba blen bcap bxs) (x y : Ix) (v : V) (la : Option Addr) (lc : Nat) (fa : Option Addr) (fc : Nat) (hv : v.Is w (.slice la v.list.length lc) (.slice fa v.fields.length fc)) (nv : v.n64) (id ot : ByteArray) (f0 : fewCo an axs = true) (f1 : fewCo bn bxs = true) (f2 : ¬ (60 : Int) < (x.name.size : Int)) (f3 : ¬ (60 : Int) < (y.name.size : Int)) (f4 : v.few 0 = true) (f5 : (60 : Int) < (id.size : Int)) :
    Calls Try.prog 8 #[.agg #[.string an, .slice aa alen acap], .agg #[.string bn, .slice ba blen bcap], .agg #[.string x.name, .string x.field, .bool x.uniq], .agg #[.string y.name, .string y.field, .bool y.uniq], .agg #[.int .i64 v.kind, .bool v.yes, .int .i64 v.num, .string v.text, .slice la v.list.length lc, .slice fa v.fields.length fc], .string id, .string ot] w fun e w' => e = .returned (.bool true) ∧ Below w.heap.size w w' := by
  have HH := Lib.hid head13_any
  have HFA : Hid (∀ W, Below w.heap.size w W → Calls Try.prog 30 #[.agg #[.string an, .slice aa alen acap]] W fun e w' => e = .returned (.bool (fewCo an axs)) ∧ Below W.heap.size W w') := Lib.hid fun W hb => cfew_any (hca.2.2.2.1.below hb) hca.1 (by have := hca.2.1; have := hca.2.2.1; omega) an
  have HFB : Hid (∀ W, Below w.heap.size w W → Calls Try.prog 30 #[.agg #[.string bn, .slice ba blen bcap]] W fun e w' => e = .returned (.bool (fewCo bn bxs)) ∧ Below W.heap.size W w') := Lib.hid fun W hb => cfew_any (hcb.2.2.2.1.below hb) hcb.1 (by have := hcb.2.1; have := hcb.2.2.1; omega) bn
  have HFV : Hid (∀ W, Below w.heap.size w W → Calls Try.prog 10 #[.agg #[.int .i64 v.kind, .bool v.yes, .int .i64 v.num, .string v.text, .slice la v.list.length lc, .slice fa v.fields.length fc], .int .i64 0] W fun e w' => e = .returned (.bool (v.few 0)) ∧ Below W.heap.size W w') := Lib.hid fun W hb => few_any v _ _ W (hv.below hb)
  have HX := Lib.hid (five w #[.string an, .slice aa alen acap] #[.string bn, .slice ba blen bcap] #[.string x.name, .string x.field, .bool x.uniq] #[.string y.name, .string y.field, .bool y.uniq] #[.int .i64 v.kind, .bool v.yes, .int .i64 v.num, .string v.text, .slice la v.list.length lc, .slice fa v.fields.length fc] 51 51 56 56 26)
  obtain ⟨W0, hW0⟩ : ∃ W0, W0 = ((((w.alloc (.cells #[.string an, .slice aa alen acap] 51)).alloc (.cells #[.string bn, .slice ba blen bcap] 51)).alloc (.cells #[.string x.name, .string x.field, .bool x.uniq] 56)).alloc (.cells #[.string y.name, .string y.field, .bool y.uniq] 56)).alloc (.cells #[.int .i64 v.kind, .bool v.yes, .int .i64 v.num, .string v.text, .slice la v.list.length lc, .slice fa v.fields.length fc] 26) := ⟨_, rfl⟩
  rw [← hW0] at HX
  clear hca hcb hv nv
  rw [f0] at HFA
  rw [f1] at HFB
  rw [f4] at HFV
  clear f0 f1 f4
  go_enter Try.func8, Try.ntmps8
  go_wp2_with fail
  rw [← hW0]
  clear hW0
  refine (HH.out _).mono ?_
  rintro e w1 ⟨rfl, hb1⟩
  have HB1 := Lib.hid hb1
  clear hb1 HH
  obtain ⟨hbw, hzw, b0, b1, b2, b3, b4⟩ := HX.out w1 HB1.out
  have HBW1 := Lib.hid hbw
  have HZ1 := Lib.hid hzw
  obtain ⟨p0, p1⟩ := Box.two b0
  obtain ⟨q0, q1⟩ := Box.two b1
  obtain ⟨r0, r1, r2⟩ := Box.three b2
  obtain ⟨s0, s1, s2⟩ := Box.three b3
  obtain ⟨⟨t0, t1, t2, t3, t4, t5⟩, _⟩ := b4.six
  clear hbw hzw b0 b1 b2 b3 b4
  go_wp2_with fail
  refine (HFA.out w1 HBW1.out).mono ?_
  rintro e w2 ⟨rfl, hb⟩
  have HB2 := Lib.hid (HB1.out.trans (hb.mono HB1.out.size))
  clear hb HFA
  clear p0 p1 q0 q1 r0 r1 r2 s0 s1 s2 t0 t1 t2 t3 t4 t5
  obtain ⟨hbw, hzw, b0, b1, b2, b3, b4⟩ := HX.out w2 HB2.out
  have HBW2 := Lib.hid hbw
  have HZ2 := Lib.hid hzw
  obtain ⟨p0, p1⟩ := Box.two b0
  obtain ⟨q0, q1⟩ := Box.two b1
  obtain ⟨r0, r1, r2⟩ := Box.three b2
  obtain ⟨s0, s1, s2⟩ := Box.three b3
  obtain ⟨⟨t0, t1, t2, t3, t4, t5⟩, _⟩ := b4.six
  clear hbw hzw b0 b1 b2 b3 b4
  go_wp2_with fail
  refine (HFB.out w2 HBW2.out).mono ?_
  rintro e w3 ⟨rfl, hb⟩
  have HB3 := Lib.hid (HB2.out.trans (hb.mono HB2.out.size))
  clear hb HFB
  clear p0 p1 q0 q1 r0 r1 r2 s0 s1 s2 t0 t1 t2 t3 t4 t5
  obtain ⟨hbw, hzw, b0, b1, b2, b3, b4⟩ := HX.out w3 HB3.out
  have HBW3 := Lib.hid hbw
  have HZ3 := Lib.hid hzw
  obtain ⟨p0, p1⟩ := Box.two b0
  obtain ⟨q0, q1⟩ := Box.two b1
  obtain ⟨r0, r1, r2⟩ := Box.three b2
  obtain ⟨s0, s1, s2⟩ := Box.three b3
  obtain ⟨⟨t0, t1, t2, t3, t4, t5⟩, _⟩ := b4.six
  clear hbw hzw b0 b1 b2 b3 b4
  go_wp2_with fail
  refine (HFV.out w3 HBW3.out).mono ?_
  rintro e w4 ⟨rfl, hb⟩
  have HB4 := Lib.hid (HB3.out.trans (hb.mono HB3.out.size))
  clear hb HFV
  clear p0 p1 q0 q1 r0 r1 r2 s0 s1 s2 t0 t1 t2 t3 t4 t5
  obtain ⟨hbw, hzw, b0, b1, b2, b3, b4⟩ := HX.out w4 HB4.out
  have HBW4 := Lib.hid hbw
  have HZ4 := Lib.hid hzw
  obtain ⟨p0, p1⟩ := Box.two b0
  obtain ⟨q0, q1⟩ := Box.two b1
  obtain ⟨r0, r1, r2⟩ := Box.three b2
  obtain ⟨s0, s1, s2⟩ := Box.three b3
  obtain ⟨⟨t0, t1, t2, t3, t4, t5⟩, _⟩ := b4.six
  clear hbw hzw b0 b1 b2 b3 b4
  go_wp2
  go_ret
  exact ⟨rfl, HBW4.out⟩

set_option maxHeartbeats 8000000 in
set_option maxRecDepth 100000 in
theorem out6 (w : World) (an : ByteArray) (aa : Option Addr) (alen acap : Nat) (axs : List Ix) (hca : IxsCame w aa alen acap axs) (bn : ByteArray) (ba : Option Addr) (blen bcap : Nat) (bxs : List Ix) (hcb : IxsCame w ba blen bcap bxs) (x y : Ix) (v : V) (la : Option Addr) (lc : Nat) (fa : Option Addr) (fc : Nat) (hv : v.Is w (.slice la v.list.length lc) (.slice fa v.fields.length fc)) (nv : v.n64) (id ot : ByteArray) (f0 : fewCo an axs = true) (f1 : fewCo bn bxs = true) (f2 : ¬ (60 : Int) < (x.name.size : Int)) (f3 : ¬ (60 : Int) < (y.name.size : Int)) (f4 : v.few 0 = true) (f5 : ¬ (60 : Int) < (id.size : Int)) (f6 : (60 : Int) < (ot.size : Int)) :
    Calls Try.prog 8 #[.agg #[.string an, .slice aa alen acap], .agg #[.string bn, .slice ba blen bcap], .agg #[.string x.name, .string x.field, .bool x.uniq], .agg #[.string y.name, .string y.field, .bool y.uniq], .agg #[.int .i64 v.kind, .bool v.yes, .int .i64 v.num, .string v.text, .slice la v.list.length lc, .slice fa v.fields.length fc], .string id, .string ot] w fun e w' => e = .returned (.bool true) ∧ Below w.heap.size w w' := by
  have HH := Lib.hid head13_any
  have HFA : Hid (∀ W, Below w.heap.size w W → Calls Try.prog 30 #[.agg #[.string an, .slice aa alen acap]] W fun e w' => e = .returned (.bool (fewCo an axs)) ∧ Below W.heap.size W w') := Lib.hid fun W hb => cfew_any (hca.2.2.2.1.below hb) hca.1 (by have := hca.2.1; have := hca.2.2.1; omega) an
  have HFB : Hid (∀ W, Below w.heap.size w W → Calls Try.prog 30 #[.agg #[.string bn, .slice ba blen bcap]] W fun e w' => e = .returned (.bool (fewCo bn bxs)) ∧ Below W.heap.size W w') := Lib.hid fun W hb => cfew_any (hcb.2.2.2.1.below hb) hcb.1 (by have := hcb.2.1; have := hcb.2.2.1; omega) bn
  have HFV : Hid (∀ W, Below w.heap.size w W → Calls Try.prog 10 #[.agg #[.int .i64 v.kind, .bool v.yes, .int .i64 v.num, .string v.text, .slice la v.list.length lc, .slice fa v.fields.length fc], .int .i64 0] W fun e w' => e = .returned (.bool (v.few 0)) ∧ Below W.heap.size W w') := Lib.hid fun W hb => few_any v _ _ W (hv.below hb)
  have HX := Lib.hid (five w #[.string an, .slice aa alen acap] #[.string bn, .slice ba blen bcap] #[.string x.name, .string x.field, .bool x.uniq] #[.string y.name, .string y.field, .bool y.uniq] #[.int .i64 v.kind, .bool v.yes, .int .i64 v.num, .string v.text, .slice la v.list.length lc, .slice fa v.fields.length fc] 51 51 56 56 26)
  obtain ⟨W0, hW0⟩ : ∃ W0, W0 = ((((w.alloc (.cells #[.string an, .slice aa alen acap] 51)).alloc (.cells #[.string bn, .slice ba blen bcap] 51)).alloc (.cells #[.string x.name, .string x.field, .bool x.uniq] 56)).alloc (.cells #[.string y.name, .string y.field, .bool y.uniq] 56)).alloc (.cells #[.int .i64 v.kind, .bool v.yes, .int .i64 v.num, .string v.text, .slice la v.list.length lc, .slice fa v.fields.length fc] 26) := ⟨_, rfl⟩
  rw [← hW0] at HX
  clear hca hcb hv nv
  rw [f0] at HFA
  rw [f1] at HFB
  rw [f4] at HFV
  clear f0 f1 f4
  go_enter Try.func8, Try.ntmps8
  go_wp2_with fail
  rw [← hW0]
  clear hW0
  refine (HH.out _).mono ?_
  rintro e w1 ⟨rfl, hb1⟩
  have HB1 := Lib.hid hb1
  clear hb1 HH
  obtain ⟨hbw, hzw, b0, b1, b2, b3, b4⟩ := HX.out w1 HB1.out
  have HBW1 := Lib.hid hbw
  have HZ1 := Lib.hid hzw
  obtain ⟨p0, p1⟩ := Box.two b0
  obtain ⟨q0, q1⟩ := Box.two b1
  obtain ⟨r0, r1, r2⟩ := Box.three b2
  obtain ⟨s0, s1, s2⟩ := Box.three b3
  obtain ⟨⟨t0, t1, t2, t3, t4, t5⟩, _⟩ := b4.six
  clear hbw hzw b0 b1 b2 b3 b4
  go_wp2_with fail
  refine (HFA.out w1 HBW1.out).mono ?_
  rintro e w2 ⟨rfl, hb⟩
  have HB2 := Lib.hid (HB1.out.trans (hb.mono HB1.out.size))
  clear hb HFA
  clear p0 p1 q0 q1 r0 r1 r2 s0 s1 s2 t0 t1 t2 t3 t4 t5
  obtain ⟨hbw, hzw, b0, b1, b2, b3, b4⟩ := HX.out w2 HB2.out
  have HBW2 := Lib.hid hbw
  have HZ2 := Lib.hid hzw
  obtain ⟨p0, p1⟩ := Box.two b0
  obtain ⟨q0, q1⟩ := Box.two b1
  obtain ⟨r0, r1, r2⟩ := Box.three b2
  obtain ⟨s0, s1, s2⟩ := Box.three b3
  obtain ⟨⟨t0, t1, t2, t3, t4, t5⟩, _⟩ := b4.six
  clear hbw hzw b0 b1 b2 b3 b4
  go_wp2_with fail
  refine (HFB.out w2 HBW2.out).mono ?_
  rintro e w3 ⟨rfl, hb⟩
  have HB3 := Lib.hid (HB2.out.trans (hb.mono HB2.out.size))
  clear hb HFB
  clear p0 p1 q0 q1 r0 r1 r2 s0 s1 s2 t0 t1 t2 t3 t4 t5
  obtain ⟨hbw, hzw, b0, b1, b2, b3, b4⟩ := HX.out w3 HB3.out
  have HBW3 := Lib.hid hbw
  have HZ3 := Lib.hid hzw
  obtain ⟨p0, p1⟩ := Box.two b0
  obtain ⟨q0, q1⟩ := Box.two b1
  obtain ⟨r0, r1, r2⟩ := Box.three b2
  obtain ⟨s0, s1, s2⟩ := Box.three b3
  obtain ⟨⟨t0, t1, t2, t3, t4, t5⟩, _⟩ := b4.six
  clear hbw hzw b0 b1 b2 b3 b4
  go_wp2_with fail
  refine (HFV.out w3 HBW3.out).mono ?_
  rintro e w4 ⟨rfl, hb⟩
  have HB4 := Lib.hid (HB3.out.trans (hb.mono HB3.out.size))
  clear hb HFV
  clear p0 p1 q0 q1 r0 r1 r2 s0 s1 s2 t0 t1 t2 t3 t4 t5
  obtain ⟨hbw, hzw, b0, b1, b2, b3, b4⟩ := HX.out w4 HB4.out
  have HBW4 := Lib.hid hbw
  have HZ4 := Lib.hid hzw
  obtain ⟨p0, p1⟩ := Box.two b0
  obtain ⟨q0, q1⟩ := Box.two b1
  obtain ⟨r0, r1, r2⟩ := Box.three b2
  obtain ⟨s0, s1, s2⟩ := Box.three b3
  obtain ⟨⟨t0, t1, t2, t3, t4, t5⟩, _⟩ := b4.six
  clear hbw hzw b0 b1 b2 b3 b4
  go_wp2
  go_ret
  exact ⟨rfl, HBW4.out⟩

set_option maxHeartbeats 8000000 in
set_option maxRecDepth 100000 in
theorem out7 (w : World) (an : ByteArray) (aa : Option Addr) (alen acap : Nat) (axs : List Ix) (hca : IxsCame w aa alen acap axs) (bn : ByteArray) (ba : Option Addr) (blen bcap : Nat) (bxs : List Ix) (hcb : IxsCame w ba blen bcap bxs) (x y : Ix) (v : V) (la : Option Addr) (lc : Nat) (fa : Option Addr) (fc : Nat) (hv : v.Is w (.slice la v.list.length lc) (.slice fa v.fields.length fc)) (nv : v.n64) (id ot : ByteArray) (f0 : fewCo an axs = true) (f1 : fewCo bn bxs = true) (f2 : ¬ (60 : Int) < (x.name.size : Int)) (f3 : ¬ (60 : Int) < (y.name.size : Int)) (f4 : v.few 0 = true) (f5 : ¬ (60 : Int) < (id.size : Int)) (f6 : ¬ (60 : Int) < (ot.size : Int)) (f7 : (an.toList == bn.toList) = true) :
    Calls Try.prog 8 #[.agg #[.string an, .slice aa alen acap], .agg #[.string bn, .slice ba blen bcap], .agg #[.string x.name, .string x.field, .bool x.uniq], .agg #[.string y.name, .string y.field, .bool y.uniq], .agg #[.int .i64 v.kind, .bool v.yes, .int .i64 v.num, .string v.text, .slice la v.list.length lc, .slice fa v.fields.length fc], .string id, .string ot] w fun e w' => e = .returned (.bool true) ∧ Below w.heap.size w w' := by
  have HH := Lib.hid head13_any
  have HFA : Hid (∀ W, Below w.heap.size w W → Calls Try.prog 30 #[.agg #[.string an, .slice aa alen acap]] W fun e w' => e = .returned (.bool (fewCo an axs)) ∧ Below W.heap.size W w') := Lib.hid fun W hb => cfew_any (hca.2.2.2.1.below hb) hca.1 (by have := hca.2.1; have := hca.2.2.1; omega) an
  have HFB : Hid (∀ W, Below w.heap.size w W → Calls Try.prog 30 #[.agg #[.string bn, .slice ba blen bcap]] W fun e w' => e = .returned (.bool (fewCo bn bxs)) ∧ Below W.heap.size W w') := Lib.hid fun W hb => cfew_any (hcb.2.2.2.1.below hb) hcb.1 (by have := hcb.2.1; have := hcb.2.2.1; omega) bn
  have HFV : Hid (∀ W, Below w.heap.size w W → Calls Try.prog 10 #[.agg #[.int .i64 v.kind, .bool v.yes, .int .i64 v.num, .string v.text, .slice la v.list.length lc, .slice fa v.fields.length fc], .int .i64 0] W fun e w' => e = .returned (.bool (v.few 0)) ∧ Below W.heap.size W w') := Lib.hid fun W hb => few_any v _ _ W (hv.below hb)
  have HX := Lib.hid (five w #[.string an, .slice aa alen acap] #[.string bn, .slice ba blen bcap] #[.string x.name, .string x.field, .bool x.uniq] #[.string y.name, .string y.field, .bool y.uniq] #[.int .i64 v.kind, .bool v.yes, .int .i64 v.num, .string v.text, .slice la v.list.length lc, .slice fa v.fields.length fc] 51 51 56 56 26)
  obtain ⟨W0, hW0⟩ : ∃ W0, W0 = ((((w.alloc (.cells #[.string an, .slice aa alen acap] 51)).alloc (.cells #[.string bn, .slice ba blen bcap] 51)).alloc (.cells #[.string x.name, .string x.field, .bool x.uniq] 56)).alloc (.cells #[.string y.name, .string y.field, .bool y.uniq] 56)).alloc (.cells #[.int .i64 v.kind, .bool v.yes, .int .i64 v.num, .string v.text, .slice la v.list.length lc, .slice fa v.fields.length fc] 26) := ⟨_, rfl⟩
  rw [← hW0] at HX
  clear hca hcb hv nv
  rw [f0] at HFA
  rw [f1] at HFB
  rw [f4] at HFV
  clear f0 f1 f4
  go_enter Try.func8, Try.ntmps8
  go_wp2_with fail
  rw [← hW0]
  clear hW0
  refine (HH.out _).mono ?_
  rintro e w1 ⟨rfl, hb1⟩
  have HB1 := Lib.hid hb1
  clear hb1 HH
  obtain ⟨hbw, hzw, b0, b1, b2, b3, b4⟩ := HX.out w1 HB1.out
  have HBW1 := Lib.hid hbw
  have HZ1 := Lib.hid hzw
  obtain ⟨p0, p1⟩ := Box.two b0
  obtain ⟨q0, q1⟩ := Box.two b1
  obtain ⟨r0, r1, r2⟩ := Box.three b2
  obtain ⟨s0, s1, s2⟩ := Box.three b3
  obtain ⟨⟨t0, t1, t2, t3, t4, t5⟩, _⟩ := b4.six
  clear hbw hzw b0 b1 b2 b3 b4
  go_wp2_with fail
  refine (HFA.out w1 HBW1.out).mono ?_
  rintro e w2 ⟨rfl, hb⟩
  have HB2 := Lib.hid (HB1.out.trans (hb.mono HB1.out.size))
  clear hb HFA
  clear p0 p1 q0 q1 r0 r1 r2 s0 s1 s2 t0 t1 t2 t3 t4 t5
  obtain ⟨hbw, hzw, b0, b1, b2, b3, b4⟩ := HX.out w2 HB2.out
  have HBW2 := Lib.hid hbw
  have HZ2 := Lib.hid hzw
  obtain ⟨p0, p1⟩ := Box.two b0
  obtain ⟨q0, q1⟩ := Box.two b1
  obtain ⟨r0, r1, r2⟩ := Box.three b2
  obtain ⟨s0, s1, s2⟩ := Box.three b3
  obtain ⟨⟨t0, t1, t2, t3, t4, t5⟩, _⟩ := b4.six
  clear hbw hzw b0 b1 b2 b3 b4
  go_wp2_with fail
  refine (HFB.out w2 HBW2.out).mono ?_
  rintro e w3 ⟨rfl, hb⟩
  have HB3 := Lib.hid (HB2.out.trans (hb.mono HB2.out.size))
  clear hb HFB
  clear p0 p1 q0 q1 r0 r1 r2 s0 s1 s2 t0 t1 t2 t3 t4 t5
  obtain ⟨hbw, hzw, b0, b1, b2, b3, b4⟩ := HX.out w3 HB3.out
  have HBW3 := Lib.hid hbw
  have HZ3 := Lib.hid hzw
  obtain ⟨p0, p1⟩ := Box.two b0
  obtain ⟨q0, q1⟩ := Box.two b1
  obtain ⟨r0, r1, r2⟩ := Box.three b2
  obtain ⟨s0, s1, s2⟩ := Box.three b3
  obtain ⟨⟨t0, t1, t2, t3, t4, t5⟩, _⟩ := b4.six
  clear hbw hzw b0 b1 b2 b3 b4
  go_wp2_with fail
  refine (HFV.out w3 HBW3.out).mono ?_
  rintro e w4 ⟨rfl, hb⟩
  have HB4 := Lib.hid (HB3.out.trans (hb.mono HB3.out.size))
  clear hb HFV
  clear p0 p1 q0 q1 r0 r1 r2 s0 s1 s2 t0 t1 t2 t3 t4 t5
  obtain ⟨hbw, hzw, b0, b1, b2, b3, b4⟩ := HX.out w4 HB4.out
  have HBW4 := Lib.hid hbw
  have HZ4 := Lib.hid hzw
  obtain ⟨p0, p1⟩ := Box.two b0
  obtain ⟨q0, q1⟩ := Box.two b1
  obtain ⟨r0, r1, r2⟩ := Box.three b2
  obtain ⟨s0, s1, s2⟩ := Box.three b3
  obtain ⟨⟨t0, t1, t2, t3, t4, t5⟩, _⟩ := b4.six
  clear hbw hzw b0 b1 b2 b3 b4
  go_wp2
  go_ret
  exact ⟨rfl, HBW4.out⟩

set_option maxHeartbeats 8000000 in
set_option maxRecDepth 100000 in
theorem main (w : World) (an : ByteArray) (aa : Option Addr) (alen acap : Nat) (axs : List Ix) (hca : IxsCame w aa alen acap axs) (bn : ByteArray) (ba : Option Addr) (blen bcap : Nat) (bxs : List Ix) (hcb : IxsCame w ba blen bcap bxs) (x y : Ix) (v : V) (la : Option Addr) (lc : Nat) (fa : Option Addr) (fc : Nat) (hv : v.Is w (.slice la v.list.length lc) (.slice fa v.fields.length fc)) (nv : v.n64) (id ot : ByteArray) (f0 : fewCo an axs = true) (f1 : fewCo bn bxs = true) (f2 : ¬ (60 : Int) < (x.name.size : Int)) (f3 : ¬ (60 : Int) < (y.name.size : Int)) (f4 : v.few 0 = true) (f5 : ¬ (60 : Int) < (id.size : Int)) (f6 : ¬ (60 : Int) < (ot.size : Int)) (f7 : (an.toList == bn.toList) = false) :
    Calls Try.prog 8 #[.agg #[.string an, .slice aa alen acap], .agg #[.string bn, .slice ba blen bcap], .agg #[.string x.name, .string x.field, .bool x.uniq], .agg #[.string y.name, .string y.field, .bool y.uniq], .agg #[.int .i64 v.kind, .bool v.yes, .int .i64 v.num, .string v.text, .slice la v.list.length lc, .slice fa v.fields.length fc], .string id, .string ot] w fun e w' => e = .returned (.bool true) ∧ Below w.heap.size w w' := by
  have HH := Lib.hid head13_any
  have HFA : Hid (∀ W, Below w.heap.size w W → Calls Try.prog 30 #[.agg #[.string an, .slice aa alen acap]] W fun e w' => e = .returned (.bool (fewCo an axs)) ∧ Below W.heap.size W w') := Lib.hid fun W hb => cfew_any (hca.2.2.2.1.below hb) hca.1 (by have := hca.2.1; have := hca.2.2.1; omega) an
  have HFB : Hid (∀ W, Below w.heap.size w W → Calls Try.prog 30 #[.agg #[.string bn, .slice ba blen bcap]] W fun e w' => e = .returned (.bool (fewCo bn bxs)) ∧ Below W.heap.size W w') := Lib.hid fun W hb => cfew_any (hcb.2.2.2.1.below hb) hcb.1 (by have := hcb.2.1; have := hcb.2.2.1; omega) bn
  have HFV : Hid (∀ W, Below w.heap.size w W → Calls Try.prog 10 #[.agg #[.int .i64 v.kind, .bool v.yes, .int .i64 v.num, .string v.text, .slice la v.list.length lc, .slice fa v.fields.length fc], .int .i64 0] W fun e w' => e = .returned (.bool (v.few 0)) ∧ Below W.heap.size W w') := Lib.hid fun W hb => few_any v _ _ W (hv.below hb)
  have HX := Lib.hid (five w #[.string an, .slice aa alen acap] #[.string bn, .slice ba blen bcap] #[.string x.name, .string x.field, .bool x.uniq] #[.string y.name, .string y.field, .bool y.uniq] #[.int .i64 v.kind, .bool v.yes, .int .i64 v.num, .string v.text, .slice la v.list.length lc, .slice fa v.fields.length fc] 51 51 56 56 26)
  have hRU := fun W h => lright_any v 0 f4 (.slice la v.list.length lc) (.slice fa v.fields.length fc) W h
  have pu := rv_pl v.dep v (Nat.le_refl _)
  have nu := rv_n64 v.dep v (Nat.le_refl _) nv
  have lu := ordVals.few_ob 7 v.rv 0 (by omega) (rv_few v.dep v 0 (Nat.le_refl _) f4)
  rw [show (1000 * 9 ^ 7 : Nat) = 4782969000 by decide] at lu
  have HS : Hid (∀ W, Below w.heap.size w W → v.Is W (.slice la v.list.length lc) (.slice fa v.fields.length fc)) := Lib.hid fun W hb => hv.below hb
  obtain ⟨u, hu⟩ : ∃ u, u = v.rv := ⟨_, rfl⟩
  rw [← hu] at hRU pu nu lu
  have HRU : Hid (∀ W, v.Is W (.slice la v.list.length lc) (.slice fa v.fields.length fc) → Calls Try.prog 11 #[.agg #[.int .i64 v.kind, .bool v.yes, .int .i64 v.num, .string v.text, .slice la v.list.length lc, .slice fa v.fields.length fc]] W (RvP u W)) := Lib.hid hRU
  have HKU := Lib.hid (And.intro (ordVals.pl_okk u.dep u (Nat.le_refl _) pu nu) lu)
  have fsz := And.intro (fewCo_of f0) (fewCo_of f1)
  have hab : an ≠ bn := fun e => by rw [e] at f7; simp at f7
  have HNE := Lib.hid hab
  have HSZ : Hid (an.size ≤ 1000 ∧ bn.size ≤ 1000 ∧ x.name.size ≤ 1000 ∧ y.name.size ≤ 1000 ∧ id.size ≤ 1000 ∧ ot.size ≤ 1000) := Lib.hid (by obtain ⟨⟨h1, _⟩, h2, _⟩ := fsz; exact ⟨by omega, by omega, by omega, by omega, by omega, by omega⟩)
  clear hu hRU pu nu lu fsz hab
  obtain ⟨W0, hW0⟩ : ∃ W0, W0 = ((((w.alloc (.cells #[.string an, .slice aa alen acap] 51)).alloc (.cells #[.string bn, .slice ba blen bcap] 51)).alloc (.cells #[.string x.name, .string x.field, .bool x.uniq] 56)).alloc (.cells #[.string y.name, .string y.field, .bool y.uniq] 56)).alloc (.cells #[.int .i64 v.kind, .bool v.yes, .int .i64 v.num, .string v.text, .slice la v.list.length lc, .slice fa v.fields.length fc] 26) := ⟨_, rfl⟩
  rw [← hW0] at HX
  clear hca hcb hv nv
  rw [f0] at HFA
  rw [f1] at HFB
  rw [f4] at HFV
  clear f0 f1 f4
  go_enter Try.func8, Try.ntmps8
  go_wp2_with fail
  rw [← hW0]
  clear hW0
  refine (HH.out _).mono ?_
  rintro e w1 ⟨rfl, hb1⟩
  have HB1 := Lib.hid hb1
  clear hb1 HH
  obtain ⟨hbw, hzw, b0, b1, b2, b3, b4⟩ := HX.out w1 HB1.out
  have HBW1 := Lib.hid hbw
  have HZ1 := Lib.hid hzw
  obtain ⟨p0, p1⟩ := Box.two b0
  obtain ⟨q0, q1⟩ := Box.two b1
  obtain ⟨r0, r1, r2⟩ := Box.three b2
  obtain ⟨s0, s1, s2⟩ := Box.three b3
  obtain ⟨⟨t0, t1, t2, t3, t4, t5⟩, _⟩ := b4.six
  clear hbw hzw b0 b1 b2 b3 b4
  go_wp2_with fail
  refine (HFA.out w1 HBW1.out).mono ?_
  rintro e w2 ⟨rfl, hb⟩
  have HB2 := Lib.hid (HB1.out.trans (hb.mono HB1.out.size))
  clear hb HFA
  clear p0 p1 q0 q1 r0 r1 r2 s0 s1 s2 t0 t1 t2 t3 t4 t5
  obtain ⟨hbw, hzw, b0, b1, b2, b3, b4⟩ := HX.out w2 HB2.out
  have HBW2 := Lib.hid hbw
  have HZ2 := Lib.hid hzw
  obtain ⟨p0, p1⟩ := Box.two b0
  obtain ⟨q0, q1⟩ := Box.two b1
  obtain ⟨r0, r1, r2⟩ := Box.three b2
  obtain ⟨s0, s1, s2⟩ := Box.three b3
  obtain ⟨⟨t0, t1, t2, t3, t4, t5⟩, _⟩ := b4.six
  clear hbw hzw b0 b1 b2 b3 b4
  go_wp2_with fail
  refine (HFB.out w2 HBW2.out).mono ?_
  rintro e w3 ⟨rfl, hb⟩
  have HB3 := Lib.hid (HB2.out.trans (hb.mono HB2.out.size))
  clear hb HFB
  clear p0 p1 q0 q1 r0 r1 r2 s0 s1 s2 t0 t1 t2 t3 t4 t5
  obtain ⟨hbw, hzw, b0, b1, b2, b3, b4⟩ := HX.out w3 HB3.out
  have HBW3 := Lib.hid hbw
  have HZ3 := Lib.hid hzw
  obtain ⟨p0, p1⟩ := Box.two b0
  obtain ⟨q0, q1⟩ := Box.two b1
  obtain ⟨r0, r1, r2⟩ := Box.three b2
  obtain ⟨s0, s1, s2⟩ := Box.three b3
  obtain ⟨⟨t0, t1, t2, t3, t4, t5⟩, _⟩ := b4.six
  clear hbw hzw b0 b1 b2 b3 b4
  go_wp2_with fail
  refine (HFV.out w3 HBW3.out).mono ?_
  rintro e w4 ⟨rfl, hb⟩
  have HB4 := Lib.hid (HB3.out.trans (hb.mono HB3.out.size))
  clear hb HFV
  clear p0 p1 q0 q1 r0 r1 r2 s0 s1 s2 t0 t1 t2 t3 t4 t5
  obtain ⟨hbw, hzw, b0, b1, b2, b3, b4⟩ := HX.out w4 HB4.out
  have HBW4 := Lib.hid hbw
  have HZ4 := Lib.hid hzw
  obtain ⟨p0, p1⟩ := Box.two b0
  obtain ⟨q0, q1⟩ := Box.two b1
  obtain ⟨r0, r1, r2⟩ := Box.three b2
  obtain ⟨s0, s1, s2⟩ := Box.three b3
  obtain ⟨⟨t0, t1, t2, t3, t4, t5⟩, _⟩ := b4.six
  clear hbw hzw b0 b1 b2 b3 b4
  go_upto_region 5 with fail
  clear p0 p1 q0 q1 r0 r1 r2 s0 s1 s2 t0 t1 t2 t3 t4 t5
  go_cut [16] (fun _ wx => Hid (Below w.heap.size w wx ∧ w.heap.size + 5 ≤ wx.heap.size ∧ Box wx (w.heap.size) 51 #[.string an, .slice aa alen acap] ∧ Box wx (w.heap.size + 1) 51 #[.string bn, .slice ba blen bcap] ∧ Box wx (w.heap.size + 2) 56 #[.string x.name, .string x.field, .bool x.uniq] ∧ Box wx (w.heap.size + 3) 56 #[.string y.name, .string y.field, .bool y.uniq] ∧ In6 wx (w.heap.size + 5) (w.heap.size + 4) u))
  case first =>
    obtain ⟨hbw, hzw, b0, b1, b2, b3, b4⟩ := HX.out w4 HB4.out
    obtain ⟨⟨t0, t1, t2, t3, t4, t5⟩, g0, g1, g2, g3, g4, g5⟩ := b4.six
    have HBX := Lib.hid (And.intro b0 (And.intro b1 (And.intro b2 (And.intro b3 b4))))
    have HRi := Lib.hid (HRU.out _ (HS.out _ hbw))
    clear b0 b1 b2 b3 b4 hbw hzw
    go_wp2_with fail
    refine HRi.out.mono ?_
    rintro e w5 ⟨lu, fu, rfl, hat, hb5⟩
    obtain ⟨⟨ax, cx, rfl⟩, ⟨ay, cy, rfl⟩, _, _⟩ := hat.is.len
    have HAT := Lib.hid hat
    have HB5 := Lib.hid hb5
    clear hat hb5 HRi t0 t1 t2 t3 t4 t5 g0 g1 g2 g3 g4 g5
    have HBX5 := Lib.hid ((HB5.out.block _ HBX.out.2.2.2.2.lt).trans HBX.out.2.2.2.2)
    obtain ⟨⟨t0, t1, t2, t3, t4, t5⟩, g0, g1, g2, g3, g4, g5⟩ := Box.six HBX5.out
    go_wp2_with fail
    go_meet
    have k5 : ∀ q, q < w.heap.size + 4 → (st6 w5 (w.heap.size + 4) (.int .i64 u.kind) (.bool u.yes) (.int .i64 u.num) (.string u.text) (.slice ax u.list.length cx) (.slice ay u.fields.length cy)).heap[q]? = w4.heap[q]? := fun q hq => (st6_far _ _ _ _ _ _ q (by omega)).trans (HB5.out.block q (by have := HZ4.out; omega))
    have z5 := HB5.out.size
    have z4 := HZ4.out
    refine Lib.hid ⟨st6_below (HBW4.out.trans (HB5.out.mono HBW4.out.size)) (by omega) _ _ _ _ _ _, ?_, (k5 _ (by omega)).trans HBX.out.1, (k5 _ (by omega)).trans HBX.out.2.1, (k5 _ (by omega)).trans HBX.out.2.2.1, (k5 _ (by omega)).trans HBX.out.2.2.2.1, in6_new rfl HBX5.out (by omega) (by omega) u ax cx ay cy HAT.out⟩
    rw [show ∀ (W : World) (b : Nat) (c0 c1 c2 c3 c4 c5 : Value), ((((((W.setCell ⟨b, 0, none⟩ c0).setCell ⟨b, 1, none⟩ c1).setCell ⟨b, 2, none⟩ c2).setCell ⟨b, 3, none⟩ c3).setCell ⟨b, 4, none⟩ c4).setCell ⟨b, 5, none⟩ c5).heap.size = W.heap.size from fun W b c0 c1 c2 c3 c4 c5 => st6_size c0 c1 c2 c3 c4 c5]
    omega
  case rest =>
    obtain ⟨hbw0, hz0, b0, b1, b2, b3, ua, uc, ga, gc, b4, hat⟩ := hcut.out
    have HXC : Hid (∀ W, Below wc.heap.size wc W → Below w.heap.size w W ∧ w.heap.size + 5 ≤ W.heap.size ∧ Box W (w.heap.size) 51 #[.string an, .slice aa alen acap] ∧ Box W (w.heap.size + 1) 51 #[.string bn, .slice ba blen bcap] ∧ Box W (w.heap.size + 2) 56 #[.string x.name, .string x.field, .bool x.uniq] ∧ Box W (w.heap.size + 3) 56 #[.string y.name, .string y.field, .bool y.uniq] ∧ Box W (w.heap.size + 4) 26 #[.int .i64 u.kind, .bool u.yes, .int .i64 u.num, .string u.text, .slice ua u.list.length uc, .slice ga u.fields.length gc]) := Lib.hid fun W hb =>
      ⟨hbw0.trans (hb.mono hbw0.size), Nat.le_trans hz0 hb.size, (hb.block _ b0.lt).trans b0, (hb.block _ b1.lt).trans b1, (hb.block _ b2.lt).trans b2, (hb.block _ b3.lt).trans b3, (hb.block _ b4.lt).trans b4⟩
    have HE1 : Hid (∀ W, Below wc.heap.size wc W → Calls Try.prog 31 #[.agg #[.string an, .slice aa alen acap], .agg #[.string x.name, .string x.field, .bool x.uniq], .agg #[.int .i64 u.kind, .bool u.yes, .int .i64 u.num, .string u.text, .slice ua u.list.length uc, .slice ga u.fields.length gc], .string id] W fun e w' => e = .returned (.string ⟨(eB an x u id).toArray⟩) ∧ Below W.heap.size W w') := Lib.hid fun W hb => entry_any an x u id (.slice aa alen acap) ua uc ga gc ⟨_, _, _, rfl⟩ W (V.At.move (fun q hq hlt => ⟨hq, hb.block q hlt⟩) hb.size _ (Nat.le_refl _) hat) HKU.out.1 (by have := HKU.out.2; omega) (by have := HSZ.out; omega) (by have := HSZ.out; omega) (by have := HSZ.out; omega)
    have HE2 : Hid (∀ W, Below wc.heap.size wc W → Calls Try.prog 31 #[.agg #[.string bn, .slice ba blen bcap], .agg #[.string y.name, .string y.field, .bool y.uniq], .agg #[.int .i64 u.kind, .bool u.yes, .int .i64 u.num, .string u.text, .slice ua u.list.length uc, .slice ga u.fields.length gc], .string ot] W fun e w' => e = .returned (.string ⟨(eB bn y u ot).toArray⟩) ∧ Below W.heap.size W w') := Lib.hid fun W hb => entry_any bn y u ot (.slice ba blen bcap) ua uc ga gc ⟨_, _, _, rfl⟩ W (V.At.move (fun q hq hlt => ⟨hq, hb.block q hlt⟩) hb.size _ (Nat.le_refl _) hat) HKU.out.1 (by have := HKU.out.2; omega) (by have := HSZ.out; omega) (by have := HSZ.out; omega) (by have := HSZ.out; omega)
    obtain ⟨P, hP⟩ : ∃ P, P = (⟨(eB an x u id).toArray⟩ : ByteArray) := ⟨_, rfl⟩
    obtain ⟨Q, hQ⟩ : ∃ Q, Q = (⟨(eB bn y u ot).toArray⟩ : ByteArray) := ⟨_, rfl⟩
    obtain ⟨KA, hKA⟩ : ∃ z, z = kS [tC, an] := ⟨_, rfl⟩
    obtain ⟨KB, hKB⟩ : ∃ z, z = kS [tC, bn] := ⟨_, rfl⟩
    obtain ⟨DA, hDA⟩ : ∃ z, z = kS [tD, an, id] := ⟨_, rfl⟩
    obtain ⟨DB, hDB⟩ : ∃ z, z = kS [tD, bn, ot] := ⟨_, rfl⟩
    obtain ⟨SB, hSB⟩ : ∃ z, z = kS [tD, bn] := ⟨_, rfl⟩
    obtain ⟨EB, hEB⟩ : ∃ z, z = kS [tI, bn, y.name] := ⟨_, rfl⟩
    have n1 : (KA.toList == KB.toList) = false := by rw [hKA, hKB]; exact ne_beq (kS_ne fun e => HNE.out (by injection e with _ e; injection e))
    have n2 : (DA.toList == DB.toList) = false := by rw [hDA, hDB]; exact ne_beq (kS_ne fun e => HNE.out (by injection e with _ e; injection e))
    have n3 : (P.toList == Q.toList) = false := by rw [hP, hQ]; exact ne_beq (mk_ne (eB_ne HNE.out x y u u id ot))
    have n4 : (DA.toList == P.toList) = false := by rw [hDA, hP]; exact ne_beq (doc_ne_entry an id an x u id)
    have n5 : (KA.toList == DA.toList) = false := by rw [hKA, hDA]; exact ne_beq (key_ne_doc an an id)
    have HBD : Hid (∀ W, Calls Try.prog 39 #[.string DA, .string SB] W fun e w' => e = .returned (.bool false) ∧ W = w') := Lib.hid fun W => by have h := begP_any DA SB W; rw [hDA, hSB] at h ⊢; rw [beg_docs HNE.out] at h; exact h
    have HBE : Hid (∀ W, Calls Try.prog 39 #[.string P, .string EB] W fun e w' => e = .returned (.bool false) ∧ W = w') := Lib.hid fun W => by have h := begP_any P EB W; rw [hP, hEB] at h ⊢; rw [beg_entries HNE.out] at h; exact h
    have HKA : Hid (∀ W, Calls Try.prog 38 #[.agg #[.string an, .slice aa alen acap]] W fun e w' => e = .returned (.string KA) ∧ Below W.heap.size W w') := Lib.hid fun W => by have h := ckey_any an (.slice aa alen acap) (by have := HSZ.out; omega) ⟨_, _, _, rfl⟩ W; rw [← hKA] at h; exact h
    have HKB : Hid (∀ W, Calls Try.prog 38 #[.agg #[.string bn, .slice ba blen bcap]] W fun e w' => e = .returned (.string KB) ∧ Below W.heap.size W w') := Lib.hid fun W => by have h := ckey_any bn (.slice ba blen bcap) (by have := HSZ.out; omega) ⟨_, _, _, rfl⟩ W; rw [← hKB] at h; exact h
    have HDA : Hid (∀ W, Calls Try.prog 34 #[.agg #[.string an, .slice aa alen acap], .string id] W fun e w' => e = .returned (.string DA) ∧ Below W.heap.size W w') := Lib.hid fun W => by have h := cdoc_any an id (.slice aa alen acap) (by have := HSZ.out; omega) (by have := HSZ.out; omega) ⟨_, _, _, rfl⟩ W; rw [← hDA] at h; exact h
    have HDB : Hid (∀ W, Calls Try.prog 34 #[.agg #[.string bn, .slice ba blen bcap], .string ot] W fun e w' => e = .returned (.string DB) ∧ Below W.heap.size W w') := Lib.hid fun W => by have h := cdoc_any bn ot (.slice ba blen bcap) (by have := HSZ.out; omega) (by have := HSZ.out; omega) ⟨_, _, _, rfl⟩ W; rw [← hDB] at h; exact h
    have HSB : Hid (∀ W, Calls Try.prog 37 #[.agg #[.string bn, .slice ba blen bcap]] W fun e w' => e = .returned (.string SB) ∧ Below W.heap.size W w') := Lib.hid fun W => by have h := cdocs_any bn (.slice ba blen bcap) (by have := HSZ.out; omega) ⟨_, _, _, rfl⟩ W; rw [← hSB] at h; exact h
    have HEB : Hid (∀ W, Calls Try.prog 35 #[.agg #[.string bn, .slice ba blen bcap], .agg #[.string y.name, .string y.field, .bool y.uniq]] W fun e w' => e = .returned (.string EB) ∧ Below W.heap.size W w') := Lib.hid fun W => by have h := centries_any bn (.slice ba blen bcap) y (by have := HSZ.out; omega) (by have := HSZ.out; omega) ⟨_, _, _, rfl⟩ W; rw [← hEB] at h; exact h
    rw [← hP] at HE1
    rw [← hQ] at HE2
    have HC0 : Hid (Below wc.heap.size wc wc) := Lib.hid (Below.refl _ _)
    clear hKA hKB hDA hDB hSB hEB hP hQ hbw0 hz0 b0 b1 b2 b3 b4 hat hcut HX HS HRU HKU HSZ HNE HBW4 HZ4 HBW1 HZ1 HBW2 HZ2 HBW3 HZ3 HB1 HB2 HB3 HB4
    obtain ⟨_, hzw, b0, b1, b2, b3, b4⟩ := HXC.out wc HC0.out
    obtain ⟨p0, p1⟩ := Box.two b0
    obtain ⟨q0, q1⟩ := Box.two b1
    obtain ⟨r0, r1, r2⟩ := Box.three b2
    obtain ⟨s0, s1, s2⟩ := Box.three b3
    obtain ⟨⟨t0, t1, t2, t3, t4, t5⟩, _⟩ := b4.six
    clear b0 b1 b2 b3 b4 hzw
    go_wp2_with fail
    refine (HE1.out wc HC0.out).mono ?_
    rintro e y1 ⟨rfl, hb⟩
    have HC1 := Lib.hid (HC0.out.trans (hb.mono HC0.out.size))
    clear hb
    clear p0 p1 q0 q1 r0 r1 r2 s0 s1 s2 t0 t1 t2 t3 t4 t5
    obtain ⟨_, hzw, b0, b1, b2, b3, b4⟩ := HXC.out y1 HC1.out
    obtain ⟨p0, p1⟩ := Box.two b0
    obtain ⟨q0, q1⟩ := Box.two b1
    obtain ⟨r0, r1, r2⟩ := Box.three b2
    obtain ⟨s0, s1, s2⟩ := Box.three b3
    obtain ⟨⟨t0, t1, t2, t3, t4, t5⟩, _⟩ := b4.six
    clear b0 b1 b2 b3 b4 hzw
    go_wp2_with fail
    refine (HE2.out y1 HC1.out).mono ?_
    rintro e y2 ⟨rfl, hb⟩
    have HC2 := Lib.hid (HC1.out.trans (hb.mono HC1.out.size))
    clear hb
    clear p0 p1 q0 q1 r0 r1 r2 s0 s1 s2 t0 t1 t2 t3 t4 t5
    obtain ⟨_, hzw, b0, b1, b2, b3, b4⟩ := HXC.out y2 HC2.out
    obtain ⟨p0, p1⟩ := Box.two b0
    obtain ⟨q0, q1⟩ := Box.two b1
    obtain ⟨r0, r1, r2⟩ := Box.three b2
    obtain ⟨s0, s1, s2⟩ := Box.three b3
    obtain ⟨⟨t0, t1, t2, t3, t4, t5⟩, _⟩ := b4.six
    clear b0 b1 b2 b3 b4 hzw
    go_upto_region 9 with fail
    have HC3 := Lib.hid (HC2.out.drew)
    clear p0 p1 q0 q1 r0 r1 r2 s0 s1 s2 t0 t1 t2 t3 t4 t5
    obtain ⟨_, hzw, b0, b1, b2, b3, b4⟩ := HXC.out _ HC3.out
    obtain ⟨p0, p1⟩ := Box.two b0
    obtain ⟨q0, q1⟩ := Box.two b1
    obtain ⟨r0, r1, r2⟩ := Box.three b2
    obtain ⟨s0, s1, s2⟩ := Box.three b3
    obtain ⟨⟨t0, t1, t2, t3, t4, t5⟩, _⟩ := b4.six
    clear b0 b1 b2 b3 b4 hzw
    refine wp_region_held_drew (S := fun w' => w'.cell? ⟨w.heap.size, 0, none⟩ = some (.string an) ∧ w'.cell? ⟨w.heap.size, 1, none⟩ = some (.slice aa alen acap) ∧ w'.cell? ⟨w.heap.size + 1, 0, none⟩ = some (.string bn) ∧ w'.cell? ⟨w.heap.size + 1, 1, none⟩ = some (.slice ba blen bcap) ∧ w'.cell? ⟨w.heap.size + 2, 0, none⟩ = some (.string x.name) ∧ w'.cell? ⟨w.heap.size + 2, 1, none⟩ = some (.string x.field) ∧ w'.cell? ⟨w.heap.size + 2, 2, none⟩ = some (.bool x.uniq) ∧ w'.cell? ⟨w.heap.size + 3, 0, none⟩ = some (.string y.name) ∧ w'.cell? ⟨w.heap.size + 3, 1, none⟩ = some (.string y.field) ∧ w'.cell? ⟨w.heap.size + 3, 2, none⟩ = some (.bool y.uniq)) (by kernel_rfl) (by exact ⟨p0, p1, q0, q1, r0, r1, r2, s0, s1, s2⟩) (fun hHeld => ?_)
    clear p0 p1 q0 q1 r0 r1 r2 s0 s1 s2 t0 t1 t2 t3 t4 t5
    refine wpAnyH_take (i := 0) (oi := _) (v := ?_) rfl (by kernel_rfl) (by kernel_rfl) (by kernel_rfl) (fun _ _ _ h => h) (Or.inl ⟨by rfl, ?_⟩) (by assumption) ?_
    rotate_left
    · (intro w' hSw; (try dsimp only at hSw); go_simp; all_goals with_reducible rfl)
    try simp only [Act.put, List.getElem_toArray, List.getElem_cons_zero, List.getElem_cons_succ, List.setIfInBounds_toArray, List.set_cons_zero, List.set_cons_succ]
    refine wpAnyH_take (i := 2) (oi := _) (v := ?_) rfl (by kernel_rfl) (by kernel_rfl) (by kernel_rfl) (fun _ _ _ h => h) (Or.inl ⟨by rfl, ?_⟩) (by assumption) ?_
    rotate_left
    · (intro w' hSw; (try dsimp only at hSw); go_simp; all_goals with_reducible rfl)
    try simp only [Act.put, List.getElem_toArray, List.getElem_cons_zero, List.getElem_cons_succ, List.setIfInBounds_toArray, List.set_cons_zero, List.set_cons_succ]
    refine wpAnyH_ready (rs := [1]) (by kernel_rfl) (by simp) ?_
    refine AllReadyH.cons rfl (fun K hK => ?_) AllReadyH.nil
    go_simp
    refine (HKA.out _).mono ?_
    rintro e y4 ⟨rfl, hb⟩
    have HC4 := Lib.hid (HC3.out.trans (hb.mono HC3.out.size))
    clear hb
    obtain ⟨_, hzw, b0, b1, b2, b3, b4⟩ := HXC.out y4 HC4.out
    obtain ⟨p0, p1⟩ := Box.two b0
    obtain ⟨q0, q1⟩ := Box.two b1
    obtain ⟨r0, r1, r2⟩ := Box.three b2
    obtain ⟨s0, s1, s2⟩ := Box.three b3
    obtain ⟨⟨t0, t1, t2, t3, t4, t5⟩, _⟩ := b4.six
    clear b0 b1 b2 b3 b4 hzw
    refine hK.out _ _ (by exact ⟨p0, p1, q0, q1, r0, r1, r2, s0, s1, s2⟩) (fun hHeld => ?_)
    clear hK K
    try simp only [Act.put, List.getElem_toArray, List.getElem_cons_zero, List.getElem_cons_succ, List.setIfInBounds_toArray, List.set_cons_zero, List.set_cons_succ]
    clear p0 p1 q0 q1 r0 r1 r2 s0 s1 s2 t0 t1 t2 t3 t4 t5
    refine wpAnyH_ready (rs := [3]) (by kernel_rfl) (by simp) ?_
    refine AllReadyH.cons rfl (fun K hK => ?_) AllReadyH.nil
    go_simp
    refine (HKB.out _).mono ?_
    rintro e y5 ⟨rfl, hb⟩
    have HC5 := Lib.hid (HC4.out.trans (hb.mono HC4.out.size))
    clear hb
    obtain ⟨_, hzw, b0, b1, b2, b3, b4⟩ := HXC.out y5 HC5.out
    obtain ⟨p0, p1⟩ := Box.two b0
    obtain ⟨q0, q1⟩ := Box.two b1
    obtain ⟨r0, r1, r2⟩ := Box.three b2
    obtain ⟨s0, s1, s2⟩ := Box.three b3
    obtain ⟨⟨t0, t1, t2, t3, t4, t5⟩, _⟩ := b4.six
    clear b0 b1 b2 b3 b4 hzw
    refine hK.out _ _ (by exact ⟨p0, p1, q0, q1, r0, r1, r2, s0, s1, s2⟩) (fun hHeld => ?_)
    clear hK K
    try simp only [Act.put, List.getElem_toArray, List.getElem_cons_zero, List.getElem_cons_succ, List.setIfInBounds_toArray, List.set_cons_zero, List.set_cons_succ]
    clear p0 p1 q0 q1 r0 r1 r2 s0 s1 s2 t0 t1 t2 t3 t4 t5
    refine wpAnyH_take (i := 4) (oi := _) (v := ?_) rfl (by kernel_rfl) (by kernel_rfl) (by kernel_rfl) (fun _ _ _ h => h) (Or.inl ⟨by rfl, ?_⟩) (by assumption) ?_
    rotate_left
    · (intro w' hSw; (try dsimp only at hSw); go_simp; all_goals with_reducible rfl)
    try simp only [Act.put, List.getElem_toArray, List.getElem_cons_zero, List.getElem_cons_succ, List.setIfInBounds_toArray, List.set_cons_zero, List.set_cons_succ]
    refine wpAnyH_take (i := 5) (oi := _) (v := ?_) rfl (by kernel_rfl) (by kernel_rfl) (by kernel_rfl) (fun _ _ _ h => h) (Or.inl ⟨by rfl, ?_⟩) (by assumption) ?_
    rotate_left
    · (intro w' hSw; (try dsimp only at hSw); go_simp; all_goals with_reducible rfl)
    try simp only [Act.put, List.getElem_toArray, List.getElem_cons_zero, List.getElem_cons_succ, List.setIfInBounds_toArray, List.set_cons_zero, List.set_cons_succ]
    refine wpAnyH_take (i := 6) (oi := _) (v := ?_) rfl (by kernel_rfl) (by kernel_rfl) (by kernel_rfl) (fun _ _ _ h => h) (Or.inl ⟨by rfl, ?_⟩) (by assumption) ?_
    rotate_left
    · (intro w' hSw; (try dsimp only at hSw); go_simp; all_goals with_reducible rfl)
    try simp only [Act.put, List.getElem_toArray, List.getElem_cons_zero, List.getElem_cons_succ, List.setIfInBounds_toArray, List.set_cons_zero, List.set_cons_succ]
    refine wpAnyH_take (i := 7) (oi := _) (v := ?_) rfl (by kernel_rfl) (by kernel_rfl) (by kernel_rfl) (fun _ _ _ h => h) (Or.inl ⟨by rfl, ?_⟩) (by assumption) ?_
    rotate_left
    · (intro w' hSw; (try dsimp only at hSw); go_simp; all_goals with_reducible rfl)
    try simp only [Act.put, List.getElem_toArray, List.getElem_cons_zero, List.getElem_cons_succ, List.setIfInBounds_toArray, List.set_cons_zero, List.set_cons_succ]
    refine wpAnyH_take (i := 9) (oi := _) (v := ?_) rfl (by kernel_rfl) (by kernel_rfl) (by kernel_rfl) (fun _ _ _ h => h) (Or.inl ⟨by rfl, ?_⟩) (by assumption) ?_
    rotate_left
    · (intro w' hSw; (try dsimp only at hSw); go_simp; all_goals with_reducible rfl)
    try simp only [Act.put, List.getElem_toArray, List.getElem_cons_zero, List.getElem_cons_succ, List.setIfInBounds_toArray, List.set_cons_zero, List.set_cons_succ]
    refine wpAnyH_take (i := 10) (oi := _) (v := ?_) rfl (by kernel_rfl) (by kernel_rfl) (by kernel_rfl) (fun _ _ _ h => h) (Or.inl ⟨by rfl, ?_⟩) (by assumption) ?_
    rotate_left
    · (intro w' hSw; (try dsimp only at hSw); go_simp; all_goals with_reducible rfl)
    try simp only [Act.put, List.getElem_toArray, List.getElem_cons_zero, List.getElem_cons_succ, List.setIfInBounds_toArray, List.set_cons_zero, List.set_cons_succ]
    refine wpAnyH_ready (rs := [8]) (by kernel_rfl) (by simp) ?_
    refine AllReadyH.cons rfl (fun K hK => ?_) AllReadyH.nil
    go_simp
    refine (HDA.out _).mono ?_
    rintro e y6 ⟨rfl, hb⟩
    have HC6 := Lib.hid (HC5.out.trans (hb.mono HC5.out.size))
    clear hb
    obtain ⟨_, hzw, b0, b1, b2, b3, b4⟩ := HXC.out y6 HC6.out
    obtain ⟨p0, p1⟩ := Box.two b0
    obtain ⟨q0, q1⟩ := Box.two b1
    obtain ⟨r0, r1, r2⟩ := Box.three b2
    obtain ⟨s0, s1, s2⟩ := Box.three b3
    obtain ⟨⟨t0, t1, t2, t3, t4, t5⟩, _⟩ := b4.six
    clear b0 b1 b2 b3 b4 hzw
    refine hK.out _ _ (by exact ⟨p0, p1, q0, q1, r0, r1, r2, s0, s1, s2⟩) (fun hHeld => ?_)
    clear hK K
    try simp only [Act.put, List.getElem_toArray, List.getElem_cons_zero, List.getElem_cons_succ, List.setIfInBounds_toArray, List.set_cons_zero, List.set_cons_succ]
    clear p0 p1 q0 q1 r0 r1 r2 s0 s1 s2 t0 t1 t2 t3 t4 t5
    refine wpAnyH_ready (rs := [11]) (by kernel_rfl) (by simp) ?_
    refine AllReadyH.cons rfl (fun K hK => ?_) AllReadyH.nil
    go_simp
    refine (HDB.out _).mono ?_
    rintro e y7 ⟨rfl, hb⟩
    have HC7 := Lib.hid (HC6.out.trans (hb.mono HC6.out.size))
    clear hb
    obtain ⟨_, hzw, b0, b1, b2, b3, b4⟩ := HXC.out y7 HC7.out
    obtain ⟨p0, p1⟩ := Box.two b0
    obtain ⟨q0, q1⟩ := Box.two b1
    obtain ⟨r0, r1, r2⟩ := Box.three b2
    obtain ⟨s0, s1, s2⟩ := Box.three b3
    obtain ⟨⟨t0, t1, t2, t3, t4, t5⟩, _⟩ := b4.six
    clear b0 b1 b2 b3 b4 hzw
    refine hK.out _ _ (by exact ⟨p0, p1, q0, q1, r0, r1, r2, s0, s1, s2⟩) (fun hHeld => ?_)
    clear hK K
    try simp only [Act.put, List.getElem_toArray, List.getElem_cons_zero, List.getElem_cons_succ, List.setIfInBounds_toArray, List.set_cons_zero, List.set_cons_succ]
    clear p0 p1 q0 q1 r0 r1 r2 s0 s1 s2 t0 t1 t2 t3 t4 t5
    refine wpAnyH_take (i := 12) (oi := _) (v := ?_) rfl (by kernel_rfl) (by kernel_rfl) (by kernel_rfl) (fun _ _ _ h => h) (Or.inl ⟨by rfl, ?_⟩) (by assumption) ?_
    rotate_left
    · (intro w' hSw; (try dsimp only at hSw); go_simp; all_goals with_reducible rfl)
    try simp only [Act.put, List.getElem_toArray, List.getElem_cons_zero, List.getElem_cons_succ, List.setIfInBounds_toArray, List.set_cons_zero, List.set_cons_succ]
    refine wpAnyH_take (i := 13) (oi := _) (v := ?_) rfl (by kernel_rfl) (by kernel_rfl) (by kernel_rfl) (fun _ _ _ h => h) (Or.inl ⟨by rfl, ?_⟩) (by assumption) ?_
    rotate_left
    · (intro w' hSw; (try dsimp only at hSw); go_simp; all_goals with_reducible rfl)
    try simp only [Act.put, List.getElem_toArray, List.getElem_cons_zero, List.getElem_cons_succ, List.setIfInBounds_toArray, List.set_cons_zero, List.set_cons_succ]
    refine wpAnyH_take (i := 14) (oi := _) (v := ?_) rfl (by kernel_rfl) (by kernel_rfl) (by kernel_rfl) (fun _ _ _ h => h) (Or.inl ⟨by rfl, ?_⟩) (by assumption) ?_
    rotate_left
    · (intro w' hSw; (try dsimp only at hSw); go_simp; all_goals with_reducible rfl)
    try simp only [Act.put, List.getElem_toArray, List.getElem_cons_zero, List.getElem_cons_succ, List.setIfInBounds_toArray, List.set_cons_zero, List.set_cons_succ]
    refine wpAnyH_take (i := 15) (oi := _) (v := ?_) rfl (by kernel_rfl) (by kernel_rfl) (by kernel_rfl) (fun _ _ _ h => h) (Or.inl ⟨by rfl, ?_⟩) (by assumption) ?_
    rotate_left
    · (intro w' hSw; (try dsimp only at hSw); go_simp; all_goals with_reducible rfl)
    try simp only [Act.put, List.getElem_toArray, List.getElem_cons_zero, List.getElem_cons_succ, List.setIfInBounds_toArray, List.set_cons_zero, List.set_cons_succ]
    refine wpAnyH_take (i := 16) (oi := _) (v := ?_) rfl (by kernel_rfl) (by kernel_rfl) (by kernel_rfl) (fun _ _ _ h => h) (Or.inl ⟨by rfl, ?_⟩) (by assumption) ?_
    rotate_left
    · (intro w' hSw; (try dsimp only at hSw); go_simp; all_goals with_reducible rfl)
    try simp only [Act.put, List.getElem_toArray, List.getElem_cons_zero, List.getElem_cons_succ, List.setIfInBounds_toArray, List.set_cons_zero, List.set_cons_succ]
    refine wpAnyH_take (i := 17) (oi := _) (v := ?_) rfl (by kernel_rfl) (by kernel_rfl) (by kernel_rfl) (fun _ _ _ h => h) (Or.inl ⟨by rfl, ?_⟩) (by assumption) ?_
    rotate_left
    · (intro w' hSw; (try dsimp only at hSw); go_simp; all_goals with_reducible rfl)
    try simp only [Act.put, List.getElem_toArray, List.getElem_cons_zero, List.getElem_cons_succ, List.setIfInBounds_toArray, List.set_cons_zero, List.set_cons_succ]
    refine wpAnyH_take (i := 18) (oi := _) (v := ?_) rfl (by kernel_rfl) (by kernel_rfl) (by kernel_rfl) (fun _ _ _ h => h) (Or.inl ⟨by rfl, ?_⟩) (by assumption) ?_
    rotate_left
    · (intro w' hSw; (try dsimp only at hSw); go_simp; all_goals with_reducible rfl)
    try simp only [Act.put, List.getElem_toArray, List.getElem_cons_zero, List.getElem_cons_succ, List.setIfInBounds_toArray, List.set_cons_zero, List.set_cons_succ]
    refine wpAnyH_take (i := 19) (oi := _) (v := ?_) rfl (by kernel_rfl) (by kernel_rfl) (by kernel_rfl) (fun _ _ _ h => h) (Or.inl ⟨by rfl, ?_⟩) (by assumption) ?_
    rotate_left
    · (intro w' hSw; (try dsimp only at hSw); go_simp; all_goals with_reducible rfl)
    try simp only [Act.put, List.getElem_toArray, List.getElem_cons_zero, List.getElem_cons_succ, List.setIfInBounds_toArray, List.set_cons_zero, List.set_cons_succ]
    refine wpAnyH_take (i := 20) (oi := _) (v := ?_) rfl (by kernel_rfl) (by kernel_rfl) (by kernel_rfl) (fun _ _ _ h => h) (Or.inl ⟨by rfl, ?_⟩) (by assumption) ?_
    rotate_left
    · (intro w' hSw; (try dsimp only at hSw); go_simp; all_goals with_reducible rfl)
    try simp only [Act.put, List.getElem_toArray, List.getElem_cons_zero, List.getElem_cons_succ, List.setIfInBounds_toArray, List.set_cons_zero, List.set_cons_succ]
    refine wpAnyH_take (i := 21) (oi := _) (v := ?_) rfl (by kernel_rfl) (by kernel_rfl) (by kernel_rfl) (fun _ _ _ h => h) (Or.inl ⟨by rfl, ?_⟩) (by assumption) ?_
    rotate_left
    · (intro w' hSw; (try dsimp only at hSw); go_simp; all_goals with_reducible rfl)
    try simp only [Act.put, List.getElem_toArray, List.getElem_cons_zero, List.getElem_cons_succ, List.setIfInBounds_toArray, List.set_cons_zero, List.set_cons_succ]
    refine wpAnyH_take (i := 22) (oi := _) (v := ?_) rfl (by kernel_rfl) (by kernel_rfl) (by kernel_rfl) (fun _ _ _ h => h) (Or.inl ⟨by rfl, ?_⟩) (by assumption) ?_
    rotate_left
    · (intro w' hSw; (try dsimp only at hSw); go_simp; all_goals with_reducible rfl)
    try simp only [Act.put, List.getElem_toArray, List.getElem_cons_zero, List.getElem_cons_succ, List.setIfInBounds_toArray, List.set_cons_zero, List.set_cons_succ]
    refine wpAnyH_take (i := 24) (oi := _) (v := ?_) rfl (by kernel_rfl) (by kernel_rfl) (by kernel_rfl) (fun _ _ _ h => h) (Or.inl ⟨by rfl, ?_⟩) (by assumption) ?_
    rotate_left
    · (intro w' hSw; (try dsimp only at hSw); go_simp; all_goals with_reducible rfl)
    try simp only [Act.put, List.getElem_toArray, List.getElem_cons_zero, List.getElem_cons_succ, List.setIfInBounds_toArray, List.set_cons_zero, List.set_cons_succ]
    refine wpAnyH_ready (rs := [23]) (by kernel_rfl) (by simp) ?_
    refine AllReadyH.cons rfl (fun K hK => ?_) AllReadyH.nil
    go_simp
    refine (HDA.out _).mono ?_
    rintro e y8 ⟨rfl, hb⟩
    have HC8 := Lib.hid (HC7.out.trans (hb.mono HC7.out.size))
    clear hb
    obtain ⟨_, hzw, b0, b1, b2, b3, b4⟩ := HXC.out y8 HC8.out
    obtain ⟨p0, p1⟩ := Box.two b0
    obtain ⟨q0, q1⟩ := Box.two b1
    obtain ⟨r0, r1, r2⟩ := Box.three b2
    obtain ⟨s0, s1, s2⟩ := Box.three b3
    obtain ⟨⟨t0, t1, t2, t3, t4, t5⟩, _⟩ := b4.six
    clear b0 b1 b2 b3 b4 hzw
    refine hK.out _ _ (by exact ⟨p0, p1, q0, q1, r0, r1, r2, s0, s1, s2⟩) (fun hHeld => ?_)
    clear hK K
    try simp only [Act.put, List.getElem_toArray, List.getElem_cons_zero, List.getElem_cons_succ, List.setIfInBounds_toArray, List.set_cons_zero, List.set_cons_succ]
    clear p0 p1 q0 q1 r0 r1 r2 s0 s1 s2 t0 t1 t2 t3 t4 t5
    refine wpAnyH_ready (rs := [25]) (by kernel_rfl) (by simp) ?_
    refine AllReadyH.cons rfl (fun K hK => ?_) AllReadyH.nil
    go_simp
    refine (HSB.out _).mono ?_
    rintro e y9 ⟨rfl, hb⟩
    have HC9 := Lib.hid (HC8.out.trans (hb.mono HC8.out.size))
    clear hb
    obtain ⟨_, hzw, b0, b1, b2, b3, b4⟩ := HXC.out y9 HC9.out
    obtain ⟨p0, p1⟩ := Box.two b0
    obtain ⟨q0, q1⟩ := Box.two b1
    obtain ⟨r0, r1, r2⟩ := Box.three b2
    obtain ⟨s0, s1, s2⟩ := Box.three b3
    obtain ⟨⟨t0, t1, t2, t3, t4, t5⟩, _⟩ := b4.six
    clear b0 b1 b2 b3 b4 hzw
    refine hK.out _ _ (by exact ⟨p0, p1, q0, q1, r0, r1, r2, s0, s1, s2⟩) (fun hHeld => ?_)
    clear hK K
    try simp only [Act.put, List.getElem_toArray, List.getElem_cons_zero, List.getElem_cons_succ, List.setIfInBounds_toArray, List.set_cons_zero, List.set_cons_succ]
    clear p0 p1 q0 q1 r0 r1 r2 s0 s1 s2 t0 t1 t2 t3 t4 t5
    refine wpAnyH_ready (rs := [26]) (by kernel_rfl) (by simp) ?_
    refine AllReadyH.cons rfl (fun K hK => ?_) AllReadyH.nil
    go_simp
    refine (HBD.out _).mono ?_
    rintro e y10 ⟨rfl, rfl⟩
    have HC10 := HC9
    obtain ⟨_, hzw, b0, b1, b2, b3, b4⟩ := HXC.out _ HC10.out
    obtain ⟨p0, p1⟩ := Box.two b0
    obtain ⟨q0, q1⟩ := Box.two b1
    obtain ⟨r0, r1, r2⟩ := Box.three b2
    obtain ⟨s0, s1, s2⟩ := Box.three b3
    obtain ⟨⟨t0, t1, t2, t3, t4, t5⟩, _⟩ := b4.six
    clear b0 b1 b2 b3 b4 hzw
    refine hK.out _ _ (by exact ⟨p0, p1, q0, q1, r0, r1, r2, s0, s1, s2⟩) (fun hHeld => ?_)
    clear hK K
    try simp only [Act.put, List.getElem_toArray, List.getElem_cons_zero, List.getElem_cons_succ, List.setIfInBounds_toArray, List.set_cons_zero, List.set_cons_succ]
    clear p0 p1 q0 q1 r0 r1 r2 s0 s1 s2 t0 t1 t2 t3 t4 t5
    refine wpAnyH_take (i := 27) (oi := _) (v := ?_) rfl (by kernel_rfl) (by kernel_rfl) (by kernel_rfl) (fun _ _ _ h => h) (Or.inl ⟨by rfl, ?_⟩) (by assumption) ?_
    rotate_left
    · (intro w' hSw; (try dsimp only at hSw); go_simp; all_goals with_reducible rfl)
    try simp only [Act.put, List.getElem_toArray, List.getElem_cons_zero, List.getElem_cons_succ, List.setIfInBounds_toArray, List.set_cons_zero, List.set_cons_succ]
    refine wpAnyH_take (i := 28) (oi := _) (v := ?_) rfl (by kernel_rfl) (by kernel_rfl) (by kernel_rfl) (fun _ _ _ h => h) (Or.inl ⟨by rfl, ?_⟩) (by assumption) ?_
    rotate_left
    · (intro w' hSw; (try dsimp only at hSw); go_simp; all_goals with_reducible rfl)
    try simp only [Act.put, List.getElem_toArray, List.getElem_cons_zero, List.getElem_cons_succ, List.setIfInBounds_toArray, List.set_cons_zero, List.set_cons_succ]
    refine wpAnyH_take (i := 29) (oi := _) (v := ?_) rfl (by kernel_rfl) (by kernel_rfl) (by kernel_rfl) (fun _ _ _ h => h) (Or.inl ⟨by rfl, ?_⟩) (by assumption) ?_
    rotate_left
    · (intro w' hSw; (try dsimp only at hSw); go_simp; all_goals with_reducible rfl)
    try simp only [Act.put, List.getElem_toArray, List.getElem_cons_zero, List.getElem_cons_succ, List.setIfInBounds_toArray, List.set_cons_zero, List.set_cons_succ]
    refine wpAnyH_take (i := 30) (oi := _) (v := ?_) rfl (by kernel_rfl) (by kernel_rfl) (by kernel_rfl) (fun _ _ _ h => h) (Or.inl ⟨by rfl, ?_⟩) (by assumption) ?_
    rotate_left
    · (intro w' hSw; (try dsimp only at hSw); go_simp; all_goals with_reducible rfl)
    try simp only [Act.put, List.getElem_toArray, List.getElem_cons_zero, List.getElem_cons_succ, List.setIfInBounds_toArray, List.set_cons_zero, List.set_cons_succ]
    refine wpAnyH_take (i := 31) (oi := _) (v := ?_) rfl (by kernel_rfl) (by kernel_rfl) (by kernel_rfl) (fun _ _ _ h => h) (Or.inl ⟨by rfl, ?_⟩) (by assumption) ?_
    rotate_left
    · (intro w' hSw; (try dsimp only at hSw); go_simp; all_goals with_reducible rfl)
    try simp only [Act.put, List.getElem_toArray, List.getElem_cons_zero, List.getElem_cons_succ, List.setIfInBounds_toArray, List.set_cons_zero, List.set_cons_succ]
    refine wpAnyH_take (i := 32) (oi := _) (v := ?_) rfl (by kernel_rfl) (by kernel_rfl) (by kernel_rfl) (fun _ _ _ h => h) (Or.inl ⟨by rfl, ?_⟩) (by assumption) ?_
    rotate_left
    · (intro w' hSw; (try dsimp only at hSw); go_simp; all_goals with_reducible rfl)
    try simp only [Act.put, List.getElem_toArray, List.getElem_cons_zero, List.getElem_cons_succ, List.setIfInBounds_toArray, List.set_cons_zero, List.set_cons_succ]
    refine wpAnyH_take (i := 33) (oi := _) (v := ?_) rfl (by kernel_rfl) (by kernel_rfl) (by kernel_rfl) (fun _ _ _ h => h) (Or.inl ⟨by rfl, ?_⟩) (by assumption) ?_
    rotate_left
    · (intro w' hSw; (try dsimp only at hSw); go_simp; all_goals with_reducible rfl)
    try simp only [Act.put, List.getElem_toArray, List.getElem_cons_zero, List.getElem_cons_succ, List.setIfInBounds_toArray, List.set_cons_zero, List.set_cons_succ]
    refine wpAnyH_ready (rs := [34]) (by kernel_rfl) (by simp) ?_
    refine AllReadyH.cons rfl (fun K hK => ?_) AllReadyH.nil
    go_simp
    refine (HEB.out _).mono ?_
    rintro e y11 ⟨rfl, hb⟩
    have HC11 := Lib.hid (HC10.out.trans (hb.mono HC10.out.size))
    clear hb
    obtain ⟨_, hzw, b0, b1, b2, b3, b4⟩ := HXC.out y11 HC11.out
    obtain ⟨p0, p1⟩ := Box.two b0
    obtain ⟨q0, q1⟩ := Box.two b1
    obtain ⟨r0, r1, r2⟩ := Box.three b2
    obtain ⟨s0, s1, s2⟩ := Box.three b3
    obtain ⟨⟨t0, t1, t2, t3, t4, t5⟩, _⟩ := b4.six
    clear b0 b1 b2 b3 b4 hzw
    refine hK.out _ _ (by exact ⟨p0, p1, q0, q1, r0, r1, r2, s0, s1, s2⟩) (fun hHeld => ?_)
    clear hK K
    try simp only [Act.put, List.getElem_toArray, List.getElem_cons_zero, List.getElem_cons_succ, List.setIfInBounds_toArray, List.set_cons_zero, List.set_cons_succ]
    clear p0 p1 q0 q1 r0 r1 r2 s0 s1 s2 t0 t1 t2 t3 t4 t5
    refine wpAnyH_ready (rs := [35]) (by kernel_rfl) (by simp) ?_
    refine AllReadyH.cons rfl (fun K hK => ?_) AllReadyH.nil
    go_simp
    refine (HBE.out _).mono ?_
    rintro e y12 ⟨rfl, rfl⟩
    have HC12 := HC11
    obtain ⟨_, hzw, b0, b1, b2, b3, b4⟩ := HXC.out _ HC12.out
    obtain ⟨p0, p1⟩ := Box.two b0
    obtain ⟨q0, q1⟩ := Box.two b1
    obtain ⟨r0, r1, r2⟩ := Box.three b2
    obtain ⟨s0, s1, s2⟩ := Box.three b3
    obtain ⟨⟨t0, t1, t2, t3, t4, t5⟩, _⟩ := b4.six
    clear b0 b1 b2 b3 b4 hzw
    refine hK.out _ _ (by exact ⟨p0, p1, q0, q1, r0, r1, r2, s0, s1, s2⟩) (fun hHeld => ?_)
    clear hK K
    try simp only [Act.put, List.getElem_toArray, List.getElem_cons_zero, List.getElem_cons_succ, List.setIfInBounds_toArray, List.set_cons_zero, List.set_cons_succ]
    clear p0 p1 q0 q1 r0 r1 r2 s0 s1 s2 t0 t1 t2 t3 t4 t5
    refine wpAnyH_take (i := 36) (oi := _) (v := ?_) rfl (by kernel_rfl) (by kernel_rfl) (by kernel_rfl) (fun _ _ _ h => h) (Or.inl ⟨by rfl, ?_⟩) (by assumption) ?_
    rotate_left
    · (intro w' hSw; (try dsimp only at hSw); go_simp; all_goals with_reducible rfl)
    try simp only [Act.put, List.getElem_toArray, List.getElem_cons_zero, List.getElem_cons_succ, List.setIfInBounds_toArray, List.set_cons_zero, List.set_cons_succ]
    refine wpAnyH_take (i := 37) (oi := _) (v := ?_) rfl (by kernel_rfl) (by kernel_rfl) (by kernel_rfl) (fun _ _ _ h => h) (Or.inl ⟨by rfl, ?_⟩) (by assumption) ?_
    rotate_left
    · (intro w' hSw; (try dsimp only at hSw); go_simp; all_goals with_reducible rfl)
    try simp only [Act.put, List.getElem_toArray, List.getElem_cons_zero, List.getElem_cons_succ, List.setIfInBounds_toArray, List.set_cons_zero, List.set_cons_succ]
    refine wpAnyH_take (i := 38) (oi := _) (v := ?_) rfl (by kernel_rfl) (by kernel_rfl) (by kernel_rfl) (fun _ _ _ h => h) (Or.inl ⟨by rfl, ?_⟩) (by assumption) ?_
    rotate_left
    · (intro w' hSw; (try dsimp only at hSw); go_simp; all_goals with_reducible rfl)
    try simp only [Act.put, List.getElem_toArray, List.getElem_cons_zero, List.getElem_cons_succ, List.setIfInBounds_toArray, List.set_cons_zero, List.set_cons_succ]
    refine wpAnyH_take (i := 39) (oi := _) (v := ?_) rfl (by kernel_rfl) (by kernel_rfl) (by kernel_rfl) (fun _ _ _ h => h) (Or.inl ⟨by rfl, ?_⟩) (by assumption) ?_
    rotate_left
    · (intro w' hSw; (try dsimp only at hSw); go_simp; all_goals with_reducible rfl)
    try simp only [Act.put, List.getElem_toArray, List.getElem_cons_zero, List.getElem_cons_succ, List.setIfInBounds_toArray, List.set_cons_zero, List.set_cons_succ]
    refine wpAnyH_take (i := 40) (oi := _) (v := ?_) rfl (by kernel_rfl) (by kernel_rfl) (by kernel_rfl) (fun _ _ _ h => h) (Or.inl ⟨by rfl, ?_⟩) (by assumption) ?_
    rotate_left
    · (intro w' hSw; (try dsimp only at hSw); go_simp; all_goals with_reducible rfl)
    try simp only [Act.put, List.getElem_toArray, List.getElem_cons_zero, List.getElem_cons_succ, List.setIfInBounds_toArray, List.set_cons_zero, List.set_cons_succ]
    refine wpAnyH_take (i := 42) (oi := _) (v := ?_) rfl (by kernel_rfl) (by kernel_rfl) (by kernel_rfl) (fun _ _ _ h => h) (Or.inl ⟨by rfl, ?_⟩) (by assumption) ?_
    rotate_left
    · (intro w' hSw; (try dsimp only at hSw); go_simp; all_goals with_reducible rfl)
    try simp only [Act.put, List.getElem_toArray, List.getElem_cons_zero, List.getElem_cons_succ, List.setIfInBounds_toArray, List.set_cons_zero, List.set_cons_succ]
    refine wpAnyH_ready (rs := [41]) (by kernel_rfl) (by simp) ?_
    refine AllReadyH.cons rfl (fun K hK => ?_) AllReadyH.nil
    go_simp
    refine (HDA.out _).mono ?_
    rintro e y13 ⟨rfl, hb⟩
    have HC13 := Lib.hid (HC12.out.trans (hb.mono HC12.out.size))
    clear hb
    obtain ⟨_, hzw, b0, b1, b2, b3, b4⟩ := HXC.out y13 HC13.out
    obtain ⟨p0, p1⟩ := Box.two b0
    obtain ⟨q0, q1⟩ := Box.two b1
    obtain ⟨r0, r1, r2⟩ := Box.three b2
    obtain ⟨s0, s1, s2⟩ := Box.three b3
    obtain ⟨⟨t0, t1, t2, t3, t4, t5⟩, _⟩ := b4.six
    clear b0 b1 b2 b3 b4 hzw
    refine hK.out _ _ (by exact ⟨p0, p1, q0, q1, r0, r1, r2, s0, s1, s2⟩) (fun hHeld => ?_)
    clear hK K
    try simp only [Act.put, List.getElem_toArray, List.getElem_cons_zero, List.getElem_cons_succ, List.setIfInBounds_toArray, List.set_cons_zero, List.set_cons_succ]
    clear p0 p1 q0 q1 r0 r1 r2 s0 s1 s2 t0 t1 t2 t3 t4 t5
    refine wpAnyH_take (i := 43) (oi := _) (v := ?_) rfl (by kernel_rfl) (by kernel_rfl) (by kernel_rfl) (fun _ _ _ h => h) (Or.inl ⟨by rfl, ?_⟩) (by assumption) ?_
    rotate_left
    · (intro w' hSw; (try dsimp only at hSw); go_simp; all_goals with_reducible rfl)
    try simp only [Act.put, List.getElem_toArray, List.getElem_cons_zero, List.getElem_cons_succ, List.setIfInBounds_toArray, List.set_cons_zero, List.set_cons_succ]
    refine wpAnyH_take (i := 44) (oi := _) (v := ?_) rfl (by kernel_rfl) (by kernel_rfl) (by kernel_rfl) (fun _ _ _ h => h) (Or.inl ⟨by rfl, ?_⟩) (by assumption) ?_
    rotate_left
    · (intro w' hSw; (try dsimp only at hSw); go_simp; all_goals with_reducible rfl)
    try simp only [Act.put, List.getElem_toArray, List.getElem_cons_zero, List.getElem_cons_succ, List.setIfInBounds_toArray, List.set_cons_zero, List.set_cons_succ]
    refine wpAnyH_take (i := 45) (oi := _) (v := ?_) rfl (by kernel_rfl) (by kernel_rfl) (by kernel_rfl) (fun _ _ _ h => h) (Or.inl ⟨by rfl, ?_⟩) (by assumption) ?_
    rotate_left
    · (intro w' hSw; (try dsimp only at hSw); go_simp; all_goals with_reducible rfl)
    try simp only [Act.put, List.getElem_toArray, List.getElem_cons_zero, List.getElem_cons_succ, List.setIfInBounds_toArray, List.set_cons_zero, List.set_cons_succ]
    refine wpAnyH_take (i := 46) (oi := _) (v := ?_) rfl (by kernel_rfl) (by kernel_rfl) (by kernel_rfl) (fun _ _ _ h => h) (Or.inl ⟨by rfl, ?_⟩) (by assumption) ?_
    rotate_left
    · (intro w' hSw; (try dsimp only at hSw); go_simp; all_goals with_reducible rfl)
    try simp only [Act.put, List.getElem_toArray, List.getElem_cons_zero, List.getElem_cons_succ, List.setIfInBounds_toArray, List.set_cons_zero, List.set_cons_succ]
    refine wpAnyH_take (i := 48) (oi := _) (v := ?_) rfl (by kernel_rfl) (by kernel_rfl) (by kernel_rfl) (fun _ _ _ h => h) (Or.inl ⟨by rfl, ?_⟩) (by assumption) ?_
    rotate_left
    · (intro w' hSw; (try dsimp only at hSw); go_simp; all_goals with_reducible rfl)
    try simp only [Act.put, List.getElem_toArray, List.getElem_cons_zero, List.getElem_cons_succ, List.setIfInBounds_toArray, List.set_cons_zero, List.set_cons_succ]
    refine wpAnyH_take (i := 49) (oi := _) (v := ?_) rfl (by kernel_rfl) (by kernel_rfl) (by kernel_rfl) (fun _ _ _ h => h) (Or.inl ⟨by rfl, ?_⟩) (by assumption) ?_
    rotate_left
    · (intro w' hSw; (try dsimp only at hSw); go_simp; all_goals with_reducible rfl)
    try simp only [Act.put, List.getElem_toArray, List.getElem_cons_zero, List.getElem_cons_succ, List.setIfInBounds_toArray, List.set_cons_zero, List.set_cons_succ]
    refine wpAnyH_ready (rs := [47]) (by kernel_rfl) (by simp) ?_
    refine AllReadyH.cons rfl (fun K hK => ?_) AllReadyH.nil
    go_simp
    refine (HKA.out _).mono ?_
    rintro e y14 ⟨rfl, hb⟩
    have HC14 := Lib.hid (HC13.out.trans (hb.mono HC13.out.size))
    clear hb
    obtain ⟨_, hzw, b0, b1, b2, b3, b4⟩ := HXC.out y14 HC14.out
    obtain ⟨p0, p1⟩ := Box.two b0
    obtain ⟨q0, q1⟩ := Box.two b1
    obtain ⟨r0, r1, r2⟩ := Box.three b2
    obtain ⟨s0, s1, s2⟩ := Box.three b3
    obtain ⟨⟨t0, t1, t2, t3, t4, t5⟩, _⟩ := b4.six
    clear b0 b1 b2 b3 b4 hzw
    refine hK.out _ _ (by exact ⟨p0, p1, q0, q1, r0, r1, r2, s0, s1, s2⟩) (fun hHeld => ?_)
    clear hK K
    try simp only [Act.put, List.getElem_toArray, List.getElem_cons_zero, List.getElem_cons_succ, List.setIfInBounds_toArray, List.set_cons_zero, List.set_cons_succ]
    clear p0 p1 q0 q1 r0 r1 r2 s0 s1 s2 t0 t1 t2 t3 t4 t5
    refine wpAnyH_ready (rs := [50]) (by kernel_rfl) (by simp) ?_
    refine AllReadyH.cons rfl (fun K hK => ?_) AllReadyH.nil
    go_simp
    refine (HDA.out _).mono ?_
    rintro e y15 ⟨rfl, hb⟩
    have HC15 := Lib.hid (HC14.out.trans (hb.mono HC14.out.size))
    clear hb
    obtain ⟨_, hzw, b0, b1, b2, b3, b4⟩ := HXC.out y15 HC15.out
    obtain ⟨p0, p1⟩ := Box.two b0
    obtain ⟨q0, q1⟩ := Box.two b1
    obtain ⟨r0, r1, r2⟩ := Box.three b2
    obtain ⟨s0, s1, s2⟩ := Box.three b3
    obtain ⟨⟨t0, t1, t2, t3, t4, t5⟩, _⟩ := b4.six
    clear b0 b1 b2 b3 b4 hzw
    refine hK.out _ _ (by exact ⟨p0, p1, q0, q1, r0, r1, r2, s0, s1, s2⟩) (fun hHeld => ?_)
    clear hK K
    try simp only [Act.put, List.getElem_toArray, List.getElem_cons_zero, List.getElem_cons_succ, List.setIfInBounds_toArray, List.set_cons_zero, List.set_cons_succ]
    clear p0 p1 q0 q1 r0 r1 r2 s0 s1 s2 t0 t1 t2 t3 t4 t5
    refine wpAnyH_take (i := 51) (oi := _) (v := ?_) rfl (by kernel_rfl) (by kernel_rfl) (by kernel_rfl) (fun _ _ _ h => h) (Or.inl ⟨by rfl, ?_⟩) (by assumption) ?_
    rotate_left
    · (intro w' hSw; (try dsimp only at hSw); go_simp; all_goals with_reducible rfl)
    try simp only [Act.put, List.getElem_toArray, List.getElem_cons_zero, List.getElem_cons_succ, List.setIfInBounds_toArray, List.set_cons_zero, List.set_cons_succ]
    refine wpAnyH_take (i := 52) (oi := _) (v := ?_) rfl (by kernel_rfl) (by kernel_rfl) (by kernel_rfl) (fun _ _ _ h => h) (Or.inl ⟨by rfl, ?_⟩) (by assumption) ?_
    rotate_left
    · (intro w' hSw; (try dsimp only at hSw); go_simp; all_goals with_reducible rfl)
    try simp only [Act.put, List.getElem_toArray, List.getElem_cons_zero, List.getElem_cons_succ, List.setIfInBounds_toArray, List.set_cons_zero, List.set_cons_succ]
    refine wpAnyH_take (i := 53) (oi := _) (v := ?_) rfl (by kernel_rfl) (by kernel_rfl) (by kernel_rfl) (fun _ _ _ h => h) (Or.inl ⟨by rfl, ?_⟩) (by assumption) ?_
    rotate_left
    · (intro w' hSw; (try dsimp only at hSw); go_simp; all_goals with_reducible rfl)
    try simp only [Act.put, List.getElem_toArray, List.getElem_cons_zero, List.getElem_cons_succ, List.setIfInBounds_toArray, List.set_cons_zero, List.set_cons_succ]
    refine wpAnyH_done (by kernel_rfl) ?_ _
    go_wp2
    go_ret
    exact ⟨rfl, (HXC.out _ HC15.out).1⟩

theorem walk (w : World) (an : ByteArray) (aa : Option Addr) (alen acap : Nat) (axs : List Ix) (hca : IxsCame w aa alen acap axs) (bn : ByteArray) (ba : Option Addr) (blen bcap : Nat) (bxs : List Ix) (hcb : IxsCame w ba blen bcap bxs) (x y : Ix) (v : V) (lv fv : Value) (hv : v.Is w lv fv) (nv : v.n64) (id : ByteArray) (_hid : id.size ≤ maxLen) (ot : ByteArray) (_hot : ot.size ≤ maxLen) :
    Calls Try.prog 8 #[.agg #[.string an, .slice aa alen acap], .agg #[.string bn, .slice ba blen bcap], .agg #[.string x.name, .string x.field, .bool x.uniq], .agg #[.string y.name, .string y.field, .bool y.uniq], .agg #[.int .i64 v.kind, .bool v.yes, .int .i64 v.num, .string v.text, lv, fv], .string id, .string ot] w fun e w' => e = .returned (.bool true) ∧ Below w.heap.size w w' := by
  obtain ⟨⟨la, lc, rfl⟩, ⟨fa, fc, rfl⟩, _, _⟩ := hv.len
  cases f0 : fewCo an axs with
  | false => exact out0 w an aa alen acap axs hca bn ba blen bcap bxs hcb x y v la lc fa fc hv nv id ot  f0
  | true =>
    cases f1 : fewCo bn bxs with
    | false => exact out1 w an aa alen acap axs hca bn ba blen bcap bxs hcb x y v la lc fa fc hv nv id ot f0 f1
    | true =>
      by_cases f2 : (60 : Int) < (x.name.size : Int)
      · exact out2 w an aa alen acap axs hca bn ba blen bcap bxs hcb x y v la lc fa fc hv nv id ot f0 f1 f2
      by_cases f3 : (60 : Int) < (y.name.size : Int)
      · exact out3 w an aa alen acap axs hca bn ba blen bcap bxs hcb x y v la lc fa fc hv nv id ot f0 f1 f2 f3
      cases f4 : v.few 0 with
      | false => exact out4 w an aa alen acap axs hca bn ba blen bcap bxs hcb x y v la lc fa fc hv nv id ot f0 f1 f2 f3 f4
      | true =>
        by_cases f5 : (60 : Int) < (id.size : Int)
        · exact out5 w an aa alen acap axs hca bn ba blen bcap bxs hcb x y v la lc fa fc hv nv id ot f0 f1 f2 f3 f4 f5
        by_cases f6 : (60 : Int) < (ot.size : Int)
        · exact out6 w an aa alen acap axs hca bn ba blen bcap bxs hcb x y v la lc fa fc hv nv id ot f0 f1 f2 f3 f4 f5 f6
        cases f7 : an.toList == bn.toList with
        | true => exact out7 w an aa alen acap axs hca bn ba blen bcap bxs hcb x y v la lc fa fc hv nv id ot f0 f1 f2 f3 f4 f5 f6 f7
        | false => exact main w an aa alen acap axs hca bn ba blen bcap bxs hcb x y v la lc fa fc hv nv id ot f0 f1 f2 f3 f4 f5 f6 f7

end Go.Proofs.Ytacphlceggbfcaa.schemaParts
