/-
  The walk of mailbaglaw08.PatchOrders.
-/
import Derived.Test.YtljhcnlifdmacaaPSml
import Derived.Deep.CutRange
import Derived.Deep.RegionHeld3
namespace Go.Proofs.Ytljhcnlifdmacaa.patchOrders
open Go.RowKit

/-- the three boxes: the document, and both operations -/
def BX (w : World) (v : V) (la : Option Addr) (lc : Nat) (fa : Option Addr) (fc : Nat) (a : PO) (paa : Option Addr) (pac : Nat) (oaa : Option Addr) (oac : Nat) (oba : Option Addr) (obc : Nat) (b : PO) (qaa : Option Addr) (qac : Nat) (raa : Option Addr) (rac : Nat) (rba : Option Addr) (rbc : Nat) (W : World) : Prop :=
  Below w.heap.size w W ∧ Box W w.heap.size 26 #[.int .i64 v.kind, .bool v.yes, .int .i64 v.num, .string v.text, .slice la v.list.length lc, .slice fa v.fields.length fc] ∧ Box W (w.heap.size + 1) 50 #[.int .i64 a.kind, .slice paa a.path.length pac, .int .i64 a.val.kind, .bool a.val.yes, .int .i64 a.val.num, .string a.val.text, .slice oaa a.val.list.length oac, .slice oba a.val.fields.length obc] ∧ Box W (w.heap.size + 2) 50 #[.int .i64 b.kind, .slice qaa b.path.length qac, .int .i64 b.val.kind, .bool b.val.yes, .int .i64 b.val.num, .string b.val.text, .slice raa b.val.list.length rac, .slice rba b.val.fields.length rbc] ∧ v.Is W (.slice la v.list.length lc) (.slice fa v.fields.length fc) ∧ OpCame W a paa pac oaa oac oba obc ∧ OpCame W b qaa qac raa rac rba rbc

theorem BX.below {w : World} {v : V} {la : Option Addr} {lc : Nat} {fa : Option Addr} {fc : Nat} {a : PO} {paa : Option Addr} {pac : Nat} {oaa : Option Addr} {oac : Nat} {oba : Option Addr} {obc : Nat} {b : PO} {qaa : Option Addr} {qac : Nat} {raa : Option Addr} {rac : Nat} {rba : Option Addr} {rbc : Nat} {W W' : World} (h : BX w v la lc fa fc a paa pac oaa oac oba obc b qaa qac raa rac rba rbc W) (hb : Below W.heap.size W W') : BX w v la lc fa fc a paa pac oaa oac oba obc b qaa qac raa rac rba rbc W' := by
  obtain ⟨h1, h2, h3, h4, h5, h6, h7⟩ := h
  exact ⟨h1.trans (hb.mono h1.size), (hb.block _ h2.lt).trans h2, (hb.block _ h3.lt).trans h3, (hb.block _ h4.lt).trans h4, h5.below hb, h6.below hb, h7.below hb⟩

theorem bx_cells {w : World} {v : V} {la : Option Addr} {lc : Nat} {fa : Option Addr} {fc : Nat} {a : PO} {paa : Option Addr} {pac : Nat} {oaa : Option Addr} {oac : Nat} {oba : Option Addr} {obc : Nat} {b : PO} {qaa : Option Addr} {qac : Nat} {raa : Option Addr} {rac : Nat} {rba : Option Addr} {rbc : Nat} {W : World} (h : BX w v la lc fa fc a paa pac oaa oac oba obc b qaa qac raa rac rba rbc W) : W.cell? ⟨w.heap.size, 0, none⟩ = some (.int .i64 v.kind) ∧ W.cell? ⟨w.heap.size, 1, none⟩ = some (.bool v.yes) ∧ W.cell? ⟨w.heap.size, 2, none⟩ = some (.int .i64 v.num) ∧ W.cell? ⟨w.heap.size, 3, none⟩ = some (.string v.text) ∧ W.cell? ⟨w.heap.size, 4, none⟩ = some (.slice la v.list.length lc) ∧ W.cell? ⟨w.heap.size, 5, none⟩ = some (.slice fa v.fields.length fc) ∧ W.cell? ⟨w.heap.size + 1, 0, none⟩ = some (.int .i64 a.kind) ∧ W.cell? ⟨w.heap.size + 1, 1, none⟩ = some (.slice paa a.path.length pac) ∧ W.cell? ⟨w.heap.size + 1, 2, none⟩ = some (.int .i64 a.val.kind) ∧ W.cell? ⟨w.heap.size + 1, 3, none⟩ = some (.bool a.val.yes) ∧ W.cell? ⟨w.heap.size + 1, 4, none⟩ = some (.int .i64 a.val.num) ∧ W.cell? ⟨w.heap.size + 1, 5, none⟩ = some (.string a.val.text) ∧ W.cell? ⟨w.heap.size + 1, 6, none⟩ = some (.slice oaa a.val.list.length oac) ∧ W.cell? ⟨w.heap.size + 1, 7, none⟩ = some (.slice oba a.val.fields.length obc) ∧ W.cell? ⟨w.heap.size + 2, 0, none⟩ = some (.int .i64 b.kind) ∧ W.cell? ⟨w.heap.size + 2, 1, none⟩ = some (.slice qaa b.path.length qac) ∧ W.cell? ⟨w.heap.size + 2, 2, none⟩ = some (.int .i64 b.val.kind) ∧ W.cell? ⟨w.heap.size + 2, 3, none⟩ = some (.bool b.val.yes) ∧ W.cell? ⟨w.heap.size + 2, 4, none⟩ = some (.int .i64 b.val.num) ∧ W.cell? ⟨w.heap.size + 2, 5, none⟩ = some (.string b.val.text) ∧ W.cell? ⟨w.heap.size + 2, 6, none⟩ = some (.slice raa b.val.list.length rac) ∧ W.cell? ⟨w.heap.size + 2, 7, none⟩ = some (.slice rba b.val.fields.length rbc) := by
  obtain ⟨_, h1, h2, h3, _⟩ := h
  obtain ⟨⟨a0, a1, a2, a3, a4, a5⟩, _⟩ := h1.six
  obtain ⟨b0, b1, b2, b3, b4, b5, b6, b7⟩ := h2.eight
  obtain ⟨c0, c1, c2, c3, c4, c5, c6, c7⟩ := h3.eight
  exact ⟨a0, a1, a2, a3, a4, a5, b0, b1, b2, b3, b4, b5, b6, b7, c0, c1, c2, c3, c4, c5, c6, c7⟩

theorem bx_cells2 {w : World} {v : V} {la : Option Addr} {lc : Nat} {fa : Option Addr} {fc : Nat} {a : PO} {paa : Option Addr} {pac : Nat} {oaa : Option Addr} {oac : Nat} {oba : Option Addr} {obc : Nat} {b : PO} {qaa : Option Addr} {qac : Nat} {raa : Option Addr} {rac : Nat} {rba : Option Addr} {rbc : Nat} {W : World} {pb poff qb qoff : Nat} {na nb : ByteArray} (h : BX w v la lc fa fc a paa pac oaa oac oba obc b qaa qac raa rac rba rbc W) (hp : W.cell? ⟨pb, poff, none⟩ = some (.string na) ∧ W.cell? ⟨qb, qoff, none⟩ = some (.string nb)) : W.cell? ⟨w.heap.size, 0, none⟩ = some (.int .i64 v.kind) ∧ W.cell? ⟨w.heap.size, 1, none⟩ = some (.bool v.yes) ∧ W.cell? ⟨w.heap.size, 2, none⟩ = some (.int .i64 v.num) ∧ W.cell? ⟨w.heap.size, 3, none⟩ = some (.string v.text) ∧ W.cell? ⟨w.heap.size, 4, none⟩ = some (.slice la v.list.length lc) ∧ W.cell? ⟨w.heap.size, 5, none⟩ = some (.slice fa v.fields.length fc) ∧ W.cell? ⟨w.heap.size + 1, 0, none⟩ = some (.int .i64 a.kind) ∧ W.cell? ⟨w.heap.size + 1, 1, none⟩ = some (.slice paa a.path.length pac) ∧ W.cell? ⟨w.heap.size + 1, 2, none⟩ = some (.int .i64 a.val.kind) ∧ W.cell? ⟨w.heap.size + 1, 3, none⟩ = some (.bool a.val.yes) ∧ W.cell? ⟨w.heap.size + 1, 4, none⟩ = some (.int .i64 a.val.num) ∧ W.cell? ⟨w.heap.size + 1, 5, none⟩ = some (.string a.val.text) ∧ W.cell? ⟨w.heap.size + 1, 6, none⟩ = some (.slice oaa a.val.list.length oac) ∧ W.cell? ⟨w.heap.size + 1, 7, none⟩ = some (.slice oba a.val.fields.length obc) ∧ W.cell? ⟨w.heap.size + 2, 0, none⟩ = some (.int .i64 b.kind) ∧ W.cell? ⟨w.heap.size + 2, 1, none⟩ = some (.slice qaa b.path.length qac) ∧ W.cell? ⟨w.heap.size + 2, 2, none⟩ = some (.int .i64 b.val.kind) ∧ W.cell? ⟨w.heap.size + 2, 3, none⟩ = some (.bool b.val.yes) ∧ W.cell? ⟨w.heap.size + 2, 4, none⟩ = some (.int .i64 b.val.num) ∧ W.cell? ⟨w.heap.size + 2, 5, none⟩ = some (.string b.val.text) ∧ W.cell? ⟨w.heap.size + 2, 6, none⟩ = some (.slice raa b.val.list.length rac) ∧ W.cell? ⟨w.heap.size + 2, 7, none⟩ = some (.slice rba b.val.fields.length rbc) ∧ W.cell? ⟨pb, poff, none⟩ = some (.string na) ∧ W.cell? ⟨qb, qoff, none⟩ = some (.string nb) := by
  obtain ⟨_, h1, h2, h3, _⟩ := h
  obtain ⟨⟨a0, a1, a2, a3, a4, a5⟩, _⟩ := h1.six
  obtain ⟨b0, b1, b2, b3, b4, b5, b6, b7⟩ := h2.eight
  obtain ⟨c0, c1, c2, c3, c4, c5, c6, c7⟩ := h3.eight
  exact ⟨a0, a1, a2, a3, a4, a5, b0, b1, b2, b3, b4, b5, b6, b7, c0, c1, c2, c3, c4, c5, c6, c7, hp.1, hp.2⟩

theorem box_new3 (w : World) (o o2 : Obj) (t : TypeId) (cs : Array Value) : Box (((w.alloc o).alloc o2).alloc (.cells cs t)) (w.heap.size + 2) t cs := by
  have h := Box.new ((w.alloc o).alloc o2) t cs
  rw [World.size_alloc, World.size_alloc] at h
  exact h
theorem box_new2 (w : World) (o : Obj) (t : TypeId) (cs : Array Value) : Box ((w.alloc o).alloc (.cells cs t)) (w.heap.size + 1) t cs := by
  have h := Box.new (w.alloc o) t cs
  rw [World.size_alloc] at h
  exact h

/-- two operations side by side -/
theorem pair_ops {W : World} {g : Nat} {a : PO} {paa : Option Addr} {pac : Nat} {oaa : Option Addr} {oac : Nat} {oba : Option Addr} {obc : Nat} {b : PO} {qaa : Option Addr} {qac : Nat} {raa : Option Addr} {rac : Nat} {rba : Option Addr} {rbc : Nat} (hx : Box W g 50 #[.int .i64 a.kind, .slice paa a.path.length pac, .int .i64 a.val.kind, .bool a.val.yes, .int .i64 a.val.num, .string a.val.text, .slice oaa a.val.list.length oac, .slice oba a.val.fields.length obc, .int .i64 b.kind, .slice qaa b.path.length qac, .int .i64 b.val.kind, .bool b.val.yes, .int .i64 b.val.num, .string b.val.text, .slice raa b.val.list.length rac, .slice rba b.val.fields.length rbc]) (ha : OpCame W a paa pac oaa oac oba obc) (hb : OpCame W b qaa qac raa rac rba rbc) : OpsAt W All (some ⟨g, 0, none⟩) [a, b] :=
  .inr ⟨g, 0, rfl, hx.lt, fun i hi => by
    match i, hi with
    | 0, _ =>
      refine ⟨paa, pac, oaa, oac, oba, obc, fun j u hj => ?_, ha.1, ha.2.1, ha.2.2.1⟩
      have hj8 : j < 8 := (List.getElem?_eq_some_iff.1 hj).1
      rw [Nat.zero_mul, Nat.zero_add, hx.cell, ← hj]
      match j, hj8 with
      | 0, _ | 1, _ | 2, _ | 3, _ | 4, _ | 5, _ | 6, _ | 7, _ => rfl
    | 1, _ =>
      refine ⟨qaa, qac, raa, rac, rba, rbc, fun j u hj => ?_, hb.1, hb.2.1, hb.2.2.1⟩
      have hj8 : j < 8 := (List.getElem?_eq_some_iff.1 hj).1
      rw [hx.cell, ← hj]
      match j, hj8 with
      | 0, _ | 1, _ | 2, _ | 3, _ | 4, _ | 5, _ | 6, _ | 7, _ => rfl⟩

/-- where the law asks nothing -/
def GO (v : V) (a b : PO) : Bool := !(v.few 0 && (fewOs [a, b] && (rightO a && (rightO b && decide (a.path.head? ≠ b.path.head?)))))

/-- a right operation's path: its first name, where it lies -/
theorem path_at {w : World} {o : PO} {pa : Option Addr} (h : rightO o = true) (hp : PathIn w pa o.path) : ∃ n r pb poff, o.path = n :: r ∧ pa = some ⟨pb, poff, none⟩ ∧ ∀ W, Below w.heap.size w W → W.cell? ⟨pb, poff, none⟩ = some (.string n) := by
  have hl : 1 ≤ o.path.length := by
    unfold rightO at h
    simp only [Bool.and_eq_true, decide_eq_true_eq] at h
    exact h.1
  match hq : o.path, hl with
  | n :: r, _ =>
    rw [hq] at hp
    rcases hp with hp | ⟨pb, poff, e, hs⟩
    · cases hp
    · refine ⟨n, r, pb, poff, rfl, e, fun W hW => ?_⟩
      have h0 := (hs.below hW).2 0 (by simp)
      simpa using h0

/-- Apply of two operations, its answer in one form -/
theorem pair_call {W : World} {u : V} {ua : Option Addr} {uc : Nat} {ub : Option Addr} {ud : Nat} {o p : PO} {r : Except Int V} (hr : applyV u [o, p] = r) (hu : u.Is W (.slice ua u.list.length uc) (.slice ub u.fields.length ud)) (hk : u.okv 8) (ho : o.val.okv 8) (hp : p.val.okv 8) {g : Nat} (hops : OpsAt W All (some ⟨g, 0, none⟩) [o, p]) :
    Calls Try.prog 21 #[.agg #[.int .i64 u.kind, .bool u.yes, .int .i64 u.num, .string u.text, .slice ua u.list.length uc, .slice ub u.fields.length ud], .slice (some ⟨g, 0, none⟩) 2 2] W fun e w' =>
      (∃ ya yc yb yd, e = .returned (.tuple #[.agg #[.int .i64 (resV r).kind, .bool (resV r).yes, .int .i64 (resV r).num, .string (resV r).text, .slice ya (resV r).list.length yc, .slice yb (resV r).fields.length yd], .int .i64 (resC r)]) ∧ (resV r).At w' (fun q => W.heap.size ≤ q) (.slice ya (resV r).list.length yc) (.slice yb (resV r).fields.length yd) ∧ Below W.heap.size W w') ∧ ∀ c, r = .error c → c ≠ 0 := by
  have hcall := apply_any u [o, p] ua uc ub ud (some ⟨g, 0, none⟩) 2 8 W hu hops (by simp) hk (by omega) (fun x hx _ => by
    rcases List.mem_cons.1 hx with rfl | hx
    · exact ho
    · rw [show x = p by simpa using hx]; exact hp)
  rw [hr] at hcall
  refine hcall.mono fun e w' h => ⟨res_any h, fun c hc => ?_⟩
  subst hc
  exact h.2.1

/-- a box kept beside the three -/
def XB (W : World) (bx : Nat) (r : Except Int V) (ya : Option Addr) (yc : Nat) (yb : Option Addr) (yd : Nat) : Prop :=
  Box W bx 26 #[.int .i64 (resV r).kind, .bool (resV r).yes, .int .i64 (resV r).num, .string (resV r).text, .slice ya (resV r).list.length yc, .slice yb (resV r).fields.length yd] ∧ (resV r).Is W (.slice ya (resV r).list.length yc) (.slice yb (resV r).fields.length yd)

theorem XB.below {W W' : World} {bx : Nat} {r : Except Int V} {ya : Option Addr} {yc : Nat} {yb : Option Addr} {yd : Nat} (h : XB W bx r ya yc yb yd) (hb : Below W.heap.size W W') : XB W' bx r ya yc yb yd :=
  ⟨(hb.block _ h.1.lt).trans h.1, h.2.below hb⟩

theorem XB.new {W w8 : World} {r : Except Int V} {ya : Option Addr} {yc : Nat} {yb : Option Addr} {yd : Nat} (hy : (resV r).At w8 (fun q => W.heap.size ≤ q) (.slice ya (resV r).list.length yc) (.slice yb (resV r).fields.length yd)) :
    XB (w8.alloc (.cells #[.int .i64 (resV r).kind, .bool (resV r).yes, .int .i64 (resV r).num, .string (resV r).text, .slice ya (resV r).list.length yc, .slice yb (resV r).fields.length yd] 26)) w8.heap.size r ya yc yb yd :=
  ⟨(put_new hy).1, (put_new hy).2.is⟩

end Go.Proofs.Ytljhcnlifdmacaa.patchOrders
namespace Go.Proofs.Ytljhcnlifdmacaa.patchOrders
open Go.RowKit

set_option maxHeartbeats 8000000 in
set_option maxRecDepth 100000 in
theorem walk {w : World} (v : V) (lv fv : Value) (hv : v.Is w lv fv) (hn : v.n64) (a : PO) (paa : Option Addr) (pac : Nat) (oaa : Option Addr) (oac : Nat) (oba : Option Addr) (obc : Nat) (ha : OpCame w a paa pac oaa oac oba obc) (b : PO) (qaa : Option Addr) (qac : Nat) (raa : Option Addr) (rac : Nat) (rba : Option Addr) (rbc : Nat) (hb : OpCame w b qaa qac raa rac rba rbc) :
    Calls Try.prog 7 #[.agg #[.int .i64 v.kind, .bool v.yes, .int .i64 v.num, .string v.text, lv, fv], .agg #[.int .i64 a.kind, .slice paa a.path.length pac, .int .i64 a.val.kind, .bool a.val.yes, .int .i64 a.val.num, .string a.val.text, .slice oaa a.val.list.length oac, .slice oba a.val.fields.length obc], .agg #[.int .i64 b.kind, .slice qaa b.path.length qac, .int .i64 b.val.kind, .bool b.val.yes, .int .i64 b.val.num, .string b.val.text, .slice raa b.val.list.length rac, .slice rba b.val.fields.length rbc]] w fun e w' => e = .returned (.bool true) ∧ Below w.heap.size w w' := by
  obtain ⟨⟨la, lc, rfl⟩, ⟨fa, fc, rfl⟩, _, _⟩ := hv.len
  have hA : Below w.heap.size w (((w.alloc (.cells #[.int .i64 v.kind, .bool v.yes, .int .i64 v.num, .string v.text, .slice la v.list.length lc, .slice fa v.fields.length fc] 26)).alloc (.cells #[.int .i64 a.kind, .slice paa a.path.length pac, .int .i64 a.val.kind, .bool a.val.yes, .int .i64 a.val.num, .string a.val.text, .slice oaa a.val.list.length oac, .slice oba a.val.fields.length obc] 50)).alloc (.cells #[.int .i64 b.kind, .slice qaa b.path.length qac, .int .i64 b.val.kind, .bool b.val.yes, .int .i64 b.val.num, .string b.val.text, .slice raa b.val.list.length rac, .slice rba b.val.fields.length rbc] 50)) := (((Below.refl _ w).alloc (Nat.le_refl _) _).alloc (by simp) _).alloc (by simp; omega) _
  have hB3 : BX w v la lc fa fc a paa pac oaa oac oba obc b qaa qac raa rac rba rbc (((w.alloc (.cells #[.int .i64 v.kind, .bool v.yes, .int .i64 v.num, .string v.text, .slice la v.list.length lc, .slice fa v.fields.length fc] 26)).alloc (.cells #[.int .i64 a.kind, .slice paa a.path.length pac, .int .i64 a.val.kind, .bool a.val.yes, .int .i64 a.val.num, .string a.val.text, .slice oaa a.val.list.length oac, .slice oba a.val.fields.length obc] 50)).alloc (.cells #[.int .i64 b.kind, .slice qaa b.path.length qac, .int .i64 b.val.kind, .bool b.val.yes, .int .i64 b.val.num, .string b.val.text, .slice raa b.val.list.length rac, .slice rba b.val.fields.length rbc] 50)) :=
    ⟨hA, ((Box.new w _ _).alloc _).alloc _, (box_new2 w _ _ _).alloc _, box_new3 w _ _ _ _, hv.below hA, ha.below hA, hb.below hA⟩
  have HB3 := Lib.hid hB3
  have HIN := Lib.hid (And.intro hn (And.intro ha.2.1 (And.intro hb.2.1 (And.intro ha.2.2.2 hb.2.2.2))))
  have HCA := Lib.hid (And.intro ha hb)
  clear hA hB3 hv ha hb hn
  go_enter Try.func7, Try.ntmps7
  go_wp2_with fail
  refine (head8_any _).mono ?_
  rintro e w4 ⟨rfl, hb4⟩
  have HB4 : Hid (BX w v la lc fa fc a paa pac oaa oac oba obc b qaa qac raa rac rba rbc w4.drew) := Lib.hid ((HB3.out.below hb4).below (Below.refl _ w4).drew)
  obtain ⟨m0, m1, m2, m3, m4, m5, m6, m7, m8, m9, m10, m11, m12, m13, m14, m15, m16, m17, m18, m19, m20, m21⟩ := bx_cells HB4.out
  clear hb4 HB3
  go_upto_region 3 with (fail)
  go_cut [43] (fun t wx => t = .bool (GO v a b) ∧ Hid (BX w v la lc fa fc a paa pac oaa oac oba obc b qaa qac raa rac rba rbc wx))
  case first =>
    clear m0 m1 m2 m3 m4 m5 m6 m7 m8 m9 m10 m11 m12 m13 m14 m15 m16 m17 m18 m19 m20 m21
    have hfw := few_any v _ _ w4.drew HB4.out.2.2.2.2.1
    cases hc0 : v.few 0 with
    | false =>
      rw [hc0] at hfw
      have HFW := Lib.hid hfw
      clear hfw
      have hG : GO v a b = true := by unfold GO; rw [hc0]; rfl
      have hS4 : w4.drew.cell? ⟨w.heap.size, 0, none⟩ = some (.int .i64 v.kind) ∧ w4.drew.cell? ⟨w.heap.size, 1, none⟩ = some (.bool v.yes) ∧ w4.drew.cell? ⟨w.heap.size, 2, none⟩ = some (.int .i64 v.num) ∧ w4.drew.cell? ⟨w.heap.size, 3, none⟩ = some (.string v.text) ∧ w4.drew.cell? ⟨w.heap.size, 4, none⟩ = some (.slice la v.list.length lc) ∧ w4.drew.cell? ⟨w.heap.size, 5, none⟩ = some (.slice fa v.fields.length fc) ∧ w4.drew.cell? ⟨w.heap.size + 1, 0, none⟩ = some (.int .i64 a.kind) ∧ w4.drew.cell? ⟨w.heap.size + 1, 1, none⟩ = some (.slice paa a.path.length pac) ∧ w4.drew.cell? ⟨w.heap.size + 1, 2, none⟩ = some (.int .i64 a.val.kind) ∧ w4.drew.cell? ⟨w.heap.size + 1, 3, none⟩ = some (.bool a.val.yes) ∧ w4.drew.cell? ⟨w.heap.size + 1, 4, none⟩ = some (.int .i64 a.val.num) ∧ w4.drew.cell? ⟨w.heap.size + 1, 5, none⟩ = some (.string a.val.text) ∧ w4.drew.cell? ⟨w.heap.size + 1, 6, none⟩ = some (.slice oaa a.val.list.length oac) ∧ w4.drew.cell? ⟨w.heap.size + 1, 7, none⟩ = some (.slice oba a.val.fields.length obc) ∧ w4.drew.cell? ⟨w.heap.size + 2, 0, none⟩ = some (.int .i64 b.kind) ∧ w4.drew.cell? ⟨w.heap.size + 2, 1, none⟩ = some (.slice qaa b.path.length qac) ∧ w4.drew.cell? ⟨w.heap.size + 2, 2, none⟩ = some (.int .i64 b.val.kind) ∧ w4.drew.cell? ⟨w.heap.size + 2, 3, none⟩ = some (.bool b.val.yes) ∧ w4.drew.cell? ⟨w.heap.size + 2, 4, none⟩ = some (.int .i64 b.val.num) ∧ w4.drew.cell? ⟨w.heap.size + 2, 5, none⟩ = some (.string b.val.text) ∧ w4.drew.cell? ⟨w.heap.size + 2, 6, none⟩ = some (.slice raa b.val.list.length rac) ∧ w4.drew.cell? ⟨w.heap.size + 2, 7, none⟩ = some (.slice rba b.val.fields.length rbc) := bx_cells HB4.out
      refine wp_region_held_drew (S := fun w' => w'.cell? ⟨w.heap.size, 0, none⟩ = some (.int .i64 v.kind) ∧ w'.cell? ⟨w.heap.size, 1, none⟩ = some (.bool v.yes) ∧ w'.cell? ⟨w.heap.size, 2, none⟩ = some (.int .i64 v.num) ∧ w'.cell? ⟨w.heap.size, 3, none⟩ = some (.string v.text) ∧ w'.cell? ⟨w.heap.size, 4, none⟩ = some (.slice la v.list.length lc) ∧ w'.cell? ⟨w.heap.size, 5, none⟩ = some (.slice fa v.fields.length fc) ∧ w'.cell? ⟨w.heap.size + 1, 0, none⟩ = some (.int .i64 a.kind) ∧ w'.cell? ⟨w.heap.size + 1, 1, none⟩ = some (.slice paa a.path.length pac) ∧ w'.cell? ⟨w.heap.size + 1, 2, none⟩ = some (.int .i64 a.val.kind) ∧ w'.cell? ⟨w.heap.size + 1, 3, none⟩ = some (.bool a.val.yes) ∧ w'.cell? ⟨w.heap.size + 1, 4, none⟩ = some (.int .i64 a.val.num) ∧ w'.cell? ⟨w.heap.size + 1, 5, none⟩ = some (.string a.val.text) ∧ w'.cell? ⟨w.heap.size + 1, 6, none⟩ = some (.slice oaa a.val.list.length oac) ∧ w'.cell? ⟨w.heap.size + 1, 7, none⟩ = some (.slice oba a.val.fields.length obc) ∧ w'.cell? ⟨w.heap.size + 2, 0, none⟩ = some (.int .i64 b.kind) ∧ w'.cell? ⟨w.heap.size + 2, 1, none⟩ = some (.slice qaa b.path.length qac) ∧ w'.cell? ⟨w.heap.size + 2, 2, none⟩ = some (.int .i64 b.val.kind) ∧ w'.cell? ⟨w.heap.size + 2, 3, none⟩ = some (.bool b.val.yes) ∧ w'.cell? ⟨w.heap.size + 2, 4, none⟩ = some (.int .i64 b.val.num) ∧ w'.cell? ⟨w.heap.size + 2, 5, none⟩ = some (.string b.val.text) ∧ w'.cell? ⟨w.heap.size + 2, 6, none⟩ = some (.slice raa b.val.list.length rac) ∧ w'.cell? ⟨w.heap.size + 2, 7, none⟩ = some (.slice rba b.val.fields.length rbc)) (by kernel_rfl) (by with_reducible exact hS4) (fun hHeld => ?_)
      refine wpAnyH_take (i := 0) (oi := _) (v := ?_) rfl (by kernel_rfl) (by kernel_rfl) (by kernel_rfl) (fun _ _ _ h => h) (Or.inl ⟨by rfl, ?_⟩) (by assumption) ?_
      rotate_left
      · (intro w' hSw; (try dsimp only at hSw); go_simp; all_goals with_reducible rfl)
      try simp only [Act.put, List.getElem_toArray, List.getElem_cons_zero, List.setIfInBounds_toArray, List.set_cons_zero, List.set_cons_succ]
      refine wpAnyH_ready (rs := [1]) (by kernel_rfl) (by simp) ?_
      refine AllReadyH.cons rfl (fun K hK => ?_) AllReadyH.nil
      go_simp
      go_at_call 11
      with_reducible refine HFW.out.mono ?_
      rintro e w5 ⟨rfl, hbb⟩
      have HB5 := Lib.hid (HB4.out.below hbb)
      have hS5 := bx_cells HB5.out
      clear hbb
      refine hK.out _ _ (by with_reducible exact hS5) (fun hHeld => ?_)
      clear hK K
      try simp only [Act.put, List.getElem_toArray, List.getElem_cons_zero, List.getElem_cons_succ, List.setIfInBounds_toArray, List.set_cons_zero, List.set_cons_succ]
      refine wpAnyH_take (i := 2) (oi := _) (v := ?_) rfl (by kernel_rfl) (by kernel_rfl) (by kernel_rfl) (fun _ _ _ h => h) (Or.inl ⟨by rfl, ?_⟩) (by assumption) ?_
      rotate_left
      · (intro w' hSw; (try dsimp only at hSw); go_simp; all_goals with_reducible rfl)
      try simp only [Act.put, List.getElem_toArray, List.getElem_cons_zero, List.getElem_cons_succ, List.setIfInBounds_toArray, List.set_cons_zero, List.set_cons_succ]
      refine wpAnyH_take (i := 3) (oi := _) (v := ?_) rfl (by kernel_rfl) (by kernel_rfl) (by kernel_rfl) (fun _ _ _ h => h) (Or.inl ⟨by rfl, ?_⟩) (by assumption) ?_
      rotate_left
      · (intro w' hSw; (try dsimp only at hSw); go_simp; all_goals with_reducible rfl)
      try simp only [Act.put, List.getElem_toArray, List.getElem_cons_zero, List.getElem_cons_succ, List.setIfInBounds_toArray, List.set_cons_zero, List.set_cons_succ]
      refine wpAnyH_take (i := 4) (oi := _) (v := undef) rfl (by kernel_rfl) (by kernel_rfl) (by kernel_rfl) (fun _ _ _ h => h) (Or.inr ⟨by rfl, rfl⟩) (by assumption) ?_
      try simp only [Act.put, List.getElem_toArray, List.getElem_cons_zero, List.getElem_cons_succ, List.setIfInBounds_toArray, List.set_cons_zero, List.set_cons_succ]
      refine wpAnyH_take (i := 5) (oi := _) (v := undef) rfl (by kernel_rfl) (by kernel_rfl) (by kernel_rfl) (fun _ _ _ h => h) (Or.inr ⟨by rfl, rfl⟩) (by assumption) ?_
      try simp only [Act.put, List.getElem_toArray, List.getElem_cons_zero, List.getElem_cons_succ, List.setIfInBounds_toArray, List.set_cons_zero, List.set_cons_succ]
      refine wpAnyH_take (i := 6) (oi := _) (v := undef) rfl (by kernel_rfl) (by kernel_rfl) (by kernel_rfl) (fun _ _ _ h => h) (Or.inr ⟨by rfl, rfl⟩) (by assumption) ?_
      try simp only [Act.put, List.getElem_toArray, List.getElem_cons_zero, List.getElem_cons_succ, List.setIfInBounds_toArray, List.set_cons_zero, List.set_cons_succ]
      refine wpAnyH_take (i := 7) (oi := _) (v := undef) rfl (by kernel_rfl) (by kernel_rfl) (by kernel_rfl) (fun _ _ _ h => h) (Or.inr ⟨by rfl, rfl⟩) (by assumption) ?_
      try simp only [Act.put, List.getElem_toArray, List.getElem_cons_zero, List.getElem_cons_succ, List.setIfInBounds_toArray, List.set_cons_zero, List.set_cons_succ]
      refine wpAnyH_take (i := 8) (oi := _) (v := undef) rfl (by kernel_rfl) (by kernel_rfl) (by kernel_rfl) (fun _ _ _ h => h) (Or.inr ⟨by rfl, rfl⟩) (by assumption) ?_
      try simp only [Act.put, List.getElem_toArray, List.getElem_cons_zero, List.getElem_cons_succ, List.setIfInBounds_toArray, List.set_cons_zero, List.set_cons_succ]
      refine wpAnyH_take (i := 9) (oi := _) (v := ?_) rfl (by kernel_rfl) (by kernel_rfl) (by kernel_rfl) (fun _ _ _ h => h) (Or.inl ⟨by rfl, ?_⟩) (by assumption) ?_
      rotate_left
      · (intro w' hSw; (try dsimp only at hSw); go_simp; all_goals with_reducible rfl)
      try simp only [Act.put, List.getElem_toArray, List.getElem_cons_zero, List.getElem_cons_succ, List.setIfInBounds_toArray, List.set_cons_zero, List.set_cons_succ]
      refine wpAnyH_take (i := 10) (oi := _) (v := ?_) rfl (by kernel_rfl) (by kernel_rfl) (by kernel_rfl) (fun _ _ _ h => h) (Or.inl ⟨by rfl, ?_⟩) (by assumption) ?_
      rotate_left
      · (intro w' hSw; (try dsimp only at hSw); go_simp; all_goals with_reducible rfl)
      try simp only [Act.put, List.getElem_toArray, List.getElem_cons_zero, List.getElem_cons_succ, List.setIfInBounds_toArray, List.set_cons_zero, List.set_cons_succ]
      refine wpAnyH_take (i := 11) (oi := _) (v := undef) rfl (by kernel_rfl) (by kernel_rfl) (by kernel_rfl) (fun _ _ _ h => h) (Or.inr ⟨by rfl, rfl⟩) (by assumption) ?_
      try simp only [Act.put, List.getElem_toArray, List.getElem_cons_zero, List.getElem_cons_succ, List.setIfInBounds_toArray, List.set_cons_zero, List.set_cons_succ]
      refine wpAnyH_take (i := 12) (oi := _) (v := undef) rfl (by kernel_rfl) (by kernel_rfl) (by kernel_rfl) (fun _ _ _ h => h) (Or.inr ⟨by rfl, rfl⟩) (by assumption) ?_
      try simp only [Act.put, List.getElem_toArray, List.getElem_cons_zero, List.getElem_cons_succ, List.setIfInBounds_toArray, List.set_cons_zero, List.set_cons_succ]
      refine wpAnyH_take (i := 13) (oi := _) (v := undef) rfl (by kernel_rfl) (by kernel_rfl) (by kernel_rfl) (fun _ _ _ h => h) (Or.inr ⟨by rfl, rfl⟩) (by assumption) ?_
      try simp only [Act.put, List.getElem_toArray, List.getElem_cons_zero, List.getElem_cons_succ, List.setIfInBounds_toArray, List.set_cons_zero, List.set_cons_succ]
      refine wpAnyH_take (i := 14) (oi := _) (v := ?_) rfl (by kernel_rfl) (by kernel_rfl) (by kernel_rfl) (fun _ _ _ h => h) (Or.inl ⟨by rfl, ?_⟩) (by assumption) ?_
      rotate_left
      · (intro w' hSw; (try dsimp only at hSw); go_simp; all_goals with_reducible rfl)
      try simp only [Act.put, List.getElem_toArray, List.getElem_cons_zero, List.getElem_cons_succ, List.setIfInBounds_toArray, List.set_cons_zero, List.set_cons_succ]
      refine wpAnyH_take (i := 15) (oi := _) (v := ?_) rfl (by kernel_rfl) (by kernel_rfl) (by kernel_rfl) (fun _ _ _ h => h) (Or.inl ⟨by rfl, ?_⟩) (by assumption) ?_
      rotate_left
      · (intro w' hSw; (try dsimp only at hSw); go_simp; all_goals with_reducible rfl)
      try simp only [Act.put, List.getElem_toArray, List.getElem_cons_zero, List.getElem_cons_succ, List.setIfInBounds_toArray, List.set_cons_zero, List.set_cons_succ]
      refine wpAnyH_take (i := 16) (oi := _) (v := undef) rfl (by kernel_rfl) (by kernel_rfl) (by kernel_rfl) (fun _ _ _ h => h) (Or.inr ⟨by rfl, rfl⟩) (by assumption) ?_
      try simp only [Act.put, List.getElem_toArray, List.getElem_cons_zero, List.getElem_cons_succ, List.setIfInBounds_toArray, List.set_cons_zero, List.set_cons_succ]
      refine wpAnyH_take (i := 17) (oi := _) (v := undef) rfl (by kernel_rfl) (by kernel_rfl) (by kernel_rfl) (fun _ _ _ h => h) (Or.inr ⟨by rfl, rfl⟩) (by assumption) ?_
      try simp only [Act.put, List.getElem_toArray, List.getElem_cons_zero, List.getElem_cons_succ, List.setIfInBounds_toArray, List.set_cons_zero, List.set_cons_succ]
      refine wpAnyH_take (i := 18) (oi := _) (v := undef) rfl (by kernel_rfl) (by kernel_rfl) (by kernel_rfl) (fun _ _ _ h => h) (Or.inr ⟨by rfl, rfl⟩) (by assumption) ?_
      try simp only [Act.put, List.getElem_toArray, List.getElem_cons_zero, List.getElem_cons_succ, List.setIfInBounds_toArray, List.set_cons_zero, List.set_cons_succ]
      refine wpAnyH_take (i := 19) (oi := _) (v := ?_) rfl (by kernel_rfl) (by kernel_rfl) (by kernel_rfl) (fun _ _ _ h => h) (Or.inl ⟨by rfl, ?_⟩) (by assumption) ?_
      rotate_left
      · (intro w' hSw; (try dsimp only at hSw); go_simp; all_goals with_reducible rfl)
      try simp only [Act.put, List.getElem_toArray, List.getElem_cons_zero, List.getElem_cons_succ, List.setIfInBounds_toArray, List.set_cons_zero, List.set_cons_succ]
      refine wpAnyH_take (i := 20) (oi := _) (v := ?_) rfl (by kernel_rfl) (by kernel_rfl) (by kernel_rfl) (fun _ _ _ h => h) (Or.inl ⟨by rfl, ?_⟩) (by assumption) ?_
      rotate_left
      · (intro w' hSw; (try dsimp only at hSw); go_simp; all_goals with_reducible rfl)
      try simp only [Act.put, List.getElem_toArray, List.getElem_cons_zero, List.getElem_cons_succ, List.setIfInBounds_toArray, List.set_cons_zero, List.set_cons_succ]
      refine wpAnyH_take (i := 21) (oi := _) (v := undef) rfl (by kernel_rfl) (by kernel_rfl) (by kernel_rfl) (fun _ _ _ h => h) (Or.inr ⟨by rfl, rfl⟩) (by assumption) ?_
      try simp only [Act.put, List.getElem_toArray, List.getElem_cons_zero, List.getElem_cons_succ, List.setIfInBounds_toArray, List.set_cons_zero, List.set_cons_succ]
      refine wpAnyH_take (i := 22) (oi := _) (v := undef) rfl (by kernel_rfl) (by kernel_rfl) (by kernel_rfl) (fun _ _ _ h => h) (Or.inr ⟨by rfl, rfl⟩) (by assumption) ?_
      try simp only [Act.put, List.getElem_toArray, List.getElem_cons_zero, List.getElem_cons_succ, List.setIfInBounds_toArray, List.set_cons_zero, List.set_cons_succ]
      refine wpAnyH_take (i := 23) (oi := _) (v := undef) rfl (by kernel_rfl) (by kernel_rfl) (by kernel_rfl) (fun _ _ _ h => h) (Or.inr ⟨by rfl, rfl⟩) (by assumption) ?_
      try simp only [Act.put, List.getElem_toArray, List.getElem_cons_zero, List.getElem_cons_succ, List.setIfInBounds_toArray, List.set_cons_zero, List.set_cons_succ]
      refine wpAnyH_take (i := 24) (oi := _) (v := undef) rfl (by kernel_rfl) (by kernel_rfl) (by kernel_rfl) (fun _ _ _ h => h) (Or.inr ⟨by rfl, rfl⟩) (by assumption) ?_
      try simp only [Act.put, List.getElem_toArray, List.getElem_cons_zero, List.getElem_cons_succ, List.setIfInBounds_toArray, List.set_cons_zero, List.set_cons_succ]
      refine wpAnyH_take (i := 25) (oi := _) (v := undef) rfl (by kernel_rfl) (by kernel_rfl) (by kernel_rfl) (fun _ _ _ h => h) (Or.inr ⟨by rfl, rfl⟩) (by assumption) ?_
      try simp only [Act.put, List.getElem_toArray, List.getElem_cons_zero, List.getElem_cons_succ, List.setIfInBounds_toArray, List.set_cons_zero, List.set_cons_succ]
      refine wpAnyH_take (i := 26) (oi := _) (v := undef) rfl (by kernel_rfl) (by kernel_rfl) (by kernel_rfl) (fun _ _ _ h => h) (Or.inr ⟨by rfl, rfl⟩) (by assumption) ?_
      try simp only [Act.put, List.getElem_toArray, List.getElem_cons_zero, List.getElem_cons_succ, List.setIfInBounds_toArray, List.set_cons_zero, List.set_cons_succ]
      refine wpAnyH_take (i := 27) (oi := _) (v := undef) rfl (by kernel_rfl) (by kernel_rfl) (by kernel_rfl) (fun _ _ _ h => h) (Or.inr ⟨by rfl, rfl⟩) (by assumption) ?_
      try simp only [Act.put, List.getElem_toArray, List.getElem_cons_zero, List.getElem_cons_succ, List.setIfInBounds_toArray, List.set_cons_zero, List.set_cons_succ]
      refine wpAnyH_take (i := 28) (oi := _) (v := undef) rfl (by kernel_rfl) (by kernel_rfl) (by kernel_rfl) (fun _ _ _ h => h) (Or.inr ⟨by rfl, rfl⟩) (by assumption) ?_
      try simp only [Act.put, List.getElem_toArray, List.getElem_cons_zero, List.getElem_cons_succ, List.setIfInBounds_toArray, List.set_cons_zero, List.set_cons_succ]
      refine wpAnyH_take (i := 29) (oi := _) (v := undef) rfl (by kernel_rfl) (by kernel_rfl) (by kernel_rfl) (fun _ _ _ h => h) (Or.inr ⟨by rfl, rfl⟩) (by assumption) ?_
      try simp only [Act.put, List.getElem_toArray, List.getElem_cons_zero, List.getElem_cons_succ, List.setIfInBounds_toArray, List.set_cons_zero, List.set_cons_succ]
      refine wpAnyH_take (i := 30) (oi := _) (v := ?_) rfl (by kernel_rfl) (by kernel_rfl) (by kernel_rfl) (fun _ _ _ h => h) (Or.inl ⟨by rfl, ?_⟩) (by assumption) ?_
      rotate_left
      · (intro w' hSw; (try dsimp only at hSw); go_simp; all_goals with_reducible rfl)
      try simp only [Act.put, List.getElem_toArray, List.getElem_cons_zero, List.getElem_cons_succ, List.setIfInBounds_toArray, List.set_cons_zero, List.set_cons_succ]
      refine wpAnyH_done (by kernel_rfl) ?_ _
      go_wp2_with fail
      go_meet
      exact ⟨by rw [hG], HB5⟩
    | true =>
      rw [hc0] at hfw
      have HFW := Lib.hid hfw
      clear hfw
      cases hc1 : fewOs [a, b] with
      | false =>
        have hG : GO v a b = true := by unfold GO; rw [hc0, hc1]; rfl
        have hS4 : w4.drew.cell? ⟨w.heap.size, 0, none⟩ = some (.int .i64 v.kind) ∧ w4.drew.cell? ⟨w.heap.size, 1, none⟩ = some (.bool v.yes) ∧ w4.drew.cell? ⟨w.heap.size, 2, none⟩ = some (.int .i64 v.num) ∧ w4.drew.cell? ⟨w.heap.size, 3, none⟩ = some (.string v.text) ∧ w4.drew.cell? ⟨w.heap.size, 4, none⟩ = some (.slice la v.list.length lc) ∧ w4.drew.cell? ⟨w.heap.size, 5, none⟩ = some (.slice fa v.fields.length fc) ∧ w4.drew.cell? ⟨w.heap.size + 1, 0, none⟩ = some (.int .i64 a.kind) ∧ w4.drew.cell? ⟨w.heap.size + 1, 1, none⟩ = some (.slice paa a.path.length pac) ∧ w4.drew.cell? ⟨w.heap.size + 1, 2, none⟩ = some (.int .i64 a.val.kind) ∧ w4.drew.cell? ⟨w.heap.size + 1, 3, none⟩ = some (.bool a.val.yes) ∧ w4.drew.cell? ⟨w.heap.size + 1, 4, none⟩ = some (.int .i64 a.val.num) ∧ w4.drew.cell? ⟨w.heap.size + 1, 5, none⟩ = some (.string a.val.text) ∧ w4.drew.cell? ⟨w.heap.size + 1, 6, none⟩ = some (.slice oaa a.val.list.length oac) ∧ w4.drew.cell? ⟨w.heap.size + 1, 7, none⟩ = some (.slice oba a.val.fields.length obc) ∧ w4.drew.cell? ⟨w.heap.size + 2, 0, none⟩ = some (.int .i64 b.kind) ∧ w4.drew.cell? ⟨w.heap.size + 2, 1, none⟩ = some (.slice qaa b.path.length qac) ∧ w4.drew.cell? ⟨w.heap.size + 2, 2, none⟩ = some (.int .i64 b.val.kind) ∧ w4.drew.cell? ⟨w.heap.size + 2, 3, none⟩ = some (.bool b.val.yes) ∧ w4.drew.cell? ⟨w.heap.size + 2, 4, none⟩ = some (.int .i64 b.val.num) ∧ w4.drew.cell? ⟨w.heap.size + 2, 5, none⟩ = some (.string b.val.text) ∧ w4.drew.cell? ⟨w.heap.size + 2, 6, none⟩ = some (.slice raa b.val.list.length rac) ∧ w4.drew.cell? ⟨w.heap.size + 2, 7, none⟩ = some (.slice rba b.val.fields.length rbc) := bx_cells HB4.out
        refine wp_region_held_drew (S := fun w' => w'.cell? ⟨w.heap.size, 0, none⟩ = some (.int .i64 v.kind) ∧ w'.cell? ⟨w.heap.size, 1, none⟩ = some (.bool v.yes) ∧ w'.cell? ⟨w.heap.size, 2, none⟩ = some (.int .i64 v.num) ∧ w'.cell? ⟨w.heap.size, 3, none⟩ = some (.string v.text) ∧ w'.cell? ⟨w.heap.size, 4, none⟩ = some (.slice la v.list.length lc) ∧ w'.cell? ⟨w.heap.size, 5, none⟩ = some (.slice fa v.fields.length fc) ∧ w'.cell? ⟨w.heap.size + 1, 0, none⟩ = some (.int .i64 a.kind) ∧ w'.cell? ⟨w.heap.size + 1, 1, none⟩ = some (.slice paa a.path.length pac) ∧ w'.cell? ⟨w.heap.size + 1, 2, none⟩ = some (.int .i64 a.val.kind) ∧ w'.cell? ⟨w.heap.size + 1, 3, none⟩ = some (.bool a.val.yes) ∧ w'.cell? ⟨w.heap.size + 1, 4, none⟩ = some (.int .i64 a.val.num) ∧ w'.cell? ⟨w.heap.size + 1, 5, none⟩ = some (.string a.val.text) ∧ w'.cell? ⟨w.heap.size + 1, 6, none⟩ = some (.slice oaa a.val.list.length oac) ∧ w'.cell? ⟨w.heap.size + 1, 7, none⟩ = some (.slice oba a.val.fields.length obc) ∧ w'.cell? ⟨w.heap.size + 2, 0, none⟩ = some (.int .i64 b.kind) ∧ w'.cell? ⟨w.heap.size + 2, 1, none⟩ = some (.slice qaa b.path.length qac) ∧ w'.cell? ⟨w.heap.size + 2, 2, none⟩ = some (.int .i64 b.val.kind) ∧ w'.cell? ⟨w.heap.size + 2, 3, none⟩ = some (.bool b.val.yes) ∧ w'.cell? ⟨w.heap.size + 2, 4, none⟩ = some (.int .i64 b.val.num) ∧ w'.cell? ⟨w.heap.size + 2, 5, none⟩ = some (.string b.val.text) ∧ w'.cell? ⟨w.heap.size + 2, 6, none⟩ = some (.slice raa b.val.list.length rac) ∧ w'.cell? ⟨w.heap.size + 2, 7, none⟩ = some (.slice rba b.val.fields.length rbc)) (by kernel_rfl) (by with_reducible exact hS4) (fun hHeld => ?_)
        refine wpAnyH_take (i := 0) (oi := _) (v := ?_) rfl (by kernel_rfl) (by kernel_rfl) (by kernel_rfl) (fun _ _ _ h => h) (Or.inl ⟨by rfl, ?_⟩) (by assumption) ?_
        rotate_left
        · (intro w' hSw; (try dsimp only at hSw); go_simp; all_goals with_reducible rfl)
        try simp only [Act.put, List.getElem_toArray, List.getElem_cons_zero, List.setIfInBounds_toArray, List.set_cons_zero, List.set_cons_succ]
        refine wpAnyH_ready (rs := [1]) (by kernel_rfl) (by simp) ?_
        refine AllReadyH.cons rfl (fun K hK => ?_) AllReadyH.nil
        go_simp
        go_at_call 11
        with_reducible refine HFW.out.mono ?_
        rintro e w5 ⟨rfl, hbb⟩
        have HB5 := Lib.hid (HB4.out.below hbb)
        have hS5 := bx_cells HB5.out
        clear hbb
        have HBA := Lib.hid (HB5.out.below ((Below.refl _ w5).alloc (Nat.le_refl _) (.cells #[.int .i64 a.kind, .slice paa a.path.length pac, .int .i64 a.val.kind, .bool a.val.yes, .int .i64 a.val.num, .string a.val.text, .slice oaa a.val.list.length oac, .slice oba a.val.fields.length obc, .int .i64 b.kind, .slice qaa b.path.length qac, .int .i64 b.val.kind, .bool b.val.yes, .int .i64 b.val.num, .string b.val.text, .slice raa b.val.list.length rac, .slice rba b.val.fields.length rbc] 50)))
        have hSA := bx_cells HBA.out
        have hc2 : Calls Try.prog 18 #[.slice (some ⟨w5.heap.size, 0, none⟩) 2 2] (w5.alloc (.cells #[.int .i64 a.kind, .slice paa a.path.length pac, .int .i64 a.val.kind, .bool a.val.yes, .int .i64 a.val.num, .string a.val.text, .slice oaa a.val.list.length oac, .slice oba a.val.fields.length obc, .int .i64 b.kind, .slice qaa b.path.length qac, .int .i64 b.val.kind, .bool b.val.yes, .int .i64 b.val.num, .string b.val.text, .slice raa b.val.list.length rac, .slice rba b.val.fields.length rbc] 50)) (fun e w' => e = .returned (.bool (fewOs [a, b])) ∧ Below (w5.alloc (.cells #[.int .i64 a.kind, .slice paa a.path.length pac, .int .i64 a.val.kind, .bool a.val.yes, .int .i64 a.val.num, .string a.val.text, .slice oaa a.val.list.length oac, .slice oba a.val.fields.length obc, .int .i64 b.kind, .slice qaa b.path.length qac, .int .i64 b.val.kind, .bool b.val.yes, .int .i64 b.val.num, .string b.val.text, .slice raa b.val.list.length rac, .slice rba b.val.fields.length rbc] 50)).heap.size (w5.alloc (.cells #[.int .i64 a.kind, .slice paa a.path.length pac, .int .i64 a.val.kind, .bool a.val.yes, .int .i64 a.val.num, .string a.val.text, .slice oaa a.val.list.length oac, .slice oba a.val.fields.length obc, .int .i64 b.kind, .slice qaa b.path.length qac, .int .i64 b.val.kind, .bool b.val.yes, .int .i64 b.val.num, .string b.val.text, .slice raa b.val.list.length rac, .slice rba b.val.fields.length rbc] 50)) w') := pfew_any [a, b] (some ⟨w5.heap.size, 0, none⟩) 2 _ (pair_ops (Box.new w5 _ _) HBA.out.2.2.2.2.2.1 HBA.out.2.2.2.2.2.2) (by show 2 ≤ _; omega)
        rw [hc1] at hc2
        have HC2 := Lib.hid hc2
        clear hc2
        refine hK.out _ _ (by with_reducible exact hS5) (fun hHeld => ?_)
        clear hK K
        try simp only [Act.put, List.getElem_toArray, List.getElem_cons_zero, List.getElem_cons_succ, List.setIfInBounds_toArray, List.set_cons_zero, List.set_cons_succ]
        refine wpAnyH_take (i := 2) (oi := _) (v := ?_) rfl (by kernel_rfl) (by kernel_rfl) (by kernel_rfl) (fun _ _ _ h => h) (Or.inl ⟨by rfl, ?_⟩) (by assumption) ?_
        rotate_left
        · (intro w' hSw; (try dsimp only at hSw); go_simp; all_goals with_reducible rfl)
        try simp only [Act.put, List.getElem_toArray, List.getElem_cons_zero, List.getElem_cons_succ, List.setIfInBounds_toArray, List.set_cons_zero, List.set_cons_succ]
        refine wpAnyH_take (i := 3) (oi := _) (v := ?_) rfl (by kernel_rfl) (by kernel_rfl) (by kernel_rfl) (fun _ _ _ h => h) (Or.inl ⟨by rfl, ?_⟩) (by assumption) ?_
        rotate_left
        · (intro w' hSw; (try dsimp only at hSw); go_simp; all_goals with_reducible rfl)
        try simp only [Act.put, List.getElem_toArray, List.getElem_cons_zero, List.getElem_cons_succ, List.setIfInBounds_toArray, List.set_cons_zero, List.set_cons_succ]
        refine wpAnyH_take (i := 4) (oi := _) (v := ?_) rfl (by kernel_rfl) (by kernel_rfl) (by kernel_rfl) (fun _ _ _ h => h) (Or.inl ⟨by rfl, ?_⟩) (by assumption) ?_
        rotate_left
        · (intro w' hSw; (try dsimp only at hSw); go_simp; all_goals with_reducible rfl)
        try simp only [Act.put, List.getElem_toArray, List.getElem_cons_zero, List.getElem_cons_succ, List.setIfInBounds_toArray, List.set_cons_zero, List.set_cons_succ]
        refine wpAnyH_take (i := 5) (oi := _) (v := ?_) rfl (by kernel_rfl) (by kernel_rfl) (by kernel_rfl) (fun _ _ _ h => h) (Or.inl ⟨by rfl, ?_⟩) (by assumption) ?_
        rotate_left
        · (intro w' hSw; (try dsimp only at hSw); go_simp; all_goals with_reducible rfl)
        try simp only [Act.put, List.getElem_toArray, List.getElem_cons_zero, List.getElem_cons_succ, List.setIfInBounds_toArray, List.set_cons_zero, List.set_cons_succ]
        refine wpAnyH_ready (rs := [6]) (by kernel_rfl) (by simp) ?_
        refine AllReadyH.cons rfl (fun K hK => ?_) AllReadyH.nil
        go_simp
        refine hK.out _ _ (by with_reducible exact hSA) (fun hHeld => ?_)
        clear hK K
        try simp only [Act.put, List.getElem_toArray, List.getElem_cons_zero, List.getElem_cons_succ, List.setIfInBounds_toArray, List.set_cons_zero, List.set_cons_succ]
        refine wpAnyH_ready (rs := [7]) (by kernel_rfl) (by simp) ?_
        refine AllReadyH.cons rfl (fun K hK => ?_) AllReadyH.nil
        go_simp
        go_at_call 18
        with_reducible refine HC2.out.mono ?_
        rintro e w6 ⟨rfl, hbb⟩
        have HB6 := Lib.hid (HBA.out.below hbb)
        have hS6 := bx_cells HB6.out
        clear hbb
        refine hK.out _ _ (by with_reducible exact hS6) (fun hHeld => ?_)
        clear hK K
        try simp only [Act.put, List.getElem_toArray, List.getElem_cons_zero, List.getElem_cons_succ, List.setIfInBounds_toArray, List.set_cons_zero, List.set_cons_succ]
        refine wpAnyH_take (i := 8) (oi := _) (v := ?_) rfl (by kernel_rfl) (by kernel_rfl) (by kernel_rfl) (fun _ _ _ h => h) (Or.inl ⟨by rfl, ?_⟩) (by assumption) ?_
        rotate_left
        · (intro w' hSw; (try dsimp only at hSw); go_simp; all_goals with_reducible rfl)
        try simp only [Act.put, List.getElem_toArray, List.getElem_cons_zero, List.getElem_cons_succ, List.setIfInBounds_toArray, List.set_cons_zero, List.set_cons_succ]
        refine wpAnyH_take (i := 9) (oi := _) (v := ?_) rfl (by kernel_rfl) (by kernel_rfl) (by kernel_rfl) (fun _ _ _ h => h) (Or.inl ⟨by rfl, ?_⟩) (by assumption) ?_
        rotate_left
        · (intro w' hSw; (try dsimp only at hSw); go_simp; all_goals with_reducible rfl)
        try simp only [Act.put, List.getElem_toArray, List.getElem_cons_zero, List.getElem_cons_succ, List.setIfInBounds_toArray, List.set_cons_zero, List.set_cons_succ]
        refine wpAnyH_take (i := 10) (oi := _) (v := ?_) rfl (by kernel_rfl) (by kernel_rfl) (by kernel_rfl) (fun _ _ _ h => h) (Or.inl ⟨by rfl, ?_⟩) (by assumption) ?_
        rotate_left
        · (intro w' hSw; (try dsimp only at hSw); go_simp; all_goals with_reducible rfl)
        try simp only [Act.put, List.getElem_toArray, List.getElem_cons_zero, List.getElem_cons_succ, List.setIfInBounds_toArray, List.set_cons_zero, List.set_cons_succ]
        refine wpAnyH_take (i := 11) (oi := _) (v := undef) rfl (by kernel_rfl) (by kernel_rfl) (by kernel_rfl) (fun _ _ _ h => h) (Or.inr ⟨by rfl, rfl⟩) (by assumption) ?_
        try simp only [Act.put, List.getElem_toArray, List.getElem_cons_zero, List.getElem_cons_succ, List.setIfInBounds_toArray, List.set_cons_zero, List.set_cons_succ]
        refine wpAnyH_take (i := 12) (oi := _) (v := undef) rfl (by kernel_rfl) (by kernel_rfl) (by kernel_rfl) (fun _ _ _ h => h) (Or.inr ⟨by rfl, rfl⟩) (by assumption) ?_
        try simp only [Act.put, List.getElem_toArray, List.getElem_cons_zero, List.getElem_cons_succ, List.setIfInBounds_toArray, List.set_cons_zero, List.set_cons_succ]
        refine wpAnyH_take (i := 13) (oi := _) (v := undef) rfl (by kernel_rfl) (by kernel_rfl) (by kernel_rfl) (fun _ _ _ h => h) (Or.inr ⟨by rfl, rfl⟩) (by assumption) ?_
        try simp only [Act.put, List.getElem_toArray, List.getElem_cons_zero, List.getElem_cons_succ, List.setIfInBounds_toArray, List.set_cons_zero, List.set_cons_succ]
        refine wpAnyH_take (i := 14) (oi := _) (v := ?_) rfl (by kernel_rfl) (by kernel_rfl) (by kernel_rfl) (fun _ _ _ h => h) (Or.inl ⟨by rfl, ?_⟩) (by assumption) ?_
        rotate_left
        · (intro w' hSw; (try dsimp only at hSw); go_simp; all_goals with_reducible rfl)
        try simp only [Act.put, List.getElem_toArray, List.getElem_cons_zero, List.getElem_cons_succ, List.setIfInBounds_toArray, List.set_cons_zero, List.set_cons_succ]
        refine wpAnyH_take (i := 15) (oi := _) (v := ?_) rfl (by kernel_rfl) (by kernel_rfl) (by kernel_rfl) (fun _ _ _ h => h) (Or.inl ⟨by rfl, ?_⟩) (by assumption) ?_
        rotate_left
        · (intro w' hSw; (try dsimp only at hSw); go_simp; all_goals with_reducible rfl)
        try simp only [Act.put, List.getElem_toArray, List.getElem_cons_zero, List.getElem_cons_succ, List.setIfInBounds_toArray, List.set_cons_zero, List.set_cons_succ]
        refine wpAnyH_take (i := 16) (oi := _) (v := undef) rfl (by kernel_rfl) (by kernel_rfl) (by kernel_rfl) (fun _ _ _ h => h) (Or.inr ⟨by rfl, rfl⟩) (by assumption) ?_
        try simp only [Act.put, List.getElem_toArray, List.getElem_cons_zero, List.getElem_cons_succ, List.setIfInBounds_toArray, List.set_cons_zero, List.set_cons_succ]
        refine wpAnyH_take (i := 17) (oi := _) (v := undef) rfl (by kernel_rfl) (by kernel_rfl) (by kernel_rfl) (fun _ _ _ h => h) (Or.inr ⟨by rfl, rfl⟩) (by assumption) ?_
        try simp only [Act.put, List.getElem_toArray, List.getElem_cons_zero, List.getElem_cons_succ, List.setIfInBounds_toArray, List.set_cons_zero, List.set_cons_succ]
        refine wpAnyH_take (i := 18) (oi := _) (v := undef) rfl (by kernel_rfl) (by kernel_rfl) (by kernel_rfl) (fun _ _ _ h => h) (Or.inr ⟨by rfl, rfl⟩) (by assumption) ?_
        try simp only [Act.put, List.getElem_toArray, List.getElem_cons_zero, List.getElem_cons_succ, List.setIfInBounds_toArray, List.set_cons_zero, List.set_cons_succ]
        refine wpAnyH_take (i := 19) (oi := _) (v := ?_) rfl (by kernel_rfl) (by kernel_rfl) (by kernel_rfl) (fun _ _ _ h => h) (Or.inl ⟨by rfl, ?_⟩) (by assumption) ?_
        rotate_left
        · (intro w' hSw; (try dsimp only at hSw); go_simp; all_goals with_reducible rfl)
        try simp only [Act.put, List.getElem_toArray, List.getElem_cons_zero, List.getElem_cons_succ, List.setIfInBounds_toArray, List.set_cons_zero, List.set_cons_succ]
        refine wpAnyH_take (i := 20) (oi := _) (v := ?_) rfl (by kernel_rfl) (by kernel_rfl) (by kernel_rfl) (fun _ _ _ h => h) (Or.inl ⟨by rfl, ?_⟩) (by assumption) ?_
        rotate_left
        · (intro w' hSw; (try dsimp only at hSw); go_simp; all_goals with_reducible rfl)
        try simp only [Act.put, List.getElem_toArray, List.getElem_cons_zero, List.getElem_cons_succ, List.setIfInBounds_toArray, List.set_cons_zero, List.set_cons_succ]
        refine wpAnyH_take (i := 21) (oi := _) (v := undef) rfl (by kernel_rfl) (by kernel_rfl) (by kernel_rfl) (fun _ _ _ h => h) (Or.inr ⟨by rfl, rfl⟩) (by assumption) ?_
        try simp only [Act.put, List.getElem_toArray, List.getElem_cons_zero, List.getElem_cons_succ, List.setIfInBounds_toArray, List.set_cons_zero, List.set_cons_succ]
        refine wpAnyH_take (i := 22) (oi := _) (v := undef) rfl (by kernel_rfl) (by kernel_rfl) (by kernel_rfl) (fun _ _ _ h => h) (Or.inr ⟨by rfl, rfl⟩) (by assumption) ?_
        try simp only [Act.put, List.getElem_toArray, List.getElem_cons_zero, List.getElem_cons_succ, List.setIfInBounds_toArray, List.set_cons_zero, List.set_cons_succ]
        refine wpAnyH_take (i := 23) (oi := _) (v := undef) rfl (by kernel_rfl) (by kernel_rfl) (by kernel_rfl) (fun _ _ _ h => h) (Or.inr ⟨by rfl, rfl⟩) (by assumption) ?_
        try simp only [Act.put, List.getElem_toArray, List.getElem_cons_zero, List.getElem_cons_succ, List.setIfInBounds_toArray, List.set_cons_zero, List.set_cons_succ]
        refine wpAnyH_take (i := 24) (oi := _) (v := undef) rfl (by kernel_rfl) (by kernel_rfl) (by kernel_rfl) (fun _ _ _ h => h) (Or.inr ⟨by rfl, rfl⟩) (by assumption) ?_
        try simp only [Act.put, List.getElem_toArray, List.getElem_cons_zero, List.getElem_cons_succ, List.setIfInBounds_toArray, List.set_cons_zero, List.set_cons_succ]
        refine wpAnyH_take (i := 25) (oi := _) (v := undef) rfl (by kernel_rfl) (by kernel_rfl) (by kernel_rfl) (fun _ _ _ h => h) (Or.inr ⟨by rfl, rfl⟩) (by assumption) ?_
        try simp only [Act.put, List.getElem_toArray, List.getElem_cons_zero, List.getElem_cons_succ, List.setIfInBounds_toArray, List.set_cons_zero, List.set_cons_succ]
        refine wpAnyH_take (i := 26) (oi := _) (v := undef) rfl (by kernel_rfl) (by kernel_rfl) (by kernel_rfl) (fun _ _ _ h => h) (Or.inr ⟨by rfl, rfl⟩) (by assumption) ?_
        try simp only [Act.put, List.getElem_toArray, List.getElem_cons_zero, List.getElem_cons_succ, List.setIfInBounds_toArray, List.set_cons_zero, List.set_cons_succ]
        refine wpAnyH_take (i := 27) (oi := _) (v := undef) rfl (by kernel_rfl) (by kernel_rfl) (by kernel_rfl) (fun _ _ _ h => h) (Or.inr ⟨by rfl, rfl⟩) (by assumption) ?_
        try simp only [Act.put, List.getElem_toArray, List.getElem_cons_zero, List.getElem_cons_succ, List.setIfInBounds_toArray, List.set_cons_zero, List.set_cons_succ]
        refine wpAnyH_take (i := 28) (oi := _) (v := undef) rfl (by kernel_rfl) (by kernel_rfl) (by kernel_rfl) (fun _ _ _ h => h) (Or.inr ⟨by rfl, rfl⟩) (by assumption) ?_
        try simp only [Act.put, List.getElem_toArray, List.getElem_cons_zero, List.getElem_cons_succ, List.setIfInBounds_toArray, List.set_cons_zero, List.set_cons_succ]
        refine wpAnyH_take (i := 29) (oi := _) (v := undef) rfl (by kernel_rfl) (by kernel_rfl) (by kernel_rfl) (fun _ _ _ h => h) (Or.inr ⟨by rfl, rfl⟩) (by assumption) ?_
        try simp only [Act.put, List.getElem_toArray, List.getElem_cons_zero, List.getElem_cons_succ, List.setIfInBounds_toArray, List.set_cons_zero, List.set_cons_succ]
        refine wpAnyH_take (i := 30) (oi := _) (v := ?_) rfl (by kernel_rfl) (by kernel_rfl) (by kernel_rfl) (fun _ _ _ h => h) (Or.inl ⟨by rfl, ?_⟩) (by assumption) ?_
        rotate_left
        · (intro w' hSw; (try dsimp only at hSw); go_simp; all_goals with_reducible rfl)
        try simp only [Act.put, List.getElem_toArray, List.getElem_cons_zero, List.getElem_cons_succ, List.setIfInBounds_toArray, List.set_cons_zero, List.set_cons_succ]
        refine wpAnyH_done (by kernel_rfl) ?_ _
        go_wp2_with fail
        go_meet
        exact ⟨by rw [hG], HB6⟩
      | true =>
        cases hra : rightO a with
        | false =>
          have hG : GO v a b = true := by unfold GO; rw [hc0, hc1, hra]; rfl
          have hS4 : w4.drew.cell? ⟨w.heap.size, 0, none⟩ = some (.int .i64 v.kind) ∧ w4.drew.cell? ⟨w.heap.size, 1, none⟩ = some (.bool v.yes) ∧ w4.drew.cell? ⟨w.heap.size, 2, none⟩ = some (.int .i64 v.num) ∧ w4.drew.cell? ⟨w.heap.size, 3, none⟩ = some (.string v.text) ∧ w4.drew.cell? ⟨w.heap.size, 4, none⟩ = some (.slice la v.list.length lc) ∧ w4.drew.cell? ⟨w.heap.size, 5, none⟩ = some (.slice fa v.fields.length fc) ∧ w4.drew.cell? ⟨w.heap.size + 1, 0, none⟩ = some (.int .i64 a.kind) ∧ w4.drew.cell? ⟨w.heap.size + 1, 1, none⟩ = some (.slice paa a.path.length pac) ∧ w4.drew.cell? ⟨w.heap.size + 1, 2, none⟩ = some (.int .i64 a.val.kind) ∧ w4.drew.cell? ⟨w.heap.size + 1, 3, none⟩ = some (.bool a.val.yes) ∧ w4.drew.cell? ⟨w.heap.size + 1, 4, none⟩ = some (.int .i64 a.val.num) ∧ w4.drew.cell? ⟨w.heap.size + 1, 5, none⟩ = some (.string a.val.text) ∧ w4.drew.cell? ⟨w.heap.size + 1, 6, none⟩ = some (.slice oaa a.val.list.length oac) ∧ w4.drew.cell? ⟨w.heap.size + 1, 7, none⟩ = some (.slice oba a.val.fields.length obc) ∧ w4.drew.cell? ⟨w.heap.size + 2, 0, none⟩ = some (.int .i64 b.kind) ∧ w4.drew.cell? ⟨w.heap.size + 2, 1, none⟩ = some (.slice qaa b.path.length qac) ∧ w4.drew.cell? ⟨w.heap.size + 2, 2, none⟩ = some (.int .i64 b.val.kind) ∧ w4.drew.cell? ⟨w.heap.size + 2, 3, none⟩ = some (.bool b.val.yes) ∧ w4.drew.cell? ⟨w.heap.size + 2, 4, none⟩ = some (.int .i64 b.val.num) ∧ w4.drew.cell? ⟨w.heap.size + 2, 5, none⟩ = some (.string b.val.text) ∧ w4.drew.cell? ⟨w.heap.size + 2, 6, none⟩ = some (.slice raa b.val.list.length rac) ∧ w4.drew.cell? ⟨w.heap.size + 2, 7, none⟩ = some (.slice rba b.val.fields.length rbc) := bx_cells HB4.out
          refine wp_region_held_drew (S := fun w' => w'.cell? ⟨w.heap.size, 0, none⟩ = some (.int .i64 v.kind) ∧ w'.cell? ⟨w.heap.size, 1, none⟩ = some (.bool v.yes) ∧ w'.cell? ⟨w.heap.size, 2, none⟩ = some (.int .i64 v.num) ∧ w'.cell? ⟨w.heap.size, 3, none⟩ = some (.string v.text) ∧ w'.cell? ⟨w.heap.size, 4, none⟩ = some (.slice la v.list.length lc) ∧ w'.cell? ⟨w.heap.size, 5, none⟩ = some (.slice fa v.fields.length fc) ∧ w'.cell? ⟨w.heap.size + 1, 0, none⟩ = some (.int .i64 a.kind) ∧ w'.cell? ⟨w.heap.size + 1, 1, none⟩ = some (.slice paa a.path.length pac) ∧ w'.cell? ⟨w.heap.size + 1, 2, none⟩ = some (.int .i64 a.val.kind) ∧ w'.cell? ⟨w.heap.size + 1, 3, none⟩ = some (.bool a.val.yes) ∧ w'.cell? ⟨w.heap.size + 1, 4, none⟩ = some (.int .i64 a.val.num) ∧ w'.cell? ⟨w.heap.size + 1, 5, none⟩ = some (.string a.val.text) ∧ w'.cell? ⟨w.heap.size + 1, 6, none⟩ = some (.slice oaa a.val.list.length oac) ∧ w'.cell? ⟨w.heap.size + 1, 7, none⟩ = some (.slice oba a.val.fields.length obc) ∧ w'.cell? ⟨w.heap.size + 2, 0, none⟩ = some (.int .i64 b.kind) ∧ w'.cell? ⟨w.heap.size + 2, 1, none⟩ = some (.slice qaa b.path.length qac) ∧ w'.cell? ⟨w.heap.size + 2, 2, none⟩ = some (.int .i64 b.val.kind) ∧ w'.cell? ⟨w.heap.size + 2, 3, none⟩ = some (.bool b.val.yes) ∧ w'.cell? ⟨w.heap.size + 2, 4, none⟩ = some (.int .i64 b.val.num) ∧ w'.cell? ⟨w.heap.size + 2, 5, none⟩ = some (.string b.val.text) ∧ w'.cell? ⟨w.heap.size + 2, 6, none⟩ = some (.slice raa b.val.list.length rac) ∧ w'.cell? ⟨w.heap.size + 2, 7, none⟩ = some (.slice rba b.val.fields.length rbc)) (by kernel_rfl) (by with_reducible exact hS4) (fun hHeld => ?_)
          refine wpAnyH_take (i := 0) (oi := _) (v := ?_) rfl (by kernel_rfl) (by kernel_rfl) (by kernel_rfl) (fun _ _ _ h => h) (Or.inl ⟨by rfl, ?_⟩) (by assumption) ?_
          rotate_left
          · (intro w' hSw; (try dsimp only at hSw); go_simp; all_goals with_reducible rfl)
          try simp only [Act.put, List.getElem_toArray, List.getElem_cons_zero, List.setIfInBounds_toArray, List.set_cons_zero, List.set_cons_succ]
          refine wpAnyH_ready (rs := [1]) (by kernel_rfl) (by simp) ?_
          refine AllReadyH.cons rfl (fun K hK => ?_) AllReadyH.nil
          go_simp
          go_at_call 11
          with_reducible refine HFW.out.mono ?_
          rintro e w5 ⟨rfl, hbb⟩
          have HB5 := Lib.hid (HB4.out.below hbb)
          have hS5 := bx_cells HB5.out
          clear hbb
          have HBA := Lib.hid (HB5.out.below ((Below.refl _ w5).alloc (Nat.le_refl _) (.cells #[.int .i64 a.kind, .slice paa a.path.length pac, .int .i64 a.val.kind, .bool a.val.yes, .int .i64 a.val.num, .string a.val.text, .slice oaa a.val.list.length oac, .slice oba a.val.fields.length obc, .int .i64 b.kind, .slice qaa b.path.length qac, .int .i64 b.val.kind, .bool b.val.yes, .int .i64 b.val.num, .string b.val.text, .slice raa b.val.list.length rac, .slice rba b.val.fields.length rbc] 50)))
          have hSA := bx_cells HBA.out
          have hc2 : Calls Try.prog 18 #[.slice (some ⟨w5.heap.size, 0, none⟩) 2 2] (w5.alloc (.cells #[.int .i64 a.kind, .slice paa a.path.length pac, .int .i64 a.val.kind, .bool a.val.yes, .int .i64 a.val.num, .string a.val.text, .slice oaa a.val.list.length oac, .slice oba a.val.fields.length obc, .int .i64 b.kind, .slice qaa b.path.length qac, .int .i64 b.val.kind, .bool b.val.yes, .int .i64 b.val.num, .string b.val.text, .slice raa b.val.list.length rac, .slice rba b.val.fields.length rbc] 50)) (fun e w' => e = .returned (.bool (fewOs [a, b])) ∧ Below (w5.alloc (.cells #[.int .i64 a.kind, .slice paa a.path.length pac, .int .i64 a.val.kind, .bool a.val.yes, .int .i64 a.val.num, .string a.val.text, .slice oaa a.val.list.length oac, .slice oba a.val.fields.length obc, .int .i64 b.kind, .slice qaa b.path.length qac, .int .i64 b.val.kind, .bool b.val.yes, .int .i64 b.val.num, .string b.val.text, .slice raa b.val.list.length rac, .slice rba b.val.fields.length rbc] 50)).heap.size (w5.alloc (.cells #[.int .i64 a.kind, .slice paa a.path.length pac, .int .i64 a.val.kind, .bool a.val.yes, .int .i64 a.val.num, .string a.val.text, .slice oaa a.val.list.length oac, .slice oba a.val.fields.length obc, .int .i64 b.kind, .slice qaa b.path.length qac, .int .i64 b.val.kind, .bool b.val.yes, .int .i64 b.val.num, .string b.val.text, .slice raa b.val.list.length rac, .slice rba b.val.fields.length rbc] 50)) w') := pfew_any [a, b] (some ⟨w5.heap.size, 0, none⟩) 2 _ (pair_ops (Box.new w5 _ _) HBA.out.2.2.2.2.2.1 HBA.out.2.2.2.2.2.2) (by show 2 ≤ _; omega)
          rw [hc1] at hc2
          have HC2 := Lib.hid hc2
          clear hc2
          refine hK.out _ _ (by with_reducible exact hS5) (fun hHeld => ?_)
          clear hK K
          try simp only [Act.put, List.getElem_toArray, List.getElem_cons_zero, List.getElem_cons_succ, List.setIfInBounds_toArray, List.set_cons_zero, List.set_cons_succ]
          refine wpAnyH_take (i := 2) (oi := _) (v := ?_) rfl (by kernel_rfl) (by kernel_rfl) (by kernel_rfl) (fun _ _ _ h => h) (Or.inl ⟨by rfl, ?_⟩) (by assumption) ?_
          rotate_left
          · (intro w' hSw; (try dsimp only at hSw); go_simp; all_goals with_reducible rfl)
          try simp only [Act.put, List.getElem_toArray, List.getElem_cons_zero, List.getElem_cons_succ, List.setIfInBounds_toArray, List.set_cons_zero, List.set_cons_succ]
          refine wpAnyH_take (i := 3) (oi := _) (v := ?_) rfl (by kernel_rfl) (by kernel_rfl) (by kernel_rfl) (fun _ _ _ h => h) (Or.inl ⟨by rfl, ?_⟩) (by assumption) ?_
          rotate_left
          · (intro w' hSw; (try dsimp only at hSw); go_simp; all_goals with_reducible rfl)
          try simp only [Act.put, List.getElem_toArray, List.getElem_cons_zero, List.getElem_cons_succ, List.setIfInBounds_toArray, List.set_cons_zero, List.set_cons_succ]
          refine wpAnyH_take (i := 4) (oi := _) (v := ?_) rfl (by kernel_rfl) (by kernel_rfl) (by kernel_rfl) (fun _ _ _ h => h) (Or.inl ⟨by rfl, ?_⟩) (by assumption) ?_
          rotate_left
          · (intro w' hSw; (try dsimp only at hSw); go_simp; all_goals with_reducible rfl)
          try simp only [Act.put, List.getElem_toArray, List.getElem_cons_zero, List.getElem_cons_succ, List.setIfInBounds_toArray, List.set_cons_zero, List.set_cons_succ]
          refine wpAnyH_take (i := 5) (oi := _) (v := ?_) rfl (by kernel_rfl) (by kernel_rfl) (by kernel_rfl) (fun _ _ _ h => h) (Or.inl ⟨by rfl, ?_⟩) (by assumption) ?_
          rotate_left
          · (intro w' hSw; (try dsimp only at hSw); go_simp; all_goals with_reducible rfl)
          try simp only [Act.put, List.getElem_toArray, List.getElem_cons_zero, List.getElem_cons_succ, List.setIfInBounds_toArray, List.set_cons_zero, List.set_cons_succ]
          refine wpAnyH_ready (rs := [6]) (by kernel_rfl) (by simp) ?_
          refine AllReadyH.cons rfl (fun K hK => ?_) AllReadyH.nil
          go_simp
          refine hK.out _ _ (by with_reducible exact hSA) (fun hHeld => ?_)
          clear hK K
          try simp only [Act.put, List.getElem_toArray, List.getElem_cons_zero, List.getElem_cons_succ, List.setIfInBounds_toArray, List.set_cons_zero, List.set_cons_succ]
          refine wpAnyH_ready (rs := [7]) (by kernel_rfl) (by simp) ?_
          refine AllReadyH.cons rfl (fun K hK => ?_) AllReadyH.nil
          go_simp
          go_at_call 18
          with_reducible refine HC2.out.mono ?_
          rintro e w6 ⟨rfl, hbb⟩
          have HB6 := Lib.hid (HBA.out.below hbb)
          have hS6 := bx_cells HB6.out
          clear hbb
          have hc3 := lr_any a.kind a.path a.val paa pac oaa oac oba obc w6 HB6.out.2.2.2.2.2.1.2.2.1 (Nat.le_trans HB6.out.2.2.2.2.2.1.1.1 HB6.out.2.2.2.2.2.1.1.2)
          rw [show rightO ⟨a.kind, a.path, a.val⟩ = rightO a from rfl, hra] at hc3
          have HC3 := Lib.hid hc3
          clear hc3
          refine hK.out _ _ (by with_reducible exact hS6) (fun hHeld => ?_)
          clear hK K
          try simp only [Act.put, List.getElem_toArray, List.getElem_cons_zero, List.getElem_cons_succ, List.setIfInBounds_toArray, List.set_cons_zero, List.set_cons_succ]
          refine wpAnyH_take (i := 8) (oi := _) (v := ?_) rfl (by kernel_rfl) (by kernel_rfl) (by kernel_rfl) (fun _ _ _ h => h) (Or.inl ⟨by rfl, ?_⟩) (by assumption) ?_
          rotate_left
          · (intro w' hSw; (try dsimp only at hSw); go_simp; all_goals with_reducible rfl)
          try simp only [Act.put, List.getElem_toArray, List.getElem_cons_zero, List.getElem_cons_succ, List.setIfInBounds_toArray, List.set_cons_zero, List.set_cons_succ]
          refine wpAnyH_take (i := 9) (oi := _) (v := ?_) rfl (by kernel_rfl) (by kernel_rfl) (by kernel_rfl) (fun _ _ _ h => h) (Or.inl ⟨by rfl, ?_⟩) (by assumption) ?_
          rotate_left
          · (intro w' hSw; (try dsimp only at hSw); go_simp; all_goals with_reducible rfl)
          try simp only [Act.put, List.getElem_toArray, List.getElem_cons_zero, List.getElem_cons_succ, List.setIfInBounds_toArray, List.set_cons_zero, List.set_cons_succ]
          refine wpAnyH_take (i := 10) (oi := _) (v := ?_) rfl (by kernel_rfl) (by kernel_rfl) (by kernel_rfl) (fun _ _ _ h => h) (Or.inl ⟨by rfl, ?_⟩) (by assumption) ?_
          rotate_left
          · (intro w' hSw; (try dsimp only at hSw); go_simp; all_goals with_reducible rfl)
          try simp only [Act.put, List.getElem_toArray, List.getElem_cons_zero, List.getElem_cons_succ, List.setIfInBounds_toArray, List.set_cons_zero, List.set_cons_succ]
          refine wpAnyH_take (i := 11) (oi := _) (v := ?_) rfl (by kernel_rfl) (by kernel_rfl) (by kernel_rfl) (fun _ _ _ h => h) (Or.inl ⟨by rfl, ?_⟩) (by assumption) ?_
          rotate_left
          · (intro w' hSw; (try dsimp only at hSw); go_simp; all_goals with_reducible rfl)
          try simp only [Act.put, List.getElem_toArray, List.getElem_cons_zero, List.getElem_cons_succ, List.setIfInBounds_toArray, List.set_cons_zero, List.set_cons_succ]
          refine wpAnyH_ready (rs := [12]) (by kernel_rfl) (by simp) ?_
          refine AllReadyH.cons rfl (fun K hK => ?_) AllReadyH.nil
          go_simp
          go_at_call 23
          with_reducible refine HC3.out.mono ?_
          rintro e w7 ⟨rfl, hbb⟩
          have HB7 := Lib.hid (HB6.out.below hbb)
          have hS7 := bx_cells HB7.out
          clear hbb
          refine hK.out _ _ (by with_reducible exact hS7) (fun hHeld => ?_)
          clear hK K
          try simp only [Act.put, List.getElem_toArray, List.getElem_cons_zero, List.getElem_cons_succ, List.setIfInBounds_toArray, List.set_cons_zero, List.set_cons_succ]
          refine wpAnyH_take (i := 13) (oi := _) (v := ?_) rfl (by kernel_rfl) (by kernel_rfl) (by kernel_rfl) (fun _ _ _ h => h) (Or.inl ⟨by rfl, ?_⟩) (by assumption) ?_
          rotate_left
          · (intro w' hSw; (try dsimp only at hSw); go_simp; all_goals with_reducible rfl)
          try simp only [Act.put, List.getElem_toArray, List.getElem_cons_zero, List.getElem_cons_succ, List.setIfInBounds_toArray, List.set_cons_zero, List.set_cons_succ]
          refine wpAnyH_take (i := 14) (oi := _) (v := ?_) rfl (by kernel_rfl) (by kernel_rfl) (by kernel_rfl) (fun _ _ _ h => h) (Or.inl ⟨by rfl, ?_⟩) (by assumption) ?_
          rotate_left
          · (intro w' hSw; (try dsimp only at hSw); go_simp; all_goals with_reducible rfl)
          try simp only [Act.put, List.getElem_toArray, List.getElem_cons_zero, List.getElem_cons_succ, List.setIfInBounds_toArray, List.set_cons_zero, List.set_cons_succ]
          refine wpAnyH_take (i := 15) (oi := _) (v := ?_) rfl (by kernel_rfl) (by kernel_rfl) (by kernel_rfl) (fun _ _ _ h => h) (Or.inl ⟨by rfl, ?_⟩) (by assumption) ?_
          rotate_left
          · (intro w' hSw; (try dsimp only at hSw); go_simp; all_goals with_reducible rfl)
          try simp only [Act.put, List.getElem_toArray, List.getElem_cons_zero, List.getElem_cons_succ, List.setIfInBounds_toArray, List.set_cons_zero, List.set_cons_succ]
          refine wpAnyH_take (i := 16) (oi := _) (v := undef) rfl (by kernel_rfl) (by kernel_rfl) (by kernel_rfl) (fun _ _ _ h => h) (Or.inr ⟨by rfl, rfl⟩) (by assumption) ?_
          try simp only [Act.put, List.getElem_toArray, List.getElem_cons_zero, List.getElem_cons_succ, List.setIfInBounds_toArray, List.set_cons_zero, List.set_cons_succ]
          refine wpAnyH_take (i := 17) (oi := _) (v := undef) rfl (by kernel_rfl) (by kernel_rfl) (by kernel_rfl) (fun _ _ _ h => h) (Or.inr ⟨by rfl, rfl⟩) (by assumption) ?_
          try simp only [Act.put, List.getElem_toArray, List.getElem_cons_zero, List.getElem_cons_succ, List.setIfInBounds_toArray, List.set_cons_zero, List.set_cons_succ]
          refine wpAnyH_take (i := 18) (oi := _) (v := undef) rfl (by kernel_rfl) (by kernel_rfl) (by kernel_rfl) (fun _ _ _ h => h) (Or.inr ⟨by rfl, rfl⟩) (by assumption) ?_
          try simp only [Act.put, List.getElem_toArray, List.getElem_cons_zero, List.getElem_cons_succ, List.setIfInBounds_toArray, List.set_cons_zero, List.set_cons_succ]
          refine wpAnyH_take (i := 19) (oi := _) (v := ?_) rfl (by kernel_rfl) (by kernel_rfl) (by kernel_rfl) (fun _ _ _ h => h) (Or.inl ⟨by rfl, ?_⟩) (by assumption) ?_
          rotate_left
          · (intro w' hSw; (try dsimp only at hSw); go_simp; all_goals with_reducible rfl)
          try simp only [Act.put, List.getElem_toArray, List.getElem_cons_zero, List.getElem_cons_succ, List.setIfInBounds_toArray, List.set_cons_zero, List.set_cons_succ]
          refine wpAnyH_take (i := 20) (oi := _) (v := ?_) rfl (by kernel_rfl) (by kernel_rfl) (by kernel_rfl) (fun _ _ _ h => h) (Or.inl ⟨by rfl, ?_⟩) (by assumption) ?_
          rotate_left
          · (intro w' hSw; (try dsimp only at hSw); go_simp; all_goals with_reducible rfl)
          try simp only [Act.put, List.getElem_toArray, List.getElem_cons_zero, List.getElem_cons_succ, List.setIfInBounds_toArray, List.set_cons_zero, List.set_cons_succ]
          refine wpAnyH_take (i := 21) (oi := _) (v := undef) rfl (by kernel_rfl) (by kernel_rfl) (by kernel_rfl) (fun _ _ _ h => h) (Or.inr ⟨by rfl, rfl⟩) (by assumption) ?_
          try simp only [Act.put, List.getElem_toArray, List.getElem_cons_zero, List.getElem_cons_succ, List.setIfInBounds_toArray, List.set_cons_zero, List.set_cons_succ]
          refine wpAnyH_take (i := 22) (oi := _) (v := undef) rfl (by kernel_rfl) (by kernel_rfl) (by kernel_rfl) (fun _ _ _ h => h) (Or.inr ⟨by rfl, rfl⟩) (by assumption) ?_
          try simp only [Act.put, List.getElem_toArray, List.getElem_cons_zero, List.getElem_cons_succ, List.setIfInBounds_toArray, List.set_cons_zero, List.set_cons_succ]
          refine wpAnyH_take (i := 23) (oi := _) (v := undef) rfl (by kernel_rfl) (by kernel_rfl) (by kernel_rfl) (fun _ _ _ h => h) (Or.inr ⟨by rfl, rfl⟩) (by assumption) ?_
          try simp only [Act.put, List.getElem_toArray, List.getElem_cons_zero, List.getElem_cons_succ, List.setIfInBounds_toArray, List.set_cons_zero, List.set_cons_succ]
          refine wpAnyH_take (i := 24) (oi := _) (v := undef) rfl (by kernel_rfl) (by kernel_rfl) (by kernel_rfl) (fun _ _ _ h => h) (Or.inr ⟨by rfl, rfl⟩) (by assumption) ?_
          try simp only [Act.put, List.getElem_toArray, List.getElem_cons_zero, List.getElem_cons_succ, List.setIfInBounds_toArray, List.set_cons_zero, List.set_cons_succ]
          refine wpAnyH_take (i := 25) (oi := _) (v := undef) rfl (by kernel_rfl) (by kernel_rfl) (by kernel_rfl) (fun _ _ _ h => h) (Or.inr ⟨by rfl, rfl⟩) (by assumption) ?_
          try simp only [Act.put, List.getElem_toArray, List.getElem_cons_zero, List.getElem_cons_succ, List.setIfInBounds_toArray, List.set_cons_zero, List.set_cons_succ]
          refine wpAnyH_take (i := 26) (oi := _) (v := undef) rfl (by kernel_rfl) (by kernel_rfl) (by kernel_rfl) (fun _ _ _ h => h) (Or.inr ⟨by rfl, rfl⟩) (by assumption) ?_
          try simp only [Act.put, List.getElem_toArray, List.getElem_cons_zero, List.getElem_cons_succ, List.setIfInBounds_toArray, List.set_cons_zero, List.set_cons_succ]
          refine wpAnyH_take (i := 27) (oi := _) (v := undef) rfl (by kernel_rfl) (by kernel_rfl) (by kernel_rfl) (fun _ _ _ h => h) (Or.inr ⟨by rfl, rfl⟩) (by assumption) ?_
          try simp only [Act.put, List.getElem_toArray, List.getElem_cons_zero, List.getElem_cons_succ, List.setIfInBounds_toArray, List.set_cons_zero, List.set_cons_succ]
          refine wpAnyH_take (i := 28) (oi := _) (v := undef) rfl (by kernel_rfl) (by kernel_rfl) (by kernel_rfl) (fun _ _ _ h => h) (Or.inr ⟨by rfl, rfl⟩) (by assumption) ?_
          try simp only [Act.put, List.getElem_toArray, List.getElem_cons_zero, List.getElem_cons_succ, List.setIfInBounds_toArray, List.set_cons_zero, List.set_cons_succ]
          refine wpAnyH_take (i := 29) (oi := _) (v := undef) rfl (by kernel_rfl) (by kernel_rfl) (by kernel_rfl) (fun _ _ _ h => h) (Or.inr ⟨by rfl, rfl⟩) (by assumption) ?_
          try simp only [Act.put, List.getElem_toArray, List.getElem_cons_zero, List.getElem_cons_succ, List.setIfInBounds_toArray, List.set_cons_zero, List.set_cons_succ]
          refine wpAnyH_take (i := 30) (oi := _) (v := ?_) rfl (by kernel_rfl) (by kernel_rfl) (by kernel_rfl) (fun _ _ _ h => h) (Or.inl ⟨by rfl, ?_⟩) (by assumption) ?_
          rotate_left
          · (intro w' hSw; (try dsimp only at hSw); go_simp; all_goals with_reducible rfl)
          try simp only [Act.put, List.getElem_toArray, List.getElem_cons_zero, List.getElem_cons_succ, List.setIfInBounds_toArray, List.set_cons_zero, List.set_cons_succ]
          refine wpAnyH_done (by kernel_rfl) ?_ _
          go_wp2_with fail
          go_meet
          exact ⟨by rw [hG], HB7⟩
        | true =>
          cases hrb : rightO b with
          | false =>
            have hG : GO v a b = true := by unfold GO; rw [hc0, hc1, hra, hrb]; rfl
            have hS4 : w4.drew.cell? ⟨w.heap.size, 0, none⟩ = some (.int .i64 v.kind) ∧ w4.drew.cell? ⟨w.heap.size, 1, none⟩ = some (.bool v.yes) ∧ w4.drew.cell? ⟨w.heap.size, 2, none⟩ = some (.int .i64 v.num) ∧ w4.drew.cell? ⟨w.heap.size, 3, none⟩ = some (.string v.text) ∧ w4.drew.cell? ⟨w.heap.size, 4, none⟩ = some (.slice la v.list.length lc) ∧ w4.drew.cell? ⟨w.heap.size, 5, none⟩ = some (.slice fa v.fields.length fc) ∧ w4.drew.cell? ⟨w.heap.size + 1, 0, none⟩ = some (.int .i64 a.kind) ∧ w4.drew.cell? ⟨w.heap.size + 1, 1, none⟩ = some (.slice paa a.path.length pac) ∧ w4.drew.cell? ⟨w.heap.size + 1, 2, none⟩ = some (.int .i64 a.val.kind) ∧ w4.drew.cell? ⟨w.heap.size + 1, 3, none⟩ = some (.bool a.val.yes) ∧ w4.drew.cell? ⟨w.heap.size + 1, 4, none⟩ = some (.int .i64 a.val.num) ∧ w4.drew.cell? ⟨w.heap.size + 1, 5, none⟩ = some (.string a.val.text) ∧ w4.drew.cell? ⟨w.heap.size + 1, 6, none⟩ = some (.slice oaa a.val.list.length oac) ∧ w4.drew.cell? ⟨w.heap.size + 1, 7, none⟩ = some (.slice oba a.val.fields.length obc) ∧ w4.drew.cell? ⟨w.heap.size + 2, 0, none⟩ = some (.int .i64 b.kind) ∧ w4.drew.cell? ⟨w.heap.size + 2, 1, none⟩ = some (.slice qaa b.path.length qac) ∧ w4.drew.cell? ⟨w.heap.size + 2, 2, none⟩ = some (.int .i64 b.val.kind) ∧ w4.drew.cell? ⟨w.heap.size + 2, 3, none⟩ = some (.bool b.val.yes) ∧ w4.drew.cell? ⟨w.heap.size + 2, 4, none⟩ = some (.int .i64 b.val.num) ∧ w4.drew.cell? ⟨w.heap.size + 2, 5, none⟩ = some (.string b.val.text) ∧ w4.drew.cell? ⟨w.heap.size + 2, 6, none⟩ = some (.slice raa b.val.list.length rac) ∧ w4.drew.cell? ⟨w.heap.size + 2, 7, none⟩ = some (.slice rba b.val.fields.length rbc) := bx_cells HB4.out
            refine wp_region_held_drew (S := fun w' => w'.cell? ⟨w.heap.size, 0, none⟩ = some (.int .i64 v.kind) ∧ w'.cell? ⟨w.heap.size, 1, none⟩ = some (.bool v.yes) ∧ w'.cell? ⟨w.heap.size, 2, none⟩ = some (.int .i64 v.num) ∧ w'.cell? ⟨w.heap.size, 3, none⟩ = some (.string v.text) ∧ w'.cell? ⟨w.heap.size, 4, none⟩ = some (.slice la v.list.length lc) ∧ w'.cell? ⟨w.heap.size, 5, none⟩ = some (.slice fa v.fields.length fc) ∧ w'.cell? ⟨w.heap.size + 1, 0, none⟩ = some (.int .i64 a.kind) ∧ w'.cell? ⟨w.heap.size + 1, 1, none⟩ = some (.slice paa a.path.length pac) ∧ w'.cell? ⟨w.heap.size + 1, 2, none⟩ = some (.int .i64 a.val.kind) ∧ w'.cell? ⟨w.heap.size + 1, 3, none⟩ = some (.bool a.val.yes) ∧ w'.cell? ⟨w.heap.size + 1, 4, none⟩ = some (.int .i64 a.val.num) ∧ w'.cell? ⟨w.heap.size + 1, 5, none⟩ = some (.string a.val.text) ∧ w'.cell? ⟨w.heap.size + 1, 6, none⟩ = some (.slice oaa a.val.list.length oac) ∧ w'.cell? ⟨w.heap.size + 1, 7, none⟩ = some (.slice oba a.val.fields.length obc) ∧ w'.cell? ⟨w.heap.size + 2, 0, none⟩ = some (.int .i64 b.kind) ∧ w'.cell? ⟨w.heap.size + 2, 1, none⟩ = some (.slice qaa b.path.length qac) ∧ w'.cell? ⟨w.heap.size + 2, 2, none⟩ = some (.int .i64 b.val.kind) ∧ w'.cell? ⟨w.heap.size + 2, 3, none⟩ = some (.bool b.val.yes) ∧ w'.cell? ⟨w.heap.size + 2, 4, none⟩ = some (.int .i64 b.val.num) ∧ w'.cell? ⟨w.heap.size + 2, 5, none⟩ = some (.string b.val.text) ∧ w'.cell? ⟨w.heap.size + 2, 6, none⟩ = some (.slice raa b.val.list.length rac) ∧ w'.cell? ⟨w.heap.size + 2, 7, none⟩ = some (.slice rba b.val.fields.length rbc)) (by kernel_rfl) (by with_reducible exact hS4) (fun hHeld => ?_)
            refine wpAnyH_take (i := 0) (oi := _) (v := ?_) rfl (by kernel_rfl) (by kernel_rfl) (by kernel_rfl) (fun _ _ _ h => h) (Or.inl ⟨by rfl, ?_⟩) (by assumption) ?_
            rotate_left
            · (intro w' hSw; (try dsimp only at hSw); go_simp; all_goals with_reducible rfl)
            try simp only [Act.put, List.getElem_toArray, List.getElem_cons_zero, List.setIfInBounds_toArray, List.set_cons_zero, List.set_cons_succ]
            refine wpAnyH_ready (rs := [1]) (by kernel_rfl) (by simp) ?_
            refine AllReadyH.cons rfl (fun K hK => ?_) AllReadyH.nil
            go_simp
            go_at_call 11
            with_reducible refine HFW.out.mono ?_
            rintro e w5 ⟨rfl, hbb⟩
            have HB5 := Lib.hid (HB4.out.below hbb)
            have hS5 := bx_cells HB5.out
            clear hbb
            have HBA := Lib.hid (HB5.out.below ((Below.refl _ w5).alloc (Nat.le_refl _) (.cells #[.int .i64 a.kind, .slice paa a.path.length pac, .int .i64 a.val.kind, .bool a.val.yes, .int .i64 a.val.num, .string a.val.text, .slice oaa a.val.list.length oac, .slice oba a.val.fields.length obc, .int .i64 b.kind, .slice qaa b.path.length qac, .int .i64 b.val.kind, .bool b.val.yes, .int .i64 b.val.num, .string b.val.text, .slice raa b.val.list.length rac, .slice rba b.val.fields.length rbc] 50)))
            have hSA := bx_cells HBA.out
            have hc2 : Calls Try.prog 18 #[.slice (some ⟨w5.heap.size, 0, none⟩) 2 2] (w5.alloc (.cells #[.int .i64 a.kind, .slice paa a.path.length pac, .int .i64 a.val.kind, .bool a.val.yes, .int .i64 a.val.num, .string a.val.text, .slice oaa a.val.list.length oac, .slice oba a.val.fields.length obc, .int .i64 b.kind, .slice qaa b.path.length qac, .int .i64 b.val.kind, .bool b.val.yes, .int .i64 b.val.num, .string b.val.text, .slice raa b.val.list.length rac, .slice rba b.val.fields.length rbc] 50)) (fun e w' => e = .returned (.bool (fewOs [a, b])) ∧ Below (w5.alloc (.cells #[.int .i64 a.kind, .slice paa a.path.length pac, .int .i64 a.val.kind, .bool a.val.yes, .int .i64 a.val.num, .string a.val.text, .slice oaa a.val.list.length oac, .slice oba a.val.fields.length obc, .int .i64 b.kind, .slice qaa b.path.length qac, .int .i64 b.val.kind, .bool b.val.yes, .int .i64 b.val.num, .string b.val.text, .slice raa b.val.list.length rac, .slice rba b.val.fields.length rbc] 50)).heap.size (w5.alloc (.cells #[.int .i64 a.kind, .slice paa a.path.length pac, .int .i64 a.val.kind, .bool a.val.yes, .int .i64 a.val.num, .string a.val.text, .slice oaa a.val.list.length oac, .slice oba a.val.fields.length obc, .int .i64 b.kind, .slice qaa b.path.length qac, .int .i64 b.val.kind, .bool b.val.yes, .int .i64 b.val.num, .string b.val.text, .slice raa b.val.list.length rac, .slice rba b.val.fields.length rbc] 50)) w') := pfew_any [a, b] (some ⟨w5.heap.size, 0, none⟩) 2 _ (pair_ops (Box.new w5 _ _) HBA.out.2.2.2.2.2.1 HBA.out.2.2.2.2.2.2) (by show 2 ≤ _; omega)
            rw [hc1] at hc2
            have HC2 := Lib.hid hc2
            clear hc2
            refine hK.out _ _ (by with_reducible exact hS5) (fun hHeld => ?_)
            clear hK K
            try simp only [Act.put, List.getElem_toArray, List.getElem_cons_zero, List.getElem_cons_succ, List.setIfInBounds_toArray, List.set_cons_zero, List.set_cons_succ]
            refine wpAnyH_take (i := 2) (oi := _) (v := ?_) rfl (by kernel_rfl) (by kernel_rfl) (by kernel_rfl) (fun _ _ _ h => h) (Or.inl ⟨by rfl, ?_⟩) (by assumption) ?_
            rotate_left
            · (intro w' hSw; (try dsimp only at hSw); go_simp; all_goals with_reducible rfl)
            try simp only [Act.put, List.getElem_toArray, List.getElem_cons_zero, List.getElem_cons_succ, List.setIfInBounds_toArray, List.set_cons_zero, List.set_cons_succ]
            refine wpAnyH_take (i := 3) (oi := _) (v := ?_) rfl (by kernel_rfl) (by kernel_rfl) (by kernel_rfl) (fun _ _ _ h => h) (Or.inl ⟨by rfl, ?_⟩) (by assumption) ?_
            rotate_left
            · (intro w' hSw; (try dsimp only at hSw); go_simp; all_goals with_reducible rfl)
            try simp only [Act.put, List.getElem_toArray, List.getElem_cons_zero, List.getElem_cons_succ, List.setIfInBounds_toArray, List.set_cons_zero, List.set_cons_succ]
            refine wpAnyH_take (i := 4) (oi := _) (v := ?_) rfl (by kernel_rfl) (by kernel_rfl) (by kernel_rfl) (fun _ _ _ h => h) (Or.inl ⟨by rfl, ?_⟩) (by assumption) ?_
            rotate_left
            · (intro w' hSw; (try dsimp only at hSw); go_simp; all_goals with_reducible rfl)
            try simp only [Act.put, List.getElem_toArray, List.getElem_cons_zero, List.getElem_cons_succ, List.setIfInBounds_toArray, List.set_cons_zero, List.set_cons_succ]
            refine wpAnyH_take (i := 5) (oi := _) (v := ?_) rfl (by kernel_rfl) (by kernel_rfl) (by kernel_rfl) (fun _ _ _ h => h) (Or.inl ⟨by rfl, ?_⟩) (by assumption) ?_
            rotate_left
            · (intro w' hSw; (try dsimp only at hSw); go_simp; all_goals with_reducible rfl)
            try simp only [Act.put, List.getElem_toArray, List.getElem_cons_zero, List.getElem_cons_succ, List.setIfInBounds_toArray, List.set_cons_zero, List.set_cons_succ]
            refine wpAnyH_ready (rs := [6]) (by kernel_rfl) (by simp) ?_
            refine AllReadyH.cons rfl (fun K hK => ?_) AllReadyH.nil
            go_simp
            refine hK.out _ _ (by with_reducible exact hSA) (fun hHeld => ?_)
            clear hK K
            try simp only [Act.put, List.getElem_toArray, List.getElem_cons_zero, List.getElem_cons_succ, List.setIfInBounds_toArray, List.set_cons_zero, List.set_cons_succ]
            refine wpAnyH_ready (rs := [7]) (by kernel_rfl) (by simp) ?_
            refine AllReadyH.cons rfl (fun K hK => ?_) AllReadyH.nil
            go_simp
            go_at_call 18
            with_reducible refine HC2.out.mono ?_
            rintro e w6 ⟨rfl, hbb⟩
            have HB6 := Lib.hid (HBA.out.below hbb)
            have hS6 := bx_cells HB6.out
            clear hbb
            have hc3 := lr_any a.kind a.path a.val paa pac oaa oac oba obc w6 HB6.out.2.2.2.2.2.1.2.2.1 (Nat.le_trans HB6.out.2.2.2.2.2.1.1.1 HB6.out.2.2.2.2.2.1.1.2)
            rw [show rightO ⟨a.kind, a.path, a.val⟩ = rightO a from rfl, hra] at hc3
            have HC3 := Lib.hid hc3
            clear hc3
            refine hK.out _ _ (by with_reducible exact hS6) (fun hHeld => ?_)
            clear hK K
            try simp only [Act.put, List.getElem_toArray, List.getElem_cons_zero, List.getElem_cons_succ, List.setIfInBounds_toArray, List.set_cons_zero, List.set_cons_succ]
            refine wpAnyH_take (i := 8) (oi := _) (v := ?_) rfl (by kernel_rfl) (by kernel_rfl) (by kernel_rfl) (fun _ _ _ h => h) (Or.inl ⟨by rfl, ?_⟩) (by assumption) ?_
            rotate_left
            · (intro w' hSw; (try dsimp only at hSw); go_simp; all_goals with_reducible rfl)
            try simp only [Act.put, List.getElem_toArray, List.getElem_cons_zero, List.getElem_cons_succ, List.setIfInBounds_toArray, List.set_cons_zero, List.set_cons_succ]
            refine wpAnyH_take (i := 9) (oi := _) (v := ?_) rfl (by kernel_rfl) (by kernel_rfl) (by kernel_rfl) (fun _ _ _ h => h) (Or.inl ⟨by rfl, ?_⟩) (by assumption) ?_
            rotate_left
            · (intro w' hSw; (try dsimp only at hSw); go_simp; all_goals with_reducible rfl)
            try simp only [Act.put, List.getElem_toArray, List.getElem_cons_zero, List.getElem_cons_succ, List.setIfInBounds_toArray, List.set_cons_zero, List.set_cons_succ]
            refine wpAnyH_take (i := 10) (oi := _) (v := ?_) rfl (by kernel_rfl) (by kernel_rfl) (by kernel_rfl) (fun _ _ _ h => h) (Or.inl ⟨by rfl, ?_⟩) (by assumption) ?_
            rotate_left
            · (intro w' hSw; (try dsimp only at hSw); go_simp; all_goals with_reducible rfl)
            try simp only [Act.put, List.getElem_toArray, List.getElem_cons_zero, List.getElem_cons_succ, List.setIfInBounds_toArray, List.set_cons_zero, List.set_cons_succ]
            refine wpAnyH_take (i := 11) (oi := _) (v := ?_) rfl (by kernel_rfl) (by kernel_rfl) (by kernel_rfl) (fun _ _ _ h => h) (Or.inl ⟨by rfl, ?_⟩) (by assumption) ?_
            rotate_left
            · (intro w' hSw; (try dsimp only at hSw); go_simp; all_goals with_reducible rfl)
            try simp only [Act.put, List.getElem_toArray, List.getElem_cons_zero, List.getElem_cons_succ, List.setIfInBounds_toArray, List.set_cons_zero, List.set_cons_succ]
            refine wpAnyH_ready (rs := [12]) (by kernel_rfl) (by simp) ?_
            refine AllReadyH.cons rfl (fun K hK => ?_) AllReadyH.nil
            go_simp
            go_at_call 23
            with_reducible refine HC3.out.mono ?_
            rintro e w7 ⟨rfl, hbb⟩
            have HB7 := Lib.hid (HB6.out.below hbb)
            have hS7 := bx_cells HB7.out
            clear hbb
            have hc4 := lr_any b.kind b.path b.val qaa qac raa rac rba rbc w7 HB7.out.2.2.2.2.2.2.2.2.1 (Nat.le_trans HB7.out.2.2.2.2.2.2.1.1 HB7.out.2.2.2.2.2.2.1.2)
            rw [show rightO ⟨b.kind, b.path, b.val⟩ = rightO b from rfl, hrb] at hc4
            have HC4 := Lib.hid hc4
            clear hc4
            refine hK.out _ _ (by with_reducible exact hS7) (fun hHeld => ?_)
            clear hK K
            try simp only [Act.put, List.getElem_toArray, List.getElem_cons_zero, List.getElem_cons_succ, List.setIfInBounds_toArray, List.set_cons_zero, List.set_cons_succ]
            refine wpAnyH_take (i := 13) (oi := _) (v := ?_) rfl (by kernel_rfl) (by kernel_rfl) (by kernel_rfl) (fun _ _ _ h => h) (Or.inl ⟨by rfl, ?_⟩) (by assumption) ?_
            rotate_left
            · (intro w' hSw; (try dsimp only at hSw); go_simp; all_goals with_reducible rfl)
            try simp only [Act.put, List.getElem_toArray, List.getElem_cons_zero, List.getElem_cons_succ, List.setIfInBounds_toArray, List.set_cons_zero, List.set_cons_succ]
            refine wpAnyH_take (i := 14) (oi := _) (v := ?_) rfl (by kernel_rfl) (by kernel_rfl) (by kernel_rfl) (fun _ _ _ h => h) (Or.inl ⟨by rfl, ?_⟩) (by assumption) ?_
            rotate_left
            · (intro w' hSw; (try dsimp only at hSw); go_simp; all_goals with_reducible rfl)
            try simp only [Act.put, List.getElem_toArray, List.getElem_cons_zero, List.getElem_cons_succ, List.setIfInBounds_toArray, List.set_cons_zero, List.set_cons_succ]
            refine wpAnyH_take (i := 15) (oi := _) (v := ?_) rfl (by kernel_rfl) (by kernel_rfl) (by kernel_rfl) (fun _ _ _ h => h) (Or.inl ⟨by rfl, ?_⟩) (by assumption) ?_
            rotate_left
            · (intro w' hSw; (try dsimp only at hSw); go_simp; all_goals with_reducible rfl)
            try simp only [Act.put, List.getElem_toArray, List.getElem_cons_zero, List.getElem_cons_succ, List.setIfInBounds_toArray, List.set_cons_zero, List.set_cons_succ]
            refine wpAnyH_take (i := 16) (oi := _) (v := ?_) rfl (by kernel_rfl) (by kernel_rfl) (by kernel_rfl) (fun _ _ _ h => h) (Or.inl ⟨by rfl, ?_⟩) (by assumption) ?_
            rotate_left
            · (intro w' hSw; (try dsimp only at hSw); go_simp; all_goals with_reducible rfl)
            try simp only [Act.put, List.getElem_toArray, List.getElem_cons_zero, List.getElem_cons_succ, List.setIfInBounds_toArray, List.set_cons_zero, List.set_cons_succ]
            refine wpAnyH_ready (rs := [17]) (by kernel_rfl) (by simp) ?_
            refine AllReadyH.cons rfl (fun K hK => ?_) AllReadyH.nil
            go_simp
            go_at_call 23
            with_reducible refine HC4.out.mono ?_
            rintro e w8 ⟨rfl, hbb⟩
            have HB8 := Lib.hid (HB7.out.below hbb)
            have hS8 := bx_cells HB8.out
            clear hbb
            refine hK.out _ _ (by with_reducible exact hS8) (fun hHeld => ?_)
            clear hK K
            try simp only [Act.put, List.getElem_toArray, List.getElem_cons_zero, List.getElem_cons_succ, List.setIfInBounds_toArray, List.set_cons_zero, List.set_cons_succ]
            refine wpAnyH_take (i := 18) (oi := _) (v := ?_) rfl (by kernel_rfl) (by kernel_rfl) (by kernel_rfl) (fun _ _ _ h => h) (Or.inl ⟨by rfl, ?_⟩) (by assumption) ?_
            rotate_left
            · (intro w' hSw; (try dsimp only at hSw); go_simp; all_goals with_reducible rfl)
            try simp only [Act.put, List.getElem_toArray, List.getElem_cons_zero, List.getElem_cons_succ, List.setIfInBounds_toArray, List.set_cons_zero, List.set_cons_succ]
            refine wpAnyH_take (i := 19) (oi := _) (v := ?_) rfl (by kernel_rfl) (by kernel_rfl) (by kernel_rfl) (fun _ _ _ h => h) (Or.inl ⟨by rfl, ?_⟩) (by assumption) ?_
            rotate_left
            · (intro w' hSw; (try dsimp only at hSw); go_simp; all_goals with_reducible rfl)
            try simp only [Act.put, List.getElem_toArray, List.getElem_cons_zero, List.getElem_cons_succ, List.setIfInBounds_toArray, List.set_cons_zero, List.set_cons_succ]
            refine wpAnyH_take (i := 20) (oi := _) (v := ?_) rfl (by kernel_rfl) (by kernel_rfl) (by kernel_rfl) (fun _ _ _ h => h) (Or.inl ⟨by rfl, ?_⟩) (by assumption) ?_
            rotate_left
            · (intro w' hSw; (try dsimp only at hSw); go_simp; all_goals with_reducible rfl)
            try simp only [Act.put, List.getElem_toArray, List.getElem_cons_zero, List.getElem_cons_succ, List.setIfInBounds_toArray, List.set_cons_zero, List.set_cons_succ]
            refine wpAnyH_take (i := 21) (oi := _) (v := undef) rfl (by kernel_rfl) (by kernel_rfl) (by kernel_rfl) (fun _ _ _ h => h) (Or.inr ⟨by rfl, rfl⟩) (by assumption) ?_
            try simp only [Act.put, List.getElem_toArray, List.getElem_cons_zero, List.getElem_cons_succ, List.setIfInBounds_toArray, List.set_cons_zero, List.set_cons_succ]
            refine wpAnyH_take (i := 22) (oi := _) (v := undef) rfl (by kernel_rfl) (by kernel_rfl) (by kernel_rfl) (fun _ _ _ h => h) (Or.inr ⟨by rfl, rfl⟩) (by assumption) ?_
            try simp only [Act.put, List.getElem_toArray, List.getElem_cons_zero, List.getElem_cons_succ, List.setIfInBounds_toArray, List.set_cons_zero, List.set_cons_succ]
            refine wpAnyH_take (i := 23) (oi := _) (v := undef) rfl (by kernel_rfl) (by kernel_rfl) (by kernel_rfl) (fun _ _ _ h => h) (Or.inr ⟨by rfl, rfl⟩) (by assumption) ?_
            try simp only [Act.put, List.getElem_toArray, List.getElem_cons_zero, List.getElem_cons_succ, List.setIfInBounds_toArray, List.set_cons_zero, List.set_cons_succ]
            refine wpAnyH_take (i := 24) (oi := _) (v := undef) rfl (by kernel_rfl) (by kernel_rfl) (by kernel_rfl) (fun _ _ _ h => h) (Or.inr ⟨by rfl, rfl⟩) (by assumption) ?_
            try simp only [Act.put, List.getElem_toArray, List.getElem_cons_zero, List.getElem_cons_succ, List.setIfInBounds_toArray, List.set_cons_zero, List.set_cons_succ]
            refine wpAnyH_take (i := 25) (oi := _) (v := undef) rfl (by kernel_rfl) (by kernel_rfl) (by kernel_rfl) (fun _ _ _ h => h) (Or.inr ⟨by rfl, rfl⟩) (by assumption) ?_
            try simp only [Act.put, List.getElem_toArray, List.getElem_cons_zero, List.getElem_cons_succ, List.setIfInBounds_toArray, List.set_cons_zero, List.set_cons_succ]
            refine wpAnyH_take (i := 26) (oi := _) (v := undef) rfl (by kernel_rfl) (by kernel_rfl) (by kernel_rfl) (fun _ _ _ h => h) (Or.inr ⟨by rfl, rfl⟩) (by assumption) ?_
            try simp only [Act.put, List.getElem_toArray, List.getElem_cons_zero, List.getElem_cons_succ, List.setIfInBounds_toArray, List.set_cons_zero, List.set_cons_succ]
            refine wpAnyH_take (i := 27) (oi := _) (v := undef) rfl (by kernel_rfl) (by kernel_rfl) (by kernel_rfl) (fun _ _ _ h => h) (Or.inr ⟨by rfl, rfl⟩) (by assumption) ?_
            try simp only [Act.put, List.getElem_toArray, List.getElem_cons_zero, List.getElem_cons_succ, List.setIfInBounds_toArray, List.set_cons_zero, List.set_cons_succ]
            refine wpAnyH_take (i := 28) (oi := _) (v := undef) rfl (by kernel_rfl) (by kernel_rfl) (by kernel_rfl) (fun _ _ _ h => h) (Or.inr ⟨by rfl, rfl⟩) (by assumption) ?_
            try simp only [Act.put, List.getElem_toArray, List.getElem_cons_zero, List.getElem_cons_succ, List.setIfInBounds_toArray, List.set_cons_zero, List.set_cons_succ]
            refine wpAnyH_take (i := 29) (oi := _) (v := undef) rfl (by kernel_rfl) (by kernel_rfl) (by kernel_rfl) (fun _ _ _ h => h) (Or.inr ⟨by rfl, rfl⟩) (by assumption) ?_
            try simp only [Act.put, List.getElem_toArray, List.getElem_cons_zero, List.getElem_cons_succ, List.setIfInBounds_toArray, List.set_cons_zero, List.set_cons_succ]
            refine wpAnyH_take (i := 30) (oi := _) (v := ?_) rfl (by kernel_rfl) (by kernel_rfl) (by kernel_rfl) (fun _ _ _ h => h) (Or.inl ⟨by rfl, ?_⟩) (by assumption) ?_
            rotate_left
            · (intro w' hSw; (try dsimp only at hSw); go_simp; all_goals with_reducible rfl)
            try simp only [Act.put, List.getElem_toArray, List.getElem_cons_zero, List.getElem_cons_succ, List.setIfInBounds_toArray, List.set_cons_zero, List.set_cons_succ]
            refine wpAnyH_done (by kernel_rfl) ?_ _
            go_wp2_with fail
            go_meet
            exact ⟨by rw [hG], HB8⟩
          | true =>
            obtain ⟨na, ra, pb, poff, hpa, hpe, hpc⟩ := path_at hra HIN.out.2.1
            obtain ⟨nb, rb, qb, qoff, hqa, hqe, hqc⟩ := path_at hrb HIN.out.2.2.1
            subst hpe
            subst hqe
            have HP : Hid (∀ W, BX w v la lc fa fc a (some ⟨pb, poff, none⟩) pac oaa oac oba obc b (some ⟨qb, qoff, none⟩) qac raa rac rba rbc W → W.cell? ⟨pb, poff, none⟩ = some (.string na) ∧ W.cell? ⟨qb, qoff, none⟩ = some (.string nb)) := Lib.hid fun W h => ⟨hpc W h.1, hqc W h.1⟩
            have hl1 : 0 < a.path.length := by rw [hpa]; simp
            have hl2 : 0 < b.path.length := by rw [hqa]; simp
            by_cases hnn : na = nb
            · have hG : GO v a b = true := by unfold GO; rw [hc0, hc1, hra, hrb, hpa, hqa, hnn]; simp
              have hgn : (na.toList == nb.toList) = true := by rw [hnn]; simp
              clear hpc hqc hpa hqa hnn
              have hS4 : w4.drew.cell? ⟨w.heap.size, 0, none⟩ = some (.int .i64 v.kind) ∧ w4.drew.cell? ⟨w.heap.size, 1, none⟩ = some (.bool v.yes) ∧ w4.drew.cell? ⟨w.heap.size, 2, none⟩ = some (.int .i64 v.num) ∧ w4.drew.cell? ⟨w.heap.size, 3, none⟩ = some (.string v.text) ∧ w4.drew.cell? ⟨w.heap.size, 4, none⟩ = some (.slice la v.list.length lc) ∧ w4.drew.cell? ⟨w.heap.size, 5, none⟩ = some (.slice fa v.fields.length fc) ∧ w4.drew.cell? ⟨w.heap.size + 1, 0, none⟩ = some (.int .i64 a.kind) ∧ w4.drew.cell? ⟨w.heap.size + 1, 1, none⟩ = some (.slice (some ⟨pb, poff, none⟩) a.path.length pac) ∧ w4.drew.cell? ⟨w.heap.size + 1, 2, none⟩ = some (.int .i64 a.val.kind) ∧ w4.drew.cell? ⟨w.heap.size + 1, 3, none⟩ = some (.bool a.val.yes) ∧ w4.drew.cell? ⟨w.heap.size + 1, 4, none⟩ = some (.int .i64 a.val.num) ∧ w4.drew.cell? ⟨w.heap.size + 1, 5, none⟩ = some (.string a.val.text) ∧ w4.drew.cell? ⟨w.heap.size + 1, 6, none⟩ = some (.slice oaa a.val.list.length oac) ∧ w4.drew.cell? ⟨w.heap.size + 1, 7, none⟩ = some (.slice oba a.val.fields.length obc) ∧ w4.drew.cell? ⟨w.heap.size + 2, 0, none⟩ = some (.int .i64 b.kind) ∧ w4.drew.cell? ⟨w.heap.size + 2, 1, none⟩ = some (.slice (some ⟨qb, qoff, none⟩) b.path.length qac) ∧ w4.drew.cell? ⟨w.heap.size + 2, 2, none⟩ = some (.int .i64 b.val.kind) ∧ w4.drew.cell? ⟨w.heap.size + 2, 3, none⟩ = some (.bool b.val.yes) ∧ w4.drew.cell? ⟨w.heap.size + 2, 4, none⟩ = some (.int .i64 b.val.num) ∧ w4.drew.cell? ⟨w.heap.size + 2, 5, none⟩ = some (.string b.val.text) ∧ w4.drew.cell? ⟨w.heap.size + 2, 6, none⟩ = some (.slice raa b.val.list.length rac) ∧ w4.drew.cell? ⟨w.heap.size + 2, 7, none⟩ = some (.slice rba b.val.fields.length rbc) ∧ w4.drew.cell? ⟨pb, poff, none⟩ = some (.string na) ∧ w4.drew.cell? ⟨qb, qoff, none⟩ = some (.string nb) := bx_cells2 HB4.out (HP.out _ HB4.out)
              refine wp_region_held_drew (S := fun w' => w'.cell? ⟨w.heap.size, 0, none⟩ = some (.int .i64 v.kind) ∧ w'.cell? ⟨w.heap.size, 1, none⟩ = some (.bool v.yes) ∧ w'.cell? ⟨w.heap.size, 2, none⟩ = some (.int .i64 v.num) ∧ w'.cell? ⟨w.heap.size, 3, none⟩ = some (.string v.text) ∧ w'.cell? ⟨w.heap.size, 4, none⟩ = some (.slice la v.list.length lc) ∧ w'.cell? ⟨w.heap.size, 5, none⟩ = some (.slice fa v.fields.length fc) ∧ w'.cell? ⟨w.heap.size + 1, 0, none⟩ = some (.int .i64 a.kind) ∧ w'.cell? ⟨w.heap.size + 1, 1, none⟩ = some (.slice (some ⟨pb, poff, none⟩) a.path.length pac) ∧ w'.cell? ⟨w.heap.size + 1, 2, none⟩ = some (.int .i64 a.val.kind) ∧ w'.cell? ⟨w.heap.size + 1, 3, none⟩ = some (.bool a.val.yes) ∧ w'.cell? ⟨w.heap.size + 1, 4, none⟩ = some (.int .i64 a.val.num) ∧ w'.cell? ⟨w.heap.size + 1, 5, none⟩ = some (.string a.val.text) ∧ w'.cell? ⟨w.heap.size + 1, 6, none⟩ = some (.slice oaa a.val.list.length oac) ∧ w'.cell? ⟨w.heap.size + 1, 7, none⟩ = some (.slice oba a.val.fields.length obc) ∧ w'.cell? ⟨w.heap.size + 2, 0, none⟩ = some (.int .i64 b.kind) ∧ w'.cell? ⟨w.heap.size + 2, 1, none⟩ = some (.slice (some ⟨qb, qoff, none⟩) b.path.length qac) ∧ w'.cell? ⟨w.heap.size + 2, 2, none⟩ = some (.int .i64 b.val.kind) ∧ w'.cell? ⟨w.heap.size + 2, 3, none⟩ = some (.bool b.val.yes) ∧ w'.cell? ⟨w.heap.size + 2, 4, none⟩ = some (.int .i64 b.val.num) ∧ w'.cell? ⟨w.heap.size + 2, 5, none⟩ = some (.string b.val.text) ∧ w'.cell? ⟨w.heap.size + 2, 6, none⟩ = some (.slice raa b.val.list.length rac) ∧ w'.cell? ⟨w.heap.size + 2, 7, none⟩ = some (.slice rba b.val.fields.length rbc) ∧ w'.cell? ⟨pb, poff, none⟩ = some (.string na) ∧ w'.cell? ⟨qb, qoff, none⟩ = some (.string nb)) (by kernel_rfl) (by with_reducible exact hS4) (fun hHeld => ?_)
              refine wpAnyH_take (i := 0) (oi := _) (v := ?_) rfl (by kernel_rfl) (by kernel_rfl) (by kernel_rfl) (fun _ _ _ h => h) (Or.inl ⟨by rfl, ?_⟩) (by assumption) ?_
              rotate_left
              · (intro w' hSw; (try dsimp only at hSw); go_simp; all_goals with_reducible rfl)
              try simp only [Act.put, List.getElem_toArray, List.getElem_cons_zero, List.setIfInBounds_toArray, List.set_cons_zero, List.set_cons_succ]
              refine wpAnyH_ready (rs := [1]) (by kernel_rfl) (by simp) ?_
              refine AllReadyH.cons rfl (fun K hK => ?_) AllReadyH.nil
              go_simp
              go_at_call 11
              with_reducible refine HFW.out.mono ?_
              rintro e w5 ⟨rfl, hbb⟩
              have HB5 := Lib.hid (HB4.out.below hbb)
              have hS5 := bx_cells2 HB5.out (HP.out _ HB5.out)
              clear hbb
              have HBA := Lib.hid (HB5.out.below ((Below.refl _ w5).alloc (Nat.le_refl _) (.cells #[.int .i64 a.kind, .slice (some ⟨pb, poff, none⟩) a.path.length pac, .int .i64 a.val.kind, .bool a.val.yes, .int .i64 a.val.num, .string a.val.text, .slice oaa a.val.list.length oac, .slice oba a.val.fields.length obc, .int .i64 b.kind, .slice (some ⟨qb, qoff, none⟩) b.path.length qac, .int .i64 b.val.kind, .bool b.val.yes, .int .i64 b.val.num, .string b.val.text, .slice raa b.val.list.length rac, .slice rba b.val.fields.length rbc] 50)))
              have hSA := bx_cells2 HBA.out (HP.out _ HBA.out)
              have hc2 : Calls Try.prog 18 #[.slice (some ⟨w5.heap.size, 0, none⟩) 2 2] (w5.alloc (.cells #[.int .i64 a.kind, .slice (some ⟨pb, poff, none⟩) a.path.length pac, .int .i64 a.val.kind, .bool a.val.yes, .int .i64 a.val.num, .string a.val.text, .slice oaa a.val.list.length oac, .slice oba a.val.fields.length obc, .int .i64 b.kind, .slice (some ⟨qb, qoff, none⟩) b.path.length qac, .int .i64 b.val.kind, .bool b.val.yes, .int .i64 b.val.num, .string b.val.text, .slice raa b.val.list.length rac, .slice rba b.val.fields.length rbc] 50)) (fun e w' => e = .returned (.bool (fewOs [a, b])) ∧ Below (w5.alloc (.cells #[.int .i64 a.kind, .slice (some ⟨pb, poff, none⟩) a.path.length pac, .int .i64 a.val.kind, .bool a.val.yes, .int .i64 a.val.num, .string a.val.text, .slice oaa a.val.list.length oac, .slice oba a.val.fields.length obc, .int .i64 b.kind, .slice (some ⟨qb, qoff, none⟩) b.path.length qac, .int .i64 b.val.kind, .bool b.val.yes, .int .i64 b.val.num, .string b.val.text, .slice raa b.val.list.length rac, .slice rba b.val.fields.length rbc] 50)).heap.size (w5.alloc (.cells #[.int .i64 a.kind, .slice (some ⟨pb, poff, none⟩) a.path.length pac, .int .i64 a.val.kind, .bool a.val.yes, .int .i64 a.val.num, .string a.val.text, .slice oaa a.val.list.length oac, .slice oba a.val.fields.length obc, .int .i64 b.kind, .slice (some ⟨qb, qoff, none⟩) b.path.length qac, .int .i64 b.val.kind, .bool b.val.yes, .int .i64 b.val.num, .string b.val.text, .slice raa b.val.list.length rac, .slice rba b.val.fields.length rbc] 50)) w') := pfew_any [a, b] (some ⟨w5.heap.size, 0, none⟩) 2 _ (pair_ops (Box.new w5 _ _) HBA.out.2.2.2.2.2.1 HBA.out.2.2.2.2.2.2) (by show 2 ≤ _; omega)
              rw [hc1] at hc2
              have HC2 := Lib.hid hc2
              clear hc2
              refine hK.out _ _ (by with_reducible exact hS5) (fun hHeld => ?_)
              clear hK K
              try simp only [Act.put, List.getElem_toArray, List.getElem_cons_zero, List.getElem_cons_succ, List.setIfInBounds_toArray, List.set_cons_zero, List.set_cons_succ]
              refine wpAnyH_take (i := 2) (oi := _) (v := ?_) rfl (by kernel_rfl) (by kernel_rfl) (by kernel_rfl) (fun _ _ _ h => h) (Or.inl ⟨by rfl, ?_⟩) (by assumption) ?_
              rotate_left
              · (intro w' hSw; (try dsimp only at hSw); go_simp; all_goals with_reducible rfl)
              try simp only [Act.put, List.getElem_toArray, List.getElem_cons_zero, List.getElem_cons_succ, List.setIfInBounds_toArray, List.set_cons_zero, List.set_cons_succ]
              refine wpAnyH_take (i := 3) (oi := _) (v := ?_) rfl (by kernel_rfl) (by kernel_rfl) (by kernel_rfl) (fun _ _ _ h => h) (Or.inl ⟨by rfl, ?_⟩) (by assumption) ?_
              rotate_left
              · (intro w' hSw; (try dsimp only at hSw); go_simp; all_goals with_reducible rfl)
              try simp only [Act.put, List.getElem_toArray, List.getElem_cons_zero, List.getElem_cons_succ, List.setIfInBounds_toArray, List.set_cons_zero, List.set_cons_succ]
              refine wpAnyH_take (i := 4) (oi := _) (v := ?_) rfl (by kernel_rfl) (by kernel_rfl) (by kernel_rfl) (fun _ _ _ h => h) (Or.inl ⟨by rfl, ?_⟩) (by assumption) ?_
              rotate_left
              · (intro w' hSw; (try dsimp only at hSw); go_simp; all_goals with_reducible rfl)
              try simp only [Act.put, List.getElem_toArray, List.getElem_cons_zero, List.getElem_cons_succ, List.setIfInBounds_toArray, List.set_cons_zero, List.set_cons_succ]
              refine wpAnyH_take (i := 5) (oi := _) (v := ?_) rfl (by kernel_rfl) (by kernel_rfl) (by kernel_rfl) (fun _ _ _ h => h) (Or.inl ⟨by rfl, ?_⟩) (by assumption) ?_
              rotate_left
              · (intro w' hSw; (try dsimp only at hSw); go_simp; all_goals with_reducible rfl)
              try simp only [Act.put, List.getElem_toArray, List.getElem_cons_zero, List.getElem_cons_succ, List.setIfInBounds_toArray, List.set_cons_zero, List.set_cons_succ]
              refine wpAnyH_ready (rs := [6]) (by kernel_rfl) (by simp) ?_
              refine AllReadyH.cons rfl (fun K hK => ?_) AllReadyH.nil
              go_simp
              refine hK.out _ _ (by with_reducible exact hSA) (fun hHeld => ?_)
              clear hK K
              try simp only [Act.put, List.getElem_toArray, List.getElem_cons_zero, List.getElem_cons_succ, List.setIfInBounds_toArray, List.set_cons_zero, List.set_cons_succ]
              refine wpAnyH_ready (rs := [7]) (by kernel_rfl) (by simp) ?_
              refine AllReadyH.cons rfl (fun K hK => ?_) AllReadyH.nil
              go_simp
              go_at_call 18
              with_reducible refine HC2.out.mono ?_
              rintro e w6 ⟨rfl, hbb⟩
              have HB6 := Lib.hid (HBA.out.below hbb)
              have hS6 := bx_cells2 HB6.out (HP.out _ HB6.out)
              clear hbb
              have hc3 := lr_any a.kind a.path a.val (some ⟨pb, poff, none⟩) pac oaa oac oba obc w6 HB6.out.2.2.2.2.2.1.2.2.1 (Nat.le_trans HB6.out.2.2.2.2.2.1.1.1 HB6.out.2.2.2.2.2.1.1.2)
              rw [show rightO ⟨a.kind, a.path, a.val⟩ = rightO a from rfl, hra] at hc3
              have HC3 := Lib.hid hc3
              clear hc3
              refine hK.out _ _ (by with_reducible exact hS6) (fun hHeld => ?_)
              clear hK K
              try simp only [Act.put, List.getElem_toArray, List.getElem_cons_zero, List.getElem_cons_succ, List.setIfInBounds_toArray, List.set_cons_zero, List.set_cons_succ]
              refine wpAnyH_take (i := 8) (oi := _) (v := ?_) rfl (by kernel_rfl) (by kernel_rfl) (by kernel_rfl) (fun _ _ _ h => h) (Or.inl ⟨by rfl, ?_⟩) (by assumption) ?_
              rotate_left
              · (intro w' hSw; (try dsimp only at hSw); go_simp; all_goals with_reducible rfl)
              try simp only [Act.put, List.getElem_toArray, List.getElem_cons_zero, List.getElem_cons_succ, List.setIfInBounds_toArray, List.set_cons_zero, List.set_cons_succ]
              refine wpAnyH_take (i := 9) (oi := _) (v := ?_) rfl (by kernel_rfl) (by kernel_rfl) (by kernel_rfl) (fun _ _ _ h => h) (Or.inl ⟨by rfl, ?_⟩) (by assumption) ?_
              rotate_left
              · (intro w' hSw; (try dsimp only at hSw); go_simp; all_goals with_reducible rfl)
              try simp only [Act.put, List.getElem_toArray, List.getElem_cons_zero, List.getElem_cons_succ, List.setIfInBounds_toArray, List.set_cons_zero, List.set_cons_succ]
              refine wpAnyH_take (i := 10) (oi := _) (v := ?_) rfl (by kernel_rfl) (by kernel_rfl) (by kernel_rfl) (fun _ _ _ h => h) (Or.inl ⟨by rfl, ?_⟩) (by assumption) ?_
              rotate_left
              · (intro w' hSw; (try dsimp only at hSw); go_simp; all_goals with_reducible rfl)
              try simp only [Act.put, List.getElem_toArray, List.getElem_cons_zero, List.getElem_cons_succ, List.setIfInBounds_toArray, List.set_cons_zero, List.set_cons_succ]
              refine wpAnyH_take (i := 11) (oi := _) (v := ?_) rfl (by kernel_rfl) (by kernel_rfl) (by kernel_rfl) (fun _ _ _ h => h) (Or.inl ⟨by rfl, ?_⟩) (by assumption) ?_
              rotate_left
              · (intro w' hSw; (try dsimp only at hSw); go_simp; all_goals with_reducible rfl)
              try simp only [Act.put, List.getElem_toArray, List.getElem_cons_zero, List.getElem_cons_succ, List.setIfInBounds_toArray, List.set_cons_zero, List.set_cons_succ]
              refine wpAnyH_ready (rs := [12]) (by kernel_rfl) (by simp) ?_
              refine AllReadyH.cons rfl (fun K hK => ?_) AllReadyH.nil
              go_simp
              go_at_call 23
              with_reducible refine HC3.out.mono ?_
              rintro e w7 ⟨rfl, hbb⟩
              have HB7 := Lib.hid (HB6.out.below hbb)
              have hS7 := bx_cells2 HB7.out (HP.out _ HB7.out)
              clear hbb
              have hc4 := lr_any b.kind b.path b.val (some ⟨qb, qoff, none⟩) qac raa rac rba rbc w7 HB7.out.2.2.2.2.2.2.2.2.1 (Nat.le_trans HB7.out.2.2.2.2.2.2.1.1 HB7.out.2.2.2.2.2.2.1.2)
              rw [show rightO ⟨b.kind, b.path, b.val⟩ = rightO b from rfl, hrb] at hc4
              have HC4 := Lib.hid hc4
              clear hc4
              refine hK.out _ _ (by with_reducible exact hS7) (fun hHeld => ?_)
              clear hK K
              try simp only [Act.put, List.getElem_toArray, List.getElem_cons_zero, List.getElem_cons_succ, List.setIfInBounds_toArray, List.set_cons_zero, List.set_cons_succ]
              refine wpAnyH_take (i := 13) (oi := _) (v := ?_) rfl (by kernel_rfl) (by kernel_rfl) (by kernel_rfl) (fun _ _ _ h => h) (Or.inl ⟨by rfl, ?_⟩) (by assumption) ?_
              rotate_left
              · (intro w' hSw; (try dsimp only at hSw); go_simp; all_goals with_reducible rfl)
              try simp only [Act.put, List.getElem_toArray, List.getElem_cons_zero, List.getElem_cons_succ, List.setIfInBounds_toArray, List.set_cons_zero, List.set_cons_succ]
              refine wpAnyH_take (i := 14) (oi := _) (v := ?_) rfl (by kernel_rfl) (by kernel_rfl) (by kernel_rfl) (fun _ _ _ h => h) (Or.inl ⟨by rfl, ?_⟩) (by assumption) ?_
              rotate_left
              · (intro w' hSw; (try dsimp only at hSw); go_simp; all_goals with_reducible rfl)
              try simp only [Act.put, List.getElem_toArray, List.getElem_cons_zero, List.getElem_cons_succ, List.setIfInBounds_toArray, List.set_cons_zero, List.set_cons_succ]
              refine wpAnyH_take (i := 15) (oi := _) (v := ?_) rfl (by kernel_rfl) (by kernel_rfl) (by kernel_rfl) (fun _ _ _ h => h) (Or.inl ⟨by rfl, ?_⟩) (by assumption) ?_
              rotate_left
              · (intro w' hSw; (try dsimp only at hSw); go_simp; all_goals with_reducible rfl)
              try simp only [Act.put, List.getElem_toArray, List.getElem_cons_zero, List.getElem_cons_succ, List.setIfInBounds_toArray, List.set_cons_zero, List.set_cons_succ]
              refine wpAnyH_take (i := 16) (oi := _) (v := ?_) rfl (by kernel_rfl) (by kernel_rfl) (by kernel_rfl) (fun _ _ _ h => h) (Or.inl ⟨by rfl, ?_⟩) (by assumption) ?_
              rotate_left
              · (intro w' hSw; (try dsimp only at hSw); go_simp; all_goals with_reducible rfl)
              try simp only [Act.put, List.getElem_toArray, List.getElem_cons_zero, List.getElem_cons_succ, List.setIfInBounds_toArray, List.set_cons_zero, List.set_cons_succ]
              refine wpAnyH_ready (rs := [17]) (by kernel_rfl) (by simp) ?_
              refine AllReadyH.cons rfl (fun K hK => ?_) AllReadyH.nil
              go_simp
              go_at_call 23
              with_reducible refine HC4.out.mono ?_
              rintro e w8 ⟨rfl, hbb⟩
              have HB8 := Lib.hid (HB7.out.below hbb)
              have hS8 := bx_cells2 HB8.out (HP.out _ HB8.out)
              clear hbb
              refine hK.out _ _ (by with_reducible exact hS8) (fun hHeld => ?_)
              clear hK K
              try simp only [Act.put, List.getElem_toArray, List.getElem_cons_zero, List.getElem_cons_succ, List.setIfInBounds_toArray, List.set_cons_zero, List.set_cons_succ]
              refine wpAnyH_take (i := 18) (oi := _) (v := ?_) rfl (by kernel_rfl) (by kernel_rfl) (by kernel_rfl) (fun _ _ _ h => h) (Or.inl ⟨by rfl, ?_⟩) (by assumption) ?_
              rotate_left
              · (intro w' hSw; (try dsimp only at hSw); go_simp; all_goals with_reducible rfl)
              try simp only [Act.put, List.getElem_toArray, List.getElem_cons_zero, List.getElem_cons_succ, List.setIfInBounds_toArray, List.set_cons_zero, List.set_cons_succ]
              refine wpAnyH_take (i := 19) (oi := _) (v := ?_) rfl (by kernel_rfl) (by kernel_rfl) (by kernel_rfl) (fun _ _ _ h => h) (Or.inl ⟨by rfl, ?_⟩) (by assumption) ?_
              rotate_left
              · (intro w' hSw; (try dsimp only at hSw); go_simp; all_goals with_reducible rfl)
              try simp only [Act.put, List.getElem_toArray, List.getElem_cons_zero, List.getElem_cons_succ, List.setIfInBounds_toArray, List.set_cons_zero, List.set_cons_succ]
              refine wpAnyH_take (i := 20) (oi := _) (v := ?_) rfl (by kernel_rfl) (by kernel_rfl) (by kernel_rfl) (fun _ _ _ h => h) (Or.inl ⟨by rfl, ?_⟩) (by assumption) ?_
              rotate_left
              · (intro w' hSw; (try dsimp only at hSw); go_simp; all_goals with_reducible rfl)
              try simp only [Act.put, List.getElem_toArray, List.getElem_cons_zero, List.getElem_cons_succ, List.setIfInBounds_toArray, List.set_cons_zero, List.set_cons_succ]
              refine wpAnyH_take (i := 21) (oi := _) (v := ?_) rfl (by kernel_rfl) (by kernel_rfl) (by kernel_rfl) (fun _ _ _ h => h) (Or.inl ⟨by rfl, ?_⟩) (by assumption) ?_
              rotate_left
              · (intro w' hSw; (try dsimp only at hSw); go_simp; all_goals with_reducible rfl)
              try simp only [Act.put, List.getElem_toArray, List.getElem_cons_zero, List.getElem_cons_succ, List.setIfInBounds_toArray, List.set_cons_zero, List.set_cons_succ]
              refine wpAnyH_take (i := 22) (oi := _) (v := ?_) rfl (by kernel_rfl) (by kernel_rfl) (by kernel_rfl) (fun _ _ _ h => h) (Or.inl ⟨by rfl, ?_⟩) (by assumption) ?_
              rotate_left
              · (intro w' hSw; (try dsimp only at hSw); go_simp; all_goals with_reducible rfl)
              try simp only [Act.put, List.getElem_toArray, List.getElem_cons_zero, List.getElem_cons_succ, List.setIfInBounds_toArray, List.set_cons_zero, List.set_cons_succ]
              refine wpAnyH_take (i := 23) (oi := _) (v := ?_) rfl (by kernel_rfl) (by kernel_rfl) (by kernel_rfl) (fun _ _ _ h => h) (Or.inl ⟨by rfl, ?_⟩) (by assumption) ?_
              rotate_left
              · (intro w' hSw; (try dsimp only at hSw); go_simp; all_goals with_reducible rfl)
              try simp only [Act.put, List.getElem_toArray, List.getElem_cons_zero, List.getElem_cons_succ, List.setIfInBounds_toArray, List.set_cons_zero, List.set_cons_succ]
              refine wpAnyH_take (i := 24) (oi := _) (v := ?_) rfl (by kernel_rfl) (by kernel_rfl) (by kernel_rfl) (fun _ _ _ h => h) (Or.inl ⟨by rfl, ?_⟩) (by assumption) ?_
              rotate_left
              · (intro w' hSw; (try dsimp only at hSw); go_simp; all_goals with_reducible rfl)
              try simp only [Act.put, List.getElem_toArray, List.getElem_cons_zero, List.getElem_cons_succ, List.setIfInBounds_toArray, List.set_cons_zero, List.set_cons_succ]
              refine wpAnyH_take (i := 25) (oi := _) (v := ?_) rfl (by kernel_rfl) (by kernel_rfl) (by kernel_rfl) (fun _ _ _ h => h) (Or.inl ⟨by rfl, ?_⟩) (by assumption) ?_
              rotate_left
              · (intro w' hSw; (try dsimp only at hSw); go_simp; all_goals with_reducible rfl)
              try simp only [Act.put, List.getElem_toArray, List.getElem_cons_zero, List.getElem_cons_succ, List.setIfInBounds_toArray, List.set_cons_zero, List.set_cons_succ]
              refine wpAnyH_take (i := 26) (oi := _) (v := ?_) rfl (by kernel_rfl) (by kernel_rfl) (by kernel_rfl) (fun _ _ _ h => h) (Or.inl ⟨by rfl, ?_⟩) (by assumption) ?_
              rotate_left
              · (intro w' hSw; (try dsimp only at hSw); go_simp; all_goals with_reducible rfl)
              try simp only [Act.put, List.getElem_toArray, List.getElem_cons_zero, List.getElem_cons_succ, List.setIfInBounds_toArray, List.set_cons_zero, List.set_cons_succ]
              refine wpAnyH_take (i := 27) (oi := _) (v := ?_) rfl (by kernel_rfl) (by kernel_rfl) (by kernel_rfl) (fun _ _ _ h => h) (Or.inl ⟨by rfl, ?_⟩) (by assumption) ?_
              rotate_left
              · (intro w' hSw; (try dsimp only at hSw); go_simp; all_goals with_reducible rfl)
              try simp only [Act.put, List.getElem_toArray, List.getElem_cons_zero, List.getElem_cons_succ, List.setIfInBounds_toArray, List.set_cons_zero, List.set_cons_succ]
              refine wpAnyH_take (i := 28) (oi := _) (v := ?_) rfl (by kernel_rfl) (by kernel_rfl) (by kernel_rfl) (fun _ _ _ h => h) (Or.inl ⟨by rfl, ?_⟩) (by assumption) ?_
              rotate_left
              · (intro w' hSw; (try dsimp only at hSw); go_simp; all_goals with_reducible rfl)
              try simp only [Act.put, List.getElem_toArray, List.getElem_cons_zero, List.getElem_cons_succ, List.setIfInBounds_toArray, List.set_cons_zero, List.set_cons_succ]
              refine wpAnyH_take (i := 29) (oi := _) (v := ?_) rfl (by kernel_rfl) (by kernel_rfl) (by kernel_rfl) (fun _ _ _ h => h) (Or.inl ⟨by rfl, ?_⟩) (by assumption) ?_
              rotate_left
              · (intro w' hSw; (try dsimp only at hSw); go_simp; all_goals with_reducible rfl)
              try simp only [Act.put, List.getElem_toArray, List.getElem_cons_zero, List.getElem_cons_succ, List.setIfInBounds_toArray, List.set_cons_zero, List.set_cons_succ]
              refine wpAnyH_take (i := 30) (oi := _) (v := ?_) rfl (by kernel_rfl) (by kernel_rfl) (by kernel_rfl) (fun _ _ _ h => h) (Or.inl ⟨by rfl, ?_⟩) (by assumption) ?_
              rotate_left
              · (intro w' hSw; (try dsimp only at hSw); go_simp; all_goals with_reducible rfl)
              try simp only [Act.put, List.getElem_toArray, List.getElem_cons_zero, List.getElem_cons_succ, List.setIfInBounds_toArray, List.set_cons_zero, List.set_cons_succ]
              refine wpAnyH_done (by kernel_rfl) ?_ _
              go_wp2_with fail
              go_meet
              exact ⟨by rw [hG], HB8⟩
            · have hG : GO v a b = false := by unfold GO; rw [hc0, hc1, hra, hrb, hpa, hqa]; simp [hnn]
              have hgn : (na.toList == nb.toList) = false := by
                rw [beq_eq_false_iff_ne, Lib.toList_data, Lib.toList_data]; intro e; exact hnn (ByteArray.ext (Array.toList_inj.1 e))
              clear hpc hqc hpa hqa hnn
              have hS4 : w4.drew.cell? ⟨w.heap.size, 0, none⟩ = some (.int .i64 v.kind) ∧ w4.drew.cell? ⟨w.heap.size, 1, none⟩ = some (.bool v.yes) ∧ w4.drew.cell? ⟨w.heap.size, 2, none⟩ = some (.int .i64 v.num) ∧ w4.drew.cell? ⟨w.heap.size, 3, none⟩ = some (.string v.text) ∧ w4.drew.cell? ⟨w.heap.size, 4, none⟩ = some (.slice la v.list.length lc) ∧ w4.drew.cell? ⟨w.heap.size, 5, none⟩ = some (.slice fa v.fields.length fc) ∧ w4.drew.cell? ⟨w.heap.size + 1, 0, none⟩ = some (.int .i64 a.kind) ∧ w4.drew.cell? ⟨w.heap.size + 1, 1, none⟩ = some (.slice (some ⟨pb, poff, none⟩) a.path.length pac) ∧ w4.drew.cell? ⟨w.heap.size + 1, 2, none⟩ = some (.int .i64 a.val.kind) ∧ w4.drew.cell? ⟨w.heap.size + 1, 3, none⟩ = some (.bool a.val.yes) ∧ w4.drew.cell? ⟨w.heap.size + 1, 4, none⟩ = some (.int .i64 a.val.num) ∧ w4.drew.cell? ⟨w.heap.size + 1, 5, none⟩ = some (.string a.val.text) ∧ w4.drew.cell? ⟨w.heap.size + 1, 6, none⟩ = some (.slice oaa a.val.list.length oac) ∧ w4.drew.cell? ⟨w.heap.size + 1, 7, none⟩ = some (.slice oba a.val.fields.length obc) ∧ w4.drew.cell? ⟨w.heap.size + 2, 0, none⟩ = some (.int .i64 b.kind) ∧ w4.drew.cell? ⟨w.heap.size + 2, 1, none⟩ = some (.slice (some ⟨qb, qoff, none⟩) b.path.length qac) ∧ w4.drew.cell? ⟨w.heap.size + 2, 2, none⟩ = some (.int .i64 b.val.kind) ∧ w4.drew.cell? ⟨w.heap.size + 2, 3, none⟩ = some (.bool b.val.yes) ∧ w4.drew.cell? ⟨w.heap.size + 2, 4, none⟩ = some (.int .i64 b.val.num) ∧ w4.drew.cell? ⟨w.heap.size + 2, 5, none⟩ = some (.string b.val.text) ∧ w4.drew.cell? ⟨w.heap.size + 2, 6, none⟩ = some (.slice raa b.val.list.length rac) ∧ w4.drew.cell? ⟨w.heap.size + 2, 7, none⟩ = some (.slice rba b.val.fields.length rbc) ∧ w4.drew.cell? ⟨pb, poff, none⟩ = some (.string na) ∧ w4.drew.cell? ⟨qb, qoff, none⟩ = some (.string nb) := bx_cells2 HB4.out (HP.out _ HB4.out)
              refine wp_region_held_drew (S := fun w' => w'.cell? ⟨w.heap.size, 0, none⟩ = some (.int .i64 v.kind) ∧ w'.cell? ⟨w.heap.size, 1, none⟩ = some (.bool v.yes) ∧ w'.cell? ⟨w.heap.size, 2, none⟩ = some (.int .i64 v.num) ∧ w'.cell? ⟨w.heap.size, 3, none⟩ = some (.string v.text) ∧ w'.cell? ⟨w.heap.size, 4, none⟩ = some (.slice la v.list.length lc) ∧ w'.cell? ⟨w.heap.size, 5, none⟩ = some (.slice fa v.fields.length fc) ∧ w'.cell? ⟨w.heap.size + 1, 0, none⟩ = some (.int .i64 a.kind) ∧ w'.cell? ⟨w.heap.size + 1, 1, none⟩ = some (.slice (some ⟨pb, poff, none⟩) a.path.length pac) ∧ w'.cell? ⟨w.heap.size + 1, 2, none⟩ = some (.int .i64 a.val.kind) ∧ w'.cell? ⟨w.heap.size + 1, 3, none⟩ = some (.bool a.val.yes) ∧ w'.cell? ⟨w.heap.size + 1, 4, none⟩ = some (.int .i64 a.val.num) ∧ w'.cell? ⟨w.heap.size + 1, 5, none⟩ = some (.string a.val.text) ∧ w'.cell? ⟨w.heap.size + 1, 6, none⟩ = some (.slice oaa a.val.list.length oac) ∧ w'.cell? ⟨w.heap.size + 1, 7, none⟩ = some (.slice oba a.val.fields.length obc) ∧ w'.cell? ⟨w.heap.size + 2, 0, none⟩ = some (.int .i64 b.kind) ∧ w'.cell? ⟨w.heap.size + 2, 1, none⟩ = some (.slice (some ⟨qb, qoff, none⟩) b.path.length qac) ∧ w'.cell? ⟨w.heap.size + 2, 2, none⟩ = some (.int .i64 b.val.kind) ∧ w'.cell? ⟨w.heap.size + 2, 3, none⟩ = some (.bool b.val.yes) ∧ w'.cell? ⟨w.heap.size + 2, 4, none⟩ = some (.int .i64 b.val.num) ∧ w'.cell? ⟨w.heap.size + 2, 5, none⟩ = some (.string b.val.text) ∧ w'.cell? ⟨w.heap.size + 2, 6, none⟩ = some (.slice raa b.val.list.length rac) ∧ w'.cell? ⟨w.heap.size + 2, 7, none⟩ = some (.slice rba b.val.fields.length rbc) ∧ w'.cell? ⟨pb, poff, none⟩ = some (.string na) ∧ w'.cell? ⟨qb, qoff, none⟩ = some (.string nb)) (by kernel_rfl) (by with_reducible exact hS4) (fun hHeld => ?_)
              refine wpAnyH_take (i := 0) (oi := _) (v := ?_) rfl (by kernel_rfl) (by kernel_rfl) (by kernel_rfl) (fun _ _ _ h => h) (Or.inl ⟨by rfl, ?_⟩) (by assumption) ?_
              rotate_left
              · (intro w' hSw; (try dsimp only at hSw); go_simp; all_goals with_reducible rfl)
              try simp only [Act.put, List.getElem_toArray, List.getElem_cons_zero, List.setIfInBounds_toArray, List.set_cons_zero, List.set_cons_succ]
              refine wpAnyH_ready (rs := [1]) (by kernel_rfl) (by simp) ?_
              refine AllReadyH.cons rfl (fun K hK => ?_) AllReadyH.nil
              go_simp
              go_at_call 11
              with_reducible refine HFW.out.mono ?_
              rintro e w5 ⟨rfl, hbb⟩
              have HB5 := Lib.hid (HB4.out.below hbb)
              have hS5 := bx_cells2 HB5.out (HP.out _ HB5.out)
              clear hbb
              have HBA := Lib.hid (HB5.out.below ((Below.refl _ w5).alloc (Nat.le_refl _) (.cells #[.int .i64 a.kind, .slice (some ⟨pb, poff, none⟩) a.path.length pac, .int .i64 a.val.kind, .bool a.val.yes, .int .i64 a.val.num, .string a.val.text, .slice oaa a.val.list.length oac, .slice oba a.val.fields.length obc, .int .i64 b.kind, .slice (some ⟨qb, qoff, none⟩) b.path.length qac, .int .i64 b.val.kind, .bool b.val.yes, .int .i64 b.val.num, .string b.val.text, .slice raa b.val.list.length rac, .slice rba b.val.fields.length rbc] 50)))
              have hSA := bx_cells2 HBA.out (HP.out _ HBA.out)
              have hc2 : Calls Try.prog 18 #[.slice (some ⟨w5.heap.size, 0, none⟩) 2 2] (w5.alloc (.cells #[.int .i64 a.kind, .slice (some ⟨pb, poff, none⟩) a.path.length pac, .int .i64 a.val.kind, .bool a.val.yes, .int .i64 a.val.num, .string a.val.text, .slice oaa a.val.list.length oac, .slice oba a.val.fields.length obc, .int .i64 b.kind, .slice (some ⟨qb, qoff, none⟩) b.path.length qac, .int .i64 b.val.kind, .bool b.val.yes, .int .i64 b.val.num, .string b.val.text, .slice raa b.val.list.length rac, .slice rba b.val.fields.length rbc] 50)) (fun e w' => e = .returned (.bool (fewOs [a, b])) ∧ Below (w5.alloc (.cells #[.int .i64 a.kind, .slice (some ⟨pb, poff, none⟩) a.path.length pac, .int .i64 a.val.kind, .bool a.val.yes, .int .i64 a.val.num, .string a.val.text, .slice oaa a.val.list.length oac, .slice oba a.val.fields.length obc, .int .i64 b.kind, .slice (some ⟨qb, qoff, none⟩) b.path.length qac, .int .i64 b.val.kind, .bool b.val.yes, .int .i64 b.val.num, .string b.val.text, .slice raa b.val.list.length rac, .slice rba b.val.fields.length rbc] 50)).heap.size (w5.alloc (.cells #[.int .i64 a.kind, .slice (some ⟨pb, poff, none⟩) a.path.length pac, .int .i64 a.val.kind, .bool a.val.yes, .int .i64 a.val.num, .string a.val.text, .slice oaa a.val.list.length oac, .slice oba a.val.fields.length obc, .int .i64 b.kind, .slice (some ⟨qb, qoff, none⟩) b.path.length qac, .int .i64 b.val.kind, .bool b.val.yes, .int .i64 b.val.num, .string b.val.text, .slice raa b.val.list.length rac, .slice rba b.val.fields.length rbc] 50)) w') := pfew_any [a, b] (some ⟨w5.heap.size, 0, none⟩) 2 _ (pair_ops (Box.new w5 _ _) HBA.out.2.2.2.2.2.1 HBA.out.2.2.2.2.2.2) (by show 2 ≤ _; omega)
              rw [hc1] at hc2
              have HC2 := Lib.hid hc2
              clear hc2
              refine hK.out _ _ (by with_reducible exact hS5) (fun hHeld => ?_)
              clear hK K
              try simp only [Act.put, List.getElem_toArray, List.getElem_cons_zero, List.getElem_cons_succ, List.setIfInBounds_toArray, List.set_cons_zero, List.set_cons_succ]
              refine wpAnyH_take (i := 2) (oi := _) (v := ?_) rfl (by kernel_rfl) (by kernel_rfl) (by kernel_rfl) (fun _ _ _ h => h) (Or.inl ⟨by rfl, ?_⟩) (by assumption) ?_
              rotate_left
              · (intro w' hSw; (try dsimp only at hSw); go_simp; all_goals with_reducible rfl)
              try simp only [Act.put, List.getElem_toArray, List.getElem_cons_zero, List.getElem_cons_succ, List.setIfInBounds_toArray, List.set_cons_zero, List.set_cons_succ]
              refine wpAnyH_take (i := 3) (oi := _) (v := ?_) rfl (by kernel_rfl) (by kernel_rfl) (by kernel_rfl) (fun _ _ _ h => h) (Or.inl ⟨by rfl, ?_⟩) (by assumption) ?_
              rotate_left
              · (intro w' hSw; (try dsimp only at hSw); go_simp; all_goals with_reducible rfl)
              try simp only [Act.put, List.getElem_toArray, List.getElem_cons_zero, List.getElem_cons_succ, List.setIfInBounds_toArray, List.set_cons_zero, List.set_cons_succ]
              refine wpAnyH_take (i := 4) (oi := _) (v := ?_) rfl (by kernel_rfl) (by kernel_rfl) (by kernel_rfl) (fun _ _ _ h => h) (Or.inl ⟨by rfl, ?_⟩) (by assumption) ?_
              rotate_left
              · (intro w' hSw; (try dsimp only at hSw); go_simp; all_goals with_reducible rfl)
              try simp only [Act.put, List.getElem_toArray, List.getElem_cons_zero, List.getElem_cons_succ, List.setIfInBounds_toArray, List.set_cons_zero, List.set_cons_succ]
              refine wpAnyH_take (i := 5) (oi := _) (v := ?_) rfl (by kernel_rfl) (by kernel_rfl) (by kernel_rfl) (fun _ _ _ h => h) (Or.inl ⟨by rfl, ?_⟩) (by assumption) ?_
              rotate_left
              · (intro w' hSw; (try dsimp only at hSw); go_simp; all_goals with_reducible rfl)
              try simp only [Act.put, List.getElem_toArray, List.getElem_cons_zero, List.getElem_cons_succ, List.setIfInBounds_toArray, List.set_cons_zero, List.set_cons_succ]
              refine wpAnyH_ready (rs := [6]) (by kernel_rfl) (by simp) ?_
              refine AllReadyH.cons rfl (fun K hK => ?_) AllReadyH.nil
              go_simp
              refine hK.out _ _ (by with_reducible exact hSA) (fun hHeld => ?_)
              clear hK K
              try simp only [Act.put, List.getElem_toArray, List.getElem_cons_zero, List.getElem_cons_succ, List.setIfInBounds_toArray, List.set_cons_zero, List.set_cons_succ]
              refine wpAnyH_ready (rs := [7]) (by kernel_rfl) (by simp) ?_
              refine AllReadyH.cons rfl (fun K hK => ?_) AllReadyH.nil
              go_simp
              go_at_call 18
              with_reducible refine HC2.out.mono ?_
              rintro e w6 ⟨rfl, hbb⟩
              have HB6 := Lib.hid (HBA.out.below hbb)
              have hS6 := bx_cells2 HB6.out (HP.out _ HB6.out)
              clear hbb
              have hc3 := lr_any a.kind a.path a.val (some ⟨pb, poff, none⟩) pac oaa oac oba obc w6 HB6.out.2.2.2.2.2.1.2.2.1 (Nat.le_trans HB6.out.2.2.2.2.2.1.1.1 HB6.out.2.2.2.2.2.1.1.2)
              rw [show rightO ⟨a.kind, a.path, a.val⟩ = rightO a from rfl, hra] at hc3
              have HC3 := Lib.hid hc3
              clear hc3
              refine hK.out _ _ (by with_reducible exact hS6) (fun hHeld => ?_)
              clear hK K
              try simp only [Act.put, List.getElem_toArray, List.getElem_cons_zero, List.getElem_cons_succ, List.setIfInBounds_toArray, List.set_cons_zero, List.set_cons_succ]
              refine wpAnyH_take (i := 8) (oi := _) (v := ?_) rfl (by kernel_rfl) (by kernel_rfl) (by kernel_rfl) (fun _ _ _ h => h) (Or.inl ⟨by rfl, ?_⟩) (by assumption) ?_
              rotate_left
              · (intro w' hSw; (try dsimp only at hSw); go_simp; all_goals with_reducible rfl)
              try simp only [Act.put, List.getElem_toArray, List.getElem_cons_zero, List.getElem_cons_succ, List.setIfInBounds_toArray, List.set_cons_zero, List.set_cons_succ]
              refine wpAnyH_take (i := 9) (oi := _) (v := ?_) rfl (by kernel_rfl) (by kernel_rfl) (by kernel_rfl) (fun _ _ _ h => h) (Or.inl ⟨by rfl, ?_⟩) (by assumption) ?_
              rotate_left
              · (intro w' hSw; (try dsimp only at hSw); go_simp; all_goals with_reducible rfl)
              try simp only [Act.put, List.getElem_toArray, List.getElem_cons_zero, List.getElem_cons_succ, List.setIfInBounds_toArray, List.set_cons_zero, List.set_cons_succ]
              refine wpAnyH_take (i := 10) (oi := _) (v := ?_) rfl (by kernel_rfl) (by kernel_rfl) (by kernel_rfl) (fun _ _ _ h => h) (Or.inl ⟨by rfl, ?_⟩) (by assumption) ?_
              rotate_left
              · (intro w' hSw; (try dsimp only at hSw); go_simp; all_goals with_reducible rfl)
              try simp only [Act.put, List.getElem_toArray, List.getElem_cons_zero, List.getElem_cons_succ, List.setIfInBounds_toArray, List.set_cons_zero, List.set_cons_succ]
              refine wpAnyH_take (i := 11) (oi := _) (v := ?_) rfl (by kernel_rfl) (by kernel_rfl) (by kernel_rfl) (fun _ _ _ h => h) (Or.inl ⟨by rfl, ?_⟩) (by assumption) ?_
              rotate_left
              · (intro w' hSw; (try dsimp only at hSw); go_simp; all_goals with_reducible rfl)
              try simp only [Act.put, List.getElem_toArray, List.getElem_cons_zero, List.getElem_cons_succ, List.setIfInBounds_toArray, List.set_cons_zero, List.set_cons_succ]
              refine wpAnyH_ready (rs := [12]) (by kernel_rfl) (by simp) ?_
              refine AllReadyH.cons rfl (fun K hK => ?_) AllReadyH.nil
              go_simp
              go_at_call 23
              with_reducible refine HC3.out.mono ?_
              rintro e w7 ⟨rfl, hbb⟩
              have HB7 := Lib.hid (HB6.out.below hbb)
              have hS7 := bx_cells2 HB7.out (HP.out _ HB7.out)
              clear hbb
              have hc4 := lr_any b.kind b.path b.val (some ⟨qb, qoff, none⟩) qac raa rac rba rbc w7 HB7.out.2.2.2.2.2.2.2.2.1 (Nat.le_trans HB7.out.2.2.2.2.2.2.1.1 HB7.out.2.2.2.2.2.2.1.2)
              rw [show rightO ⟨b.kind, b.path, b.val⟩ = rightO b from rfl, hrb] at hc4
              have HC4 := Lib.hid hc4
              clear hc4
              refine hK.out _ _ (by with_reducible exact hS7) (fun hHeld => ?_)
              clear hK K
              try simp only [Act.put, List.getElem_toArray, List.getElem_cons_zero, List.getElem_cons_succ, List.setIfInBounds_toArray, List.set_cons_zero, List.set_cons_succ]
              refine wpAnyH_take (i := 13) (oi := _) (v := ?_) rfl (by kernel_rfl) (by kernel_rfl) (by kernel_rfl) (fun _ _ _ h => h) (Or.inl ⟨by rfl, ?_⟩) (by assumption) ?_
              rotate_left
              · (intro w' hSw; (try dsimp only at hSw); go_simp; all_goals with_reducible rfl)
              try simp only [Act.put, List.getElem_toArray, List.getElem_cons_zero, List.getElem_cons_succ, List.setIfInBounds_toArray, List.set_cons_zero, List.set_cons_succ]
              refine wpAnyH_take (i := 14) (oi := _) (v := ?_) rfl (by kernel_rfl) (by kernel_rfl) (by kernel_rfl) (fun _ _ _ h => h) (Or.inl ⟨by rfl, ?_⟩) (by assumption) ?_
              rotate_left
              · (intro w' hSw; (try dsimp only at hSw); go_simp; all_goals with_reducible rfl)
              try simp only [Act.put, List.getElem_toArray, List.getElem_cons_zero, List.getElem_cons_succ, List.setIfInBounds_toArray, List.set_cons_zero, List.set_cons_succ]
              refine wpAnyH_take (i := 15) (oi := _) (v := ?_) rfl (by kernel_rfl) (by kernel_rfl) (by kernel_rfl) (fun _ _ _ h => h) (Or.inl ⟨by rfl, ?_⟩) (by assumption) ?_
              rotate_left
              · (intro w' hSw; (try dsimp only at hSw); go_simp; all_goals with_reducible rfl)
              try simp only [Act.put, List.getElem_toArray, List.getElem_cons_zero, List.getElem_cons_succ, List.setIfInBounds_toArray, List.set_cons_zero, List.set_cons_succ]
              refine wpAnyH_take (i := 16) (oi := _) (v := ?_) rfl (by kernel_rfl) (by kernel_rfl) (by kernel_rfl) (fun _ _ _ h => h) (Or.inl ⟨by rfl, ?_⟩) (by assumption) ?_
              rotate_left
              · (intro w' hSw; (try dsimp only at hSw); go_simp; all_goals with_reducible rfl)
              try simp only [Act.put, List.getElem_toArray, List.getElem_cons_zero, List.getElem_cons_succ, List.setIfInBounds_toArray, List.set_cons_zero, List.set_cons_succ]
              refine wpAnyH_ready (rs := [17]) (by kernel_rfl) (by simp) ?_
              refine AllReadyH.cons rfl (fun K hK => ?_) AllReadyH.nil
              go_simp
              go_at_call 23
              with_reducible refine HC4.out.mono ?_
              rintro e w8 ⟨rfl, hbb⟩
              have HB8 := Lib.hid (HB7.out.below hbb)
              have hS8 := bx_cells2 HB8.out (HP.out _ HB8.out)
              clear hbb
              refine hK.out _ _ (by with_reducible exact hS8) (fun hHeld => ?_)
              clear hK K
              try simp only [Act.put, List.getElem_toArray, List.getElem_cons_zero, List.getElem_cons_succ, List.setIfInBounds_toArray, List.set_cons_zero, List.set_cons_succ]
              refine wpAnyH_take (i := 18) (oi := _) (v := ?_) rfl (by kernel_rfl) (by kernel_rfl) (by kernel_rfl) (fun _ _ _ h => h) (Or.inl ⟨by rfl, ?_⟩) (by assumption) ?_
              rotate_left
              · (intro w' hSw; (try dsimp only at hSw); go_simp; all_goals with_reducible rfl)
              try simp only [Act.put, List.getElem_toArray, List.getElem_cons_zero, List.getElem_cons_succ, List.setIfInBounds_toArray, List.set_cons_zero, List.set_cons_succ]
              refine wpAnyH_take (i := 19) (oi := _) (v := ?_) rfl (by kernel_rfl) (by kernel_rfl) (by kernel_rfl) (fun _ _ _ h => h) (Or.inl ⟨by rfl, ?_⟩) (by assumption) ?_
              rotate_left
              · (intro w' hSw; (try dsimp only at hSw); go_simp; all_goals with_reducible rfl)
              try simp only [Act.put, List.getElem_toArray, List.getElem_cons_zero, List.getElem_cons_succ, List.setIfInBounds_toArray, List.set_cons_zero, List.set_cons_succ]
              refine wpAnyH_take (i := 20) (oi := _) (v := ?_) rfl (by kernel_rfl) (by kernel_rfl) (by kernel_rfl) (fun _ _ _ h => h) (Or.inl ⟨by rfl, ?_⟩) (by assumption) ?_
              rotate_left
              · (intro w' hSw; (try dsimp only at hSw); go_simp; all_goals with_reducible rfl)
              try simp only [Act.put, List.getElem_toArray, List.getElem_cons_zero, List.getElem_cons_succ, List.setIfInBounds_toArray, List.set_cons_zero, List.set_cons_succ]
              refine wpAnyH_take (i := 21) (oi := _) (v := ?_) rfl (by kernel_rfl) (by kernel_rfl) (by kernel_rfl) (fun _ _ _ h => h) (Or.inl ⟨by rfl, ?_⟩) (by assumption) ?_
              rotate_left
              · (intro w' hSw; (try dsimp only at hSw); go_simp; all_goals with_reducible rfl)
              try simp only [Act.put, List.getElem_toArray, List.getElem_cons_zero, List.getElem_cons_succ, List.setIfInBounds_toArray, List.set_cons_zero, List.set_cons_succ]
              refine wpAnyH_take (i := 22) (oi := _) (v := ?_) rfl (by kernel_rfl) (by kernel_rfl) (by kernel_rfl) (fun _ _ _ h => h) (Or.inl ⟨by rfl, ?_⟩) (by assumption) ?_
              rotate_left
              · (intro w' hSw; (try dsimp only at hSw); go_simp; all_goals with_reducible rfl)
              try simp only [Act.put, List.getElem_toArray, List.getElem_cons_zero, List.getElem_cons_succ, List.setIfInBounds_toArray, List.set_cons_zero, List.set_cons_succ]
              refine wpAnyH_take (i := 23) (oi := _) (v := ?_) rfl (by kernel_rfl) (by kernel_rfl) (by kernel_rfl) (fun _ _ _ h => h) (Or.inl ⟨by rfl, ?_⟩) (by assumption) ?_
              rotate_left
              · (intro w' hSw; (try dsimp only at hSw); go_simp; all_goals with_reducible rfl)
              try simp only [Act.put, List.getElem_toArray, List.getElem_cons_zero, List.getElem_cons_succ, List.setIfInBounds_toArray, List.set_cons_zero, List.set_cons_succ]
              refine wpAnyH_take (i := 24) (oi := _) (v := ?_) rfl (by kernel_rfl) (by kernel_rfl) (by kernel_rfl) (fun _ _ _ h => h) (Or.inl ⟨by rfl, ?_⟩) (by assumption) ?_
              rotate_left
              · (intro w' hSw; (try dsimp only at hSw); go_simp; all_goals with_reducible rfl)
              try simp only [Act.put, List.getElem_toArray, List.getElem_cons_zero, List.getElem_cons_succ, List.setIfInBounds_toArray, List.set_cons_zero, List.set_cons_succ]
              refine wpAnyH_take (i := 25) (oi := _) (v := ?_) rfl (by kernel_rfl) (by kernel_rfl) (by kernel_rfl) (fun _ _ _ h => h) (Or.inl ⟨by rfl, ?_⟩) (by assumption) ?_
              rotate_left
              · (intro w' hSw; (try dsimp only at hSw); go_simp; all_goals with_reducible rfl)
              try simp only [Act.put, List.getElem_toArray, List.getElem_cons_zero, List.getElem_cons_succ, List.setIfInBounds_toArray, List.set_cons_zero, List.set_cons_succ]
              refine wpAnyH_take (i := 26) (oi := _) (v := ?_) rfl (by kernel_rfl) (by kernel_rfl) (by kernel_rfl) (fun _ _ _ h => h) (Or.inl ⟨by rfl, ?_⟩) (by assumption) ?_
              rotate_left
              · (intro w' hSw; (try dsimp only at hSw); go_simp; all_goals with_reducible rfl)
              try simp only [Act.put, List.getElem_toArray, List.getElem_cons_zero, List.getElem_cons_succ, List.setIfInBounds_toArray, List.set_cons_zero, List.set_cons_succ]
              refine wpAnyH_take (i := 27) (oi := _) (v := ?_) rfl (by kernel_rfl) (by kernel_rfl) (by kernel_rfl) (fun _ _ _ h => h) (Or.inl ⟨by rfl, ?_⟩) (by assumption) ?_
              rotate_left
              · (intro w' hSw; (try dsimp only at hSw); go_simp; all_goals with_reducible rfl)
              try simp only [Act.put, List.getElem_toArray, List.getElem_cons_zero, List.getElem_cons_succ, List.setIfInBounds_toArray, List.set_cons_zero, List.set_cons_succ]
              refine wpAnyH_take (i := 28) (oi := _) (v := ?_) rfl (by kernel_rfl) (by kernel_rfl) (by kernel_rfl) (fun _ _ _ h => h) (Or.inl ⟨by rfl, ?_⟩) (by assumption) ?_
              rotate_left
              · (intro w' hSw; (try dsimp only at hSw); go_simp; all_goals with_reducible rfl)
              try simp only [Act.put, List.getElem_toArray, List.getElem_cons_zero, List.getElem_cons_succ, List.setIfInBounds_toArray, List.set_cons_zero, List.set_cons_succ]
              refine wpAnyH_take (i := 29) (oi := _) (v := ?_) rfl (by kernel_rfl) (by kernel_rfl) (by kernel_rfl) (fun _ _ _ h => h) (Or.inl ⟨by rfl, ?_⟩) (by assumption) ?_
              rotate_left
              · (intro w' hSw; (try dsimp only at hSw); go_simp; all_goals with_reducible rfl)
              try simp only [Act.put, List.getElem_toArray, List.getElem_cons_zero, List.getElem_cons_succ, List.setIfInBounds_toArray, List.set_cons_zero, List.set_cons_succ]
              refine wpAnyH_take (i := 30) (oi := _) (v := ?_) rfl (by kernel_rfl) (by kernel_rfl) (by kernel_rfl) (fun _ _ _ h => h) (Or.inl ⟨by rfl, ?_⟩) (by assumption) ?_
              rotate_left
              · (intro w' hSw; (try dsimp only at hSw); go_simp; all_goals with_reducible rfl)
              try simp only [Act.put, List.getElem_toArray, List.getElem_cons_zero, List.getElem_cons_succ, List.setIfInBounds_toArray, List.set_cons_zero, List.set_cons_succ]
              refine wpAnyH_done (by kernel_rfl) ?_ _
              go_wp2_with fail
              go_meet
              exact ⟨by rw [hG], HB8⟩

  case rest =>
    obtain ⟨rfl, HB⟩ := hcut
    cases hG : GO v a b with
    | true =>
      clear hG HB4 m0 m1 m2 m3 m4 m5 m6 m7 m8 m9 m10 m11 m12 m13 m14 m15 m16 m17 m18 m19 m20 m21
      go_wp2
      go_ret
      exact ⟨rfl, HB.out.1⟩
    | false =>
      have hg : v.few 0 = true ∧ fewOs [a, b] = true ∧ rightO a = true ∧ rightO b = true ∧ a.path.head? ≠ b.path.head? := by
        unfold GO at hG
        simpa [Bool.and_eq_true] using hG
      clear hG HB4 m0 m1 m2 m3 m4 m5 m6 m7 m8 m9 m10 m11 m12 m13 m14 m15 m16 m17 m18 m19 m20 m21
      obtain ⟨hfw, hfo, hra, hrb, hne⟩ := hg
      have hr := lright_any v 0 hfw _ _ wc HB.out.2.2.2.2.1
      obtain ⟨u, hu⟩ : ∃ u, u = v.rv := ⟨_, rfl⟩
      rw [← hu] at hr
      have hur : u.right 32 = true := by rw [hu]; exact rv_right v.dep v 0 32 (Nat.le_refl _) hfw (by omega)
      have huo : u.okv 8 := okv_few u.dep u 0 32 (Nat.le_refl _) (by rw [hu]; exact rv_few v.dep v 0 (Nat.le_refl _) hfw) hur (by rw [hu]; exact rv_n64 v.dep v (Nat.le_refl _) HIN.out.1)
      have hok : ∀ o ∈ [a, b], o.val.n64 → rightO o = true → o.val.okv 8 := fun o ho hn hr => by
        unfold fewOs at hfo
        rw [Bool.and_eq_true] at hfo
        have h1 := List.all_eq_true.1 hfo.1 o ho
        unfold fewO at h1
        simp only [Bool.and_eq_true] at h1
        unfold rightO at hr
        simp only [Bool.and_eq_true] at hr
        exact okv_few o.val.dep o.val 0 32 (Nat.le_refl _) h1.2.1 hr.2.2.2 hn
      have hoa := hok a (by simp) HIN.out.2.2.2.1 hra
      have hob := hok b (by simp) HIN.out.2.2.2.2 hrb
      obtain ⟨na, ra', pb1, po1, hpa, hq1, hq2⟩ := path_at hra HIN.out.2.1
      obtain ⟨nb, rb', pb2, po2, hqa, hq3, hq4⟩ := path_at hrb HIN.out.2.2.1
      have hnn : na ≠ nb := by
        intro e
        rw [hpa, hqa, e] at hne
        exact hne rfl
      have htwo := apply_two hpa hqa hnn (okv_iff.1 huo).1.2.2.1 hra hrb
      have HT := Lib.hid htwo
      have HOK := Lib.hid (And.intro huo (And.intro hoa hob))
      have HR := Lib.hid hr
      clear htwo hr hur huo hok hoa hob hpa hqa hnn hne hfw hfo hra hrb hu hq1 hq2 hq3 hq4
      obtain ⟨⟨v0, v1, v2, v3, v4, v5⟩, _⟩ := HB.out.2.1.six
      have hvl := HB.out.2.1.lt
      go_upto_region 5 with (fail)
      go_cut [45] (fun _ wx => Hid (∃ ua uc ub ud, BX w u ua uc ub ud a paa pac oaa oac oba obc b qaa qac raa rac rba rbc wx))
      case first =>
        go_wp2_with fail
        refine HR.out.mono ?_
        rintro e w3 ⟨lv', fv', rfl, hat, hb3⟩
        obtain ⟨⟨ua, uc, rfl⟩, ⟨ub, ud, rfl⟩, _, _⟩ := hat.is.len
        have hB3 := HB.out.below hb3
        obtain ⟨g1, g2, g3, g4, _, g6, g7⟩ := hB3
        have hwl := HB.out.2.1.lt
        have hb04 := below_ends g1 (Nat.le_refl w.heap.size) [.int .i64 u.kind, .bool u.yes, .int .i64 u.num, .string u.text, .slice ua u.list.length uc, .slice ub u.fields.length ud]
        have hE : BX w u ua uc ub ud a paa pac oaa oac oba obc b qaa qac raa rac rba rbc (sets w3 w.heap.size 0 [.int .i64 u.kind, .bool u.yes, .int .i64 u.num, .string u.text, .slice ua u.list.length uc, .slice ub u.fields.length ud]) := ⟨hb04, box_sets6 g2 _ _ _ _ _ _, (sets_far _ _ _ _ (by omega)).trans g3, (sets_far _ _ _ _ (by omega)).trans g4, at_ends hat (fun q hq => ⟨by omega, trivial⟩) _, HCA.out.1.below hb04, HCA.out.2.below hb04⟩
        simp only [sets, Nat.zero_add, Nat.reduceAdd] at hE
        have HE5 := Lib.hid hE
        clear hE
        clear v0 v1 v2 v3 v4 v5 hvl
        obtain ⟨⟨v0, v1, v2, v3, v4, v5⟩, vf0, vf1, vf2, vf3, vf4, vf5⟩ := g2.six
        have hvl := g2.lt
        clear g1 g2 g3 g4 g6 g7 hwl hb04 hat hb3 HR
        go_wp2_with fail
        go_meet
        exact Lib.hid ⟨ua, uc, ub, ud, HE5.out⟩
      case rest =>
        clear v0 v1 v2 v3 v4 v5 hvl HB HR
        obtain ⟨ua, uc, ub, ud, hbu⟩ := Hid.out hcut
        have HBU := Lib.hid hbu
        clear hcut hbu
        obtain ⟨m0, m1, m2, m3, m4, m5, m6, m7, m8, m9, m10, m11, m12, m13, m14, m15, m16, m17, m18, m19, m20, m21⟩ := bx_cells HBU.out
        have hml := HBU.out.2.1.lt
        have hml1 := HBU.out.2.2.1.lt
        have hml2 := HBU.out.2.2.2.1.lt
        obtain ⟨r1, hr1⟩ : ∃ r, applyV u [a, b] = r := ⟨_, rfl⟩
        obtain ⟨r2, hr2⟩ : ∃ r, applyV u [b, a] = r := ⟨_, rfl⟩
        have HR12 := Lib.hid (And.intro hr1 hr2)
        have hA1 : Below wc.heap.size wc (wc.alloc (.cells #[.int .i64 a.kind, .slice paa a.path.length pac, .int .i64 a.val.kind, .bool a.val.yes, .int .i64 a.val.num, .string a.val.text, .slice oaa a.val.list.length oac, .slice oba a.val.fields.length obc, .int .i64 b.kind, .slice qaa b.path.length qac, .int .i64 b.val.kind, .bool b.val.yes, .int .i64 b.val.num, .string b.val.text, .slice raa b.val.list.length rac, .slice rba b.val.fields.length rbc] 50)) := (Below.refl _ wc).alloc (Nat.le_refl _) _
        have hu1 := HBU.out.below hA1
        have hcall := pair_call hr1 hu1.2.2.2.2.1 HOK.out.1 HOK.out.2.1 HOK.out.2.2 (pair_ops (Box.new wc _ _) hu1.2.2.2.2.2.1 hu1.2.2.2.2.2.2)
        have HCALL := Lib.hid hcall
        have HU1 := Lib.hid hu1
        clear hcall hu1 hA1 hr1 hr2
        go_upto_region 6 with (fail)
        go_cut [7, 8] (fun p c wx => ∃ bx ya yc yb yd, p = .pointer (some ⟨bx, 0, none⟩) ∧ c = .int .i64 (resC r1) ∧ Hid (XB wx bx r1 ya yc yb yd ∧ BX w u ua uc ub ud a paa pac oaa oac oba obc b qaa qac raa rac rba rbc wx ∧ ∀ c, r1 = .error c → c ≠ 0))
        case first =>
          go_wp2_with fail
          refine HCALL.out.mono ?_
          rintro e w5 ⟨⟨ya, yc, yb, yd, rfl, hyat, hyb⟩, hne⟩
          have hE := Lib.hid (And.intro (XB.new hyat) (And.intro ((HU1.out.below hyb).below ((Below.refl _ w5).alloc (Nat.le_refl _) (.cells #[.int .i64 (resV r1).kind, .bool (resV r1).yes, .int .i64 (resV r1).num, .string (resV r1).text, .slice ya (resV r1).list.length yc, .slice yb (resV r1).fields.length yd] 26))) hne))
          clear hyat hyb hne HU1 HCALL m0 m1 m2 m3 m4 m5 m6 m7 m8 m9 m10 m11 m12 m13 m14 m15 m16 m17 m18 m19 m20 m21
          go_wp2_with fail
          go_meet
          exact ⟨_, ya, yc, yb, yd, rfl, rfl, hE⟩
        case rest =>
          clear HCALL HU1 HBU m0 m1 m2 m3 m4 m5 m6 m7 m8 m9 m10 m11 m12 m13 m14 m15 m16 m17 m18 m19 m20 m21 hml hml1 hml2
          obtain ⟨bx, xa, xc, xb, xd, rfl, rfl, HX⟩ := hcut
          obtain ⟨m0, m1, m2, m3, m4, m5, m6, m7, m8, m9, m10, m11, m12, m13, m14, m15, m16, m17, m18, m19, m20, m21⟩ := bx_cells HX.out.2.1
          have hml := HX.out.2.1.2.1.lt
          have hml1 := HX.out.2.1.2.2.1.lt
          have hml2 := HX.out.2.1.2.2.2.1.lt
          have hA1 : Below wc.heap.size wc (wc.alloc (.cells #[.int .i64 b.kind, .slice qaa b.path.length qac, .int .i64 b.val.kind, .bool b.val.yes, .int .i64 b.val.num, .string b.val.text, .slice raa b.val.list.length rac, .slice rba b.val.fields.length rbc, .int .i64 a.kind, .slice paa a.path.length pac, .int .i64 a.val.kind, .bool a.val.yes, .int .i64 a.val.num, .string a.val.text, .slice oaa a.val.list.length oac, .slice oba a.val.fields.length obc] 50)) := (Below.refl _ wc).alloc (Nat.le_refl _) _
          have hu1 := HX.out.2.1.below hA1
          have hcall := pair_call HR12.out.2 hu1.2.2.2.2.1 HOK.out.1 HOK.out.2.2 HOK.out.2.1 (pair_ops (Box.new wc _ _) hu1.2.2.2.2.2.2 hu1.2.2.2.2.2.1)
          have HCALL := Lib.hid hcall
          have HU1 := Lib.hid (And.intro hu1 (HX.out.1.below hA1))
          clear hcall hu1 hA1
          go_upto_region 7 with (fail)
          go_cut [9, 10] (fun p c wx => ∃ by' ya yc yb yd, p = .pointer (some ⟨by', 0, none⟩) ∧ c = .int .i64 (resC r2) ∧ Hid (XB wx by' r2 ya yc yb yd ∧ XB wx bx r1 xa xc xb xd ∧ BX w u ua uc ub ud a paa pac oaa oac oba obc b qaa qac raa rac rba rbc wx ∧ ∀ c, r2 = .error c → c ≠ 0))
          case first =>
            go_wp2_with fail
            refine HCALL.out.mono ?_
            rintro e w5 ⟨⟨ya, yc, yb, yd, rfl, hyat, hyb⟩, hne⟩
            have hA2 : Below w5.heap.size w5 (w5.alloc (.cells #[.int .i64 (resV r2).kind, .bool (resV r2).yes, .int .i64 (resV r2).num, .string (resV r2).text, .slice ya (resV r2).list.length yc, .slice yb (resV r2).fields.length yd] 26)) := (Below.refl _ w5).alloc (Nat.le_refl _) _
            have hE := Lib.hid (And.intro (XB.new hyat) (And.intro ((HU1.out.2.below hyb).below hA2) (And.intro ((HU1.out.1.below hyb).below hA2) hne)))
            clear hyat hyb hne HU1 HCALL hA2 m0 m1 m2 m3 m4 m5 m6 m7 m8 m9 m10 m11 m12 m13 m14 m15 m16 m17 m18 m19 m20 m21
            go_wp2_with fail
            go_meet
            exact ⟨_, ya, yc, yb, yd, rfl, rfl, hE⟩
          case rest =>
            clear HCALL HU1 m0 m1 m2 m3 m4 m5 m6 m7 m8 m9 m10 m11 m12 m13 m14 m15 m16 m17 m18 m19 m20 m21 hml hml1 hml2
            obtain ⟨bw, ya, yc, yb, yd, rfl, rfl, HY⟩ := hcut
            have hne1 := HX.out.2.2
            clear HX
            rcases HT.out with ⟨y, e1, e2⟩ | ⟨⟨c1, e1⟩, ⟨c2, e2⟩⟩
            · rw [HR12.out.1] at e1
              rw [HR12.out.2] at e2
              have h1 : resC r1 = 0 := by rw [e1]; rfl
              have h2 : resC r2 = 0 := by rw [e2]; rfl
              have hcm : ((resV r1).cmp (resV r2) == 0) = true := by rw [e1, e2]; show (y.cmp y == 0) = true; rw [cmp_self]; rfl
              have hs := same_any (resV r1) (resV r2) _ _ _ _ wc HY.out.2.1.2 HY.out.1.2
              rw [hcm] at hs
              rw [h1, h2]
              have HS := Lib.hid hs
              obtain ⟨⟨x0, x1, x2, x3, x4, x5⟩, _⟩ := HY.out.2.1.1.six
              obtain ⟨⟨y0, y1, y2, y3, y4, y5⟩, _⟩ := HY.out.1.1.six
              have hxl := HY.out.2.1.1.lt
              have hyl := HY.out.1.1.lt
              clear e1 e2 h1 h2 hcm hs hne1 HT HR12
              go_wp2_with fail
              refine HS.out.mono ?_
              rintro e w6 ⟨rfl, hb6⟩
              have HF := Lib.hid (HY.out.2.2.1.below hb6).1
              clear hb6 HS x0 x1 x2 x3 x4 x5 y0 y1 y2 y3 y4 y5
              go_wp2
              go_ret
              exact ⟨rfl, HF.out⟩
            · rw [HR12.out.1] at e1
              rw [HR12.out.2] at e2
              have h1 : resC r1 = c1 := by rw [e1]; rfl
              have h2 : resC r2 = c2 := by rw [e2]; rfl
              have g1 : (c1 == 0) = false := by simpa using hne1 c1 e1
              have g2 : (c2 == 0) = false := by simpa using HY.out.2.2.2 c2 e2
              have g3 : (c1 != 0) = true := by simpa using hne1 c1 e1
              rw [h1, h2]
              clear e1 e2 h1 h2 hne1 HT HR12
              go_wp2
              go_ret
              exact ⟨rfl, HY.out.2.2.1.1⟩

end Go.Proofs.Ytljhcnlifdmacaa.patchOrders