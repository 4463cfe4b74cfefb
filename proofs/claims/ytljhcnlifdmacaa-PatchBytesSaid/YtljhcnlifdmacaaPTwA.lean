/-
  Values and fields appended inside a region that draws its order.
  val's Without.
  The library's insertion sort, at the fields of a map.
  SortStableFunc at no more than 20 fields: the insertion sort.
  slices.Clone at fields.
  val's OfMap: the fields sorted, of each name the last one, and these cloned.
  copy of elements of k cells each.
  slices.Insert of one field into a row of fields that the call owns.
  val's OfMap, of one field or more.
  val's OfMap of no field.
  What OfMap keeps: names that rise.
  What OfMap keeps: of each name the last one that came.
  Of fields, those that a map keeps: their names rise, and of each name it is the last one; and what the law's Right makes of a value. Plain facts.
  What the law's Right makes of a value of few parts has few parts. Plain facts.
  The law's Right: of no list and no map.
  The law's Right: of a list.
  The law's Right: of a map; and of whatever value.
-/
import Derived.Test.YtljhcnlifdmacaaValRow
import Derived.Test.YtljhcnlifdmacaaValFld
import Derived.Test.YtljhcnlifdmacaaVGet2
import Derived.Shelf.SlSortCmp.InsertionK
import Derived.Test.YtljhcnlifdmacaaVClone2
import Derived.Test.YtljhcnlifdmacaaIsRow
import Derived.WalkSpells
import Derived.Lib.SliceRun
import Derived.Outline
import Derived.Test.YtljhcnlifdmacaaVOfList
import Derived.ArgAppend
import Derived.Deep.QuietTactic
import Derived.BigQuiet
import Derived.WalkKit
import Derived.Laws.IdiomCopy
import Derived.Shelf.Spec.SlicesInsertGrow
import Derived.Sort.LotA
import Derived.Test.YtljhcnlifdmacaaRowB
import Derived.Test.YtljhcnlifdmacaaVFew
import Derived.Test.YtljhcnlifdmacaaVClone
import Derived.Deep.RegionWith
section
namespace Go.Proofs.Ytljhcnlifdmacaa
open Go.RowKit

theorem oper_app_v (W : World) (H : Nat) (hH : W.heap.size = H) {o : Oper} {a : Act} {K : Act → World → Prop} {Q : Exit → Act → World → Prop} (s x : Operand)
    (ho : o.op = .call { callee := .builtin .append, args := #[s, x], argTypes := #[24, 24] })
    (B : Nat) (vv : Value) (vs : List V) (hs : a.eval s = vv) (hrow : VRow W B vv vs) (v : V) (lv fv : Value) (hlv : ∃ a c, lv = .slice a v.list.length c) (hfv : ∃ a c, fv = .slice a v.fields.length c) (hat : v.At W (fun x => B ≤ x ∧ vv.ownBlock ≠ some x) lv fv)
    (cs : Array Value) (hcs : cs = (v.cells lv fv).toArray) (c : Nat) (hx : a.eval x = .slice (some ⟨H, 0, none⟩) 1 c) (h63 : vs.length ≤ 1000000) (hbase : B ≤ W.heap.size)
    (h : ∀ vv' w', VRow w' B vv' (vs ++ [v]) → Up W vv w' vv' → K (a.put o.dst vv') w') :
    o.wp Try.prog a (W.alloc (.cells cs 26)) K Q := by
  subst hH hcs
  obtain ⟨i, hi, hz, hi1, hi2⟩ := info_parts infoV
  obtain ⟨old, hown, hold⟩ := hrow
  have hlen : (v.cells lv fv).length = 6 := rfl
  have hcl := hown.1
  have hn : ∀ j u, (v.cells lv fv)[j]? = some u → (W.alloc (.cells (v.cells lv fv).toArray 26)).cell? ((⟨W.heap.size, 0, none⟩ : Addr).add j) = some u := by
    intro j u hj
    have e : ((⟨W.heap.size, 0, none⟩ : Addr).add j) = ⟨W.heap.size, j, none⟩ := by unfold Addr.add; by_cases h0 : j = 0 <;> simp [h0]
    rw [e, cell_of_row (W.alloc (.cells (v.cells lv fv).toArray 26)) W.heap.size j (v.cells lv fv).toArray 26 (0, 0) (heap_alloc_new W _)]
    simpa using hj
  obtain ⟨al, cl, rfl⟩ := hlv
  obtain ⟨af, cf, rfl⟩ := hfv
  obtain ⟨v', w', hr, ho', hu⟩ := run_app (P := Try.prog) (W.alloc (.cells (v.cells _ _).toArray 26)) B 24 o.type 26 i _ 6 88 Try.underlying24 hi hz hi1 hi2 rfl (by decide) vv vs.length old (hown.alloc _)
    ⟨W.heap.size, 0, none⟩ 1 c (v.cells _ _) hlen hn (by intro u hu; simp [V.cells] at hu; rcases hu with rfl | rfl | rfl | rfl | rfl | rfl <;> rfl) (by unfold maxLen; omega) (by omega) (by simp; omega)
  unfold Oper.wp execOp
  simp only [ho, resolve, invoke, builtin, Sem.run_bind, Sem.run_pure, Result.andThen_ok, List.map_toArray, List.map_cons, List.map_nil, hs, hx, hr]
  have hu' := hu.alloc
  have hgr := hu'.1
  have hne : ∀ b, b < W.heap.size → vv.ownBlock ≠ some b → v'.ownBlock ≠ some b := fun b hb hnb e => by
    rcases hu'.2 with e2 | e2
    · rw [e2] at e; exact hnb e
    · have := e2 b e; omega
  refine (h v' w' ⟨old ++ v.cells _ _, by rw [List.length_append]; exact ho', fun j hj => ?_⟩ hu')
  by_cases hjl : j < vs.length
  · obtain ⟨l1, f1, g1, g2⟩ := hold j hjl
    refine ⟨l1, f1, fun q u hq => ?_, ?_⟩
    · rw [List.getElem_append_left hjl] at hq
      have h1 := g1 q u hq
      rw [List.getElem?_append_left (List.getElem?_eq_some_iff.1 h1).1]
      exact h1
    · rw [List.getElem_append_left hjl]
      exact V.At.move (fun b hS hlt => ⟨⟨hS.1, hne b hlt hS.2⟩, hgr.block b hlt (fun e => hS.2 e.symm)⟩) hgr.size _ (Nat.le_refl _) g2
  · obtain rfl : j = vs.length := by simp at hj; omega
    refine ⟨.slice al v.list.length cl, .slice af v.fields.length cf, fun q u hq => ?_, ?_⟩
    · rw [List.getElem_append_right (Nat.le_refl _)] at hq
      rw [List.getElem?_append_right (by rw [hcl]; omega), hcl]
      simp only [Nat.sub_self, List.getElem_cons_zero] at hq
      rw [show vs.length * 6 + q - vs.length * 6 = q by omega]
      exact hq
    · rw [List.getElem_append_right (Nat.le_refl _)]
      simp only [Nat.sub_self, List.getElem_cons_zero]
      exact V.At.move (fun b hS hlt => ⟨⟨hS.1, hne b hlt hS.2⟩, hgr.block b hlt (fun e => hS.2 e.symm)⟩) hgr.size _ (Nat.le_refl _) hat


theorem oper_app_f (W : World) (H : Nat) (hH : W.heap.size = H) {o : Oper} {a : Act} {K : Act → World → Prop} {Q : Exit → Act → World → Prop} (s x : Operand)
    (ho : o.op = .call { callee := .builtin .append, args := #[s, x], argTypes := #[22, 22] })
    (B : Nat) (vv : Value) (vs : List Fd) (hs : a.eval s = vv) (hrow : FRow W B vv vs) (v : Fd) (lv fv : Value) (hlv : ∃ a c, lv = .slice a v.2.list.length c) (hfv : ∃ a c, fv = .slice a v.2.fields.length c) (hat : v.2.At W (fun x => B ≤ x ∧ vv.ownBlock ≠ some x) lv fv)
    (cs : Array Value) (hcs : cs = (fcells v lv fv).toArray) (c : Nat) (hx : a.eval x = .slice (some ⟨H, 0, none⟩) 1 c) (h63 : vs.length ≤ 1000000) (hbase : B ≤ W.heap.size)
    (h : ∀ vv' w', FRow w' B vv' (vs ++ [v]) → Up W vv w' vv' → K (a.put o.dst vv') w') :
    o.wp Try.prog a (W.alloc (.cells cs 30)) K Q := by
  subst hH hcs
  obtain ⟨i, hi, hz, hi1, hi2⟩ := info_parts infoF
  obtain ⟨old, hown, hold⟩ := hrow
  have hlen : (fcells v lv fv).length = 7 := rfl
  have hcl := hown.1
  have hn : ∀ j u, (fcells v lv fv)[j]? = some u → (W.alloc (.cells (fcells v lv fv).toArray 30)).cell? ((⟨W.heap.size, 0, none⟩ : Addr).add j) = some u := by
    intro j u hj
    have e : ((⟨W.heap.size, 0, none⟩ : Addr).add j) = ⟨W.heap.size, j, none⟩ := by unfold Addr.add; by_cases h0 : j = 0 <;> simp [h0]
    rw [e, cell_of_row (W.alloc (.cells (fcells v lv fv).toArray 30)) W.heap.size j (fcells v lv fv).toArray 30 (0, 0) (heap_alloc_new W _)]
    simpa using hj
  obtain ⟨al, cl, rfl⟩ := hlv
  obtain ⟨af, cf, rfl⟩ := hfv
  obtain ⟨v', w', hr, ho', hu⟩ := run_app (P := Try.prog) (W.alloc (.cells (fcells v _ _).toArray 30)) B 22 o.type 30 i _ 7 104 Try.underlying22 hi hz hi1 hi2 rfl (by decide) vv vs.length old (hown.alloc _)
    ⟨W.heap.size, 0, none⟩ 1 c (fcells v _ _) hlen hn (by intro u hu; simp [fcells, V.cells] at hu; rcases hu with rfl | rfl | rfl | rfl | rfl | rfl | rfl <;> rfl) (by unfold maxLen; omega) (by omega) (by simp; omega)
  unfold Oper.wp execOp
  simp only [ho, resolve, invoke, builtin, Sem.run_bind, Sem.run_pure, Result.andThen_ok, List.map_toArray, List.map_cons, List.map_nil, hs, hx, hr]
  have hu' := hu.alloc
  have hgr := hu'.1
  have hne : ∀ b, b < W.heap.size → vv.ownBlock ≠ some b → v'.ownBlock ≠ some b := fun b hb hnb e => by
    rcases hu'.2 with e2 | e2
    · rw [e2] at e; exact hnb e
    · have := e2 b e; omega
  refine (h v' w' ⟨old ++ fcells v _ _, by rw [List.length_append]; exact ho', fun j hj => ?_⟩ hu')
  by_cases hjl : j < vs.length
  · obtain ⟨l1, f1, g1, g2⟩ := hold j hjl
    refine ⟨l1, f1, fun q u hq => ?_, ?_⟩
    · rw [List.getElem_append_left hjl] at hq
      have h1 := g1 q u hq
      rw [List.getElem?_append_left (List.getElem?_eq_some_iff.1 h1).1]
      exact h1
    · rw [List.getElem_append_left hjl]
      exact V.At.move (fun b hS hlt => ⟨⟨hS.1, hne b hlt hS.2⟩, hgr.block b hlt (fun e => hS.2 e.symm)⟩) hgr.size _ (Nat.le_refl _) g2
  · obtain rfl : j = vs.length := by simp at hj; omega
    refine ⟨.slice al v.2.list.length cl, .slice af v.2.fields.length cf, fun q u hq => ?_, ?_⟩
    · rw [List.getElem_append_right (Nat.le_refl _)] at hq
      rw [List.getElem?_append_right (by rw [hcl]; omega), hcl]
      simp only [Nat.sub_self, List.getElem_cons_zero] at hq
      rw [show vs.length * 7 + q - vs.length * 7 = q by omega]
      exact hq
    · rw [List.getElem_append_right (Nat.le_refl _)]
      simp only [Nat.sub_self, List.getElem_cons_zero]
      exact V.At.move (fun b hS hlt => ⟨⟨hS.1, hne b hlt hS.2⟩, hgr.block b hlt (fun e => hS.2 e.symm)⟩) hgr.size _ (Nat.le_refl _) hat


theorem run_app_v (W : World) (B : Nat) (vv : Value) (vs : List V) (hrow : VRow W B vv vs) (v : V) (lv fv : Value) (hlv : ∃ a c, lv = .slice a v.list.length c) (hfv : ∃ a c, fv = .slice a v.fields.length c) (hat : v.At W (fun x => B ≤ x ∧ vv.ownBlock ≠ some x) lv fv)
    (c : Nat) (h63 : vs.length ≤ 1000000) (hbase : B ≤ W.heap.size) :
    ∃ vv' w', (Builtin.append_ #[24, 24] 24 #[vv, .slice (some ⟨W.heap.size, 0, none⟩) 1 c]).run Try.prog (W.alloc (.cells (v.cells lv fv).toArray 26)) = .ok vv' w' ∧ VRow w' B vv' (vs ++ [v]) ∧ Up W vv w' vv' := by
  obtain ⟨i, hi, hz, hi1, hi2⟩ := info_parts infoV
  obtain ⟨old, hown, hold⟩ := hrow
  have hlen : (v.cells lv fv).length = 6 := rfl
  have hcl := hown.1
  have hn : ∀ j u, (v.cells lv fv)[j]? = some u → (W.alloc (.cells (v.cells lv fv).toArray 26)).cell? ((⟨W.heap.size, 0, none⟩ : Addr).add j) = some u := by
    intro j u hj
    have e : ((⟨W.heap.size, 0, none⟩ : Addr).add j) = ⟨W.heap.size, j, none⟩ := by unfold Addr.add; by_cases h0 : j = 0 <;> simp [h0]
    rw [e, cell_of_row (W.alloc (.cells (v.cells lv fv).toArray 26)) W.heap.size j (v.cells lv fv).toArray 26 (0, 0) (heap_alloc_new W _)]
    simpa using hj
  obtain ⟨al, cl, rfl⟩ := hlv
  obtain ⟨af, cf, rfl⟩ := hfv
  obtain ⟨v', w', hr, ho', hu⟩ := run_app (P := Try.prog) (W.alloc (.cells (v.cells _ _).toArray 26)) B 24 24 26 i _ 6 88 Try.underlying24 hi hz hi1 hi2 rfl (by decide) vv vs.length old (hown.alloc _)
    ⟨W.heap.size, 0, none⟩ 1 c (v.cells _ _) hlen hn (by intro u hu; simp [V.cells] at hu; rcases hu with rfl | rfl | rfl | rfl | rfl | rfl <;> rfl) (by unfold maxLen; omega) (by omega) (by simp; omega)
  have hu' := hu.alloc
  have hgr := hu'.1
  have hne : ∀ b, b < W.heap.size → vv.ownBlock ≠ some b → v'.ownBlock ≠ some b := fun b hb hnb e => by
    rcases hu'.2 with e2 | e2
    · rw [e2] at e; exact hnb e
    · have := e2 b e; omega
  refine ⟨v', w', hr, ⟨old ++ v.cells _ _, by rw [List.length_append]; exact ho', fun j hj => ?_⟩, hu'⟩
  by_cases hjl : j < vs.length
  · obtain ⟨l1, f1, g1, g2⟩ := hold j hjl
    refine ⟨l1, f1, fun q u hq => ?_, ?_⟩
    · rw [List.getElem_append_left hjl] at hq
      have h1 := g1 q u hq
      rw [List.getElem?_append_left (List.getElem?_eq_some_iff.1 h1).1]
      exact h1
    · rw [List.getElem_append_left hjl]
      exact V.At.move (fun b hS hlt => ⟨⟨hS.1, hne b hlt hS.2⟩, hgr.block b hlt (fun e => hS.2 e.symm)⟩) hgr.size _ (Nat.le_refl _) g2
  · obtain rfl : j = vs.length := by simp at hj; omega
    refine ⟨.slice al v.list.length cl, .slice af v.fields.length cf, fun q u hq => ?_, ?_⟩
    · rw [List.getElem_append_right (Nat.le_refl _)] at hq
      rw [List.getElem?_append_right (by rw [hcl]; omega), hcl]
      simp only [Nat.sub_self, List.getElem_cons_zero] at hq
      rw [show vs.length * 6 + q - vs.length * 6 = q by omega]
      exact hq
    · rw [List.getElem_append_right (Nat.le_refl _)]
      simp only [Nat.sub_self, List.getElem_cons_zero]
      exact V.At.move (fun b hS hlt => ⟨⟨hS.1, hne b hlt hS.2⟩, hgr.block b hlt (fun e => hS.2 e.symm)⟩) hgr.size _ (Nat.le_refl _) hat


theorem run_app_f (W : World) (B : Nat) (vv : Value) (vs : List Fd) (hrow : FRow W B vv vs) (v : Fd) (lv fv : Value) (hlv : ∃ a c, lv = .slice a v.2.list.length c) (hfv : ∃ a c, fv = .slice a v.2.fields.length c) (hat : v.2.At W (fun x => B ≤ x ∧ vv.ownBlock ≠ some x) lv fv)
    (c : Nat) (h63 : vs.length ≤ 1000000) (hbase : B ≤ W.heap.size) :
    ∃ vv' w', (Builtin.append_ #[22, 22] 22 #[vv, .slice (some ⟨W.heap.size, 0, none⟩) 1 c]).run Try.prog (W.alloc (.cells (fcells v lv fv).toArray 30)) = .ok vv' w' ∧ FRow w' B vv' (vs ++ [v]) ∧ Up W vv w' vv' := by
  obtain ⟨i, hi, hz, hi1, hi2⟩ := info_parts infoF
  obtain ⟨old, hown, hold⟩ := hrow
  have hlen : (fcells v lv fv).length = 7 := rfl
  have hcl := hown.1
  have hn : ∀ j u, (fcells v lv fv)[j]? = some u → (W.alloc (.cells (fcells v lv fv).toArray 30)).cell? ((⟨W.heap.size, 0, none⟩ : Addr).add j) = some u := by
    intro j u hj
    have e : ((⟨W.heap.size, 0, none⟩ : Addr).add j) = ⟨W.heap.size, j, none⟩ := by unfold Addr.add; by_cases h0 : j = 0 <;> simp [h0]
    rw [e, cell_of_row (W.alloc (.cells (fcells v lv fv).toArray 30)) W.heap.size j (fcells v lv fv).toArray 30 (0, 0) (heap_alloc_new W _)]
    simpa using hj
  obtain ⟨al, cl, rfl⟩ := hlv
  obtain ⟨af, cf, rfl⟩ := hfv
  obtain ⟨v', w', hr, ho', hu⟩ := run_app (P := Try.prog) (W.alloc (.cells (fcells v _ _).toArray 30)) B 22 22 30 i _ 7 104 Try.underlying22 hi hz hi1 hi2 rfl (by decide) vv vs.length old (hown.alloc _)
    ⟨W.heap.size, 0, none⟩ 1 c (fcells v _ _) hlen hn (by intro u hu; simp [fcells, V.cells] at hu; rcases hu with rfl | rfl | rfl | rfl | rfl | rfl | rfl <;> rfl) (by unfold maxLen; omega) (by omega) (by simp; omega)
  have hu' := hu.alloc
  have hgr := hu'.1
  have hne : ∀ b, b < W.heap.size → vv.ownBlock ≠ some b → v'.ownBlock ≠ some b := fun b hb hnb e => by
    rcases hu'.2 with e2 | e2
    · rw [e2] at e; exact hnb e
    · have := e2 b e; omega
  refine ⟨v', w', hr, ⟨old ++ fcells v _ _, by rw [List.length_append]; exact ho', fun j hj => ?_⟩, hu'⟩
  by_cases hjl : j < vs.length
  · obtain ⟨l1, f1, g1, g2⟩ := hold j hjl
    refine ⟨l1, f1, fun q u hq => ?_, ?_⟩
    · rw [List.getElem_append_left hjl] at hq
      have h1 := g1 q u hq
      rw [List.getElem?_append_left (List.getElem?_eq_some_iff.1 h1).1]
      exact h1
    · rw [List.getElem_append_left hjl]
      exact V.At.move (fun b hS hlt => ⟨⟨hS.1, hne b hlt hS.2⟩, hgr.block b hlt (fun e => hS.2 e.symm)⟩) hgr.size _ (Nat.le_refl _) g2
  · obtain rfl : j = vs.length := by simp at hj; omega
    refine ⟨.slice al v.2.list.length cl, .slice af v.2.fields.length cf, fun q u hq => ?_, ?_⟩
    · rw [List.getElem_append_right (Nat.le_refl _)] at hq
      rw [List.getElem?_append_right (by rw [hcl]; omega), hcl]
      simp only [Nat.sub_self, List.getElem_cons_zero] at hq
      rw [show vs.length * 7 + q - vs.length * 7 = q by omega]
      exact hq
    · rw [List.getElem_append_right (Nat.le_refl _)]
      simp only [Nat.sub_self, List.getElem_cons_zero]
      exact V.At.move (fun b hS hlt => ⟨⟨hS.1, hne b hlt hS.2⟩, hgr.block b hlt (fun e => hS.2 e.symm)⟩) hgr.size _ (Nat.le_refl _) hat


end Go.Proofs.Ytljhcnlifdmacaa
end

section
namespace Go.Proofs.Ytljhcnlifdmacaa
open Go.RowKit

attribute [-go_sem] Builtin.append_

def offF (l : List Fd) (n : ByteArray) : List Fd := l.filter fun p => !decide (p.1 = n)

def WithoutP (l : List Fd) (n : ByteArray) (w : World) (e : Ending) (w' : World) : Prop :=
  Below w.heap.size w w' ∧ ∃ fv, e = .returned (.agg #[.int .i64 5, .bool false, .int .i64 0, .string ⟨#[]⟩, .slice none 0 0, fv]) ∧ FRow w' w.heap.size fv (offF l n)

theorem FRow.belowW {w w' : World} {B : Nat} {vv : Value} {vs : List Fd} (h : FRow w B vv vs) (hb : Below w.heap.size w w') : FRow w' B vv vs := h.keep (fun b _ hlt => hb.block b hlt) hb.size

theorem FRow.ownW {w : World} {B : Nat} {vv : Value} {vs : List Fd} (h : FRow w B vv vs) : ∀ q, vv.ownBlock = some q → B ≤ q ∧ q < w.heap.size := by
  obtain ⟨cs, h1, _⟩ := h
  exact fun q hq => World.ownsRow.lt h1 q hq

theorem FRow.base {w : World} {B B' : Nat} {vv : Value} {vs : List Fd} (h : FRow w B vv vs) (hb : B' ≤ B) : FRow w B' vv vs := by
  obtain ⟨cs, h1, h2⟩ := h
  exact ⟨cs, ⟨h1.1, h1.2.imp id fun ⟨g, cap, cur, e1, e2, e3⟩ => ⟨g, cap, cur, e1, Nat.le_trans hb e2, e3⟩⟩, fun i hi => by
    obtain ⟨lv, fv, g1, g2⟩ := h2 i hi
    exact ⟨lv, fv, g1, V.At.move (fun b hS _ => ⟨⟨Nat.le_trans hb hS.1, hS.2⟩, rfl⟩) (Nat.le_refl _) _ (Nat.le_refl _) g2⟩⟩

theorem boxes3 (w : World) (a0 a1 a2 : Array Value) (t : TypeId) :
    Box (((w.alloc (.cells a0 t)).alloc (.cells a1 t)).alloc (.cells a2 t)) (w.heap.size + 1) t a1 ∧ Box (((w.alloc (.cells a0 t)).alloc (.cells a1 t)).alloc (.cells a2 t)) (w.heap.size + 1 + 1) t a2 ∧
      Below w.heap.size w (((w.alloc (.cells a0 t)).alloc (.cells a1 t)).alloc (.cells a2 t)) := by
  have h1 := Box.new (w.alloc (.cells a0 t)) t a1
  have h2 := Box.new ((w.alloc (.cells a0 t)).alloc (.cells a1 t)) t a2
  have e1 : (w.alloc (.cells a0 t)).heap.size = w.heap.size + 1 := by simp
  have e2 : ((w.alloc (.cells a0 t)).alloc (.cells a1 t)).heap.size = w.heap.size + 1 + 1 := by simp
  rw [e1] at h1
  rw [e2] at h2
  exact ⟨h1.alloc _, h2, (((Below.refl _ w).alloc (Nat.le_refl _) _).alloc (by omega) _).alloc (by omega) _⟩

/-- behind so many fields -/
def WO (w : World) (l : List Fd) (nm : ByteArray) (j : Nat) (wr : World) : Prop :=
  ∃ va vc, Box wr (w.heap.size + 1) 26 #[.int .i64 0, .bool false, .int .i64 0, .string ⟨#[]⟩, .slice none 0 0, .slice none 0 0] ∧ Box wr (w.heap.size + 1 + 1) 26 #[.int .i64 5, .bool false, .int .i64 0, .string ⟨#[]⟩, .slice none 0 0, .slice va (offF (l.take j) nm).length vc] ∧
    FRow wr (w.heap.size + 3) (.slice va (offF (l.take j) nm).length vc) (offF (l.take j) nm) ∧ Below w.heap.size w wr

set_option maxHeartbeats 4000000 in
set_option maxRecDepth 100000 in
theorem without_map (y : Bool) (m : Int) (t : ByteArray) (ax : Option Addr) (lx cx : Nat) (l : List Fd) (nm : ByteArray) (lv : Value) (w : World) (hsm : ∀ x ∈ l, x.2.sm) (hlen : l.length ≤ 100000) (hl : FAt w All l lv) :
    Calls Try.prog 16 #[.agg #[.int .i64 5, .bool y, .int .i64 m, .string t, .slice ax lx cx, lv], .string nm] w (WithoutP l nm w) := by
  obtain ⟨a, c, rfl, hc1, hc2, hcl⟩ := hl
  have hof := fun W => fieldsOf_map y m t ax lx cx a l.length c W
  have HSM := Lib.hid hsm
  have HC := Lib.hid hcl
  have HW : Hid (∀ w1, Below (((w.alloc (.cells #[.int .i64 5, .bool y, .int .i64 m, .string t, .slice ax lx cx, .slice a l.length c] 26)).alloc (.cells #[.int .i64 0, .bool false, .int .i64 0, .string ⟨#[]⟩, .slice none 0 0, .slice none 0 0] 26)).alloc (.cells #[.int .i64 5, .bool false, .int .i64 0, .string ⟨#[]⟩, .slice none 0 0, .slice none 0 0] 26)).heap.size (((w.alloc (.cells #[.int .i64 5, .bool y, .int .i64 m, .string t, .slice ax lx cx, .slice a l.length c] 26)).alloc (.cells #[.int .i64 0, .bool false, .int .i64 0, .string ⟨#[]⟩, .slice none 0 0, .slice none 0 0] 26)).alloc (.cells #[.int .i64 5, .bool false, .int .i64 0, .string ⟨#[]⟩, .slice none 0 0, .slice none 0 0] 26)) w1 → WO w l nm 0 w1) := Lib.hid fun w1 hb1 => by
    obtain ⟨e1, e2, e3⟩ := boxes3 w #[.int .i64 5, .bool y, .int .i64 m, .string t, .slice ax lx cx, .slice a l.length c] #[.int .i64 0, .bool false, .int .i64 0, .string ⟨#[]⟩, .slice none 0 0, .slice none 0 0] #[.int .i64 5, .bool false, .int .i64 0, .string ⟨#[]⟩, .slice none 0 0, .slice none 0 0] 26
    have hsz : (((w.alloc (.cells #[.int .i64 5, .bool y, .int .i64 m, .string t, .slice ax lx cx, .slice a l.length c] 26)).alloc (.cells #[.int .i64 0, .bool false, .int .i64 0, .string ⟨#[]⟩, .slice none 0 0, .slice none 0 0] 26)).alloc (.cells #[.int .i64 5, .bool false, .int .i64 0, .string ⟨#[]⟩, .slice none 0 0, .slice none 0 0] 26)).heap.size = w.heap.size + 3 := by simp
    refine ⟨none, 0, (hb1.block _ e1.lt).trans e1, (hb1.block _ e2.lt).trans e2, FRow.nil _ _, e3.trans (hb1.mono (by omega))⟩
  clear hsm hcl
  go_enter Try.func16, Try.ntmps16
  go_wp2_with fail
  refine (hof _).mono ?_
  rintro e w1 ⟨rfl, hb1⟩
  have HST := Lib.hid (HW.out w1 hb1)
  clear hof HW hb1
  go_wp2_with fail
  go_loopw [12] (fun cc wr => ∃ (j : Nat), j ≤ l.length ∧ cc = .int .i64 j ∧ Hid (WO w l nm j wr)) (fun cc _ => l.length - (intOf cc).toNat)
  case atStart => exact ⟨0, Nat.zero_le _, rfl, HST⟩
  case round =>
    clear HST
    obtain ⟨j, hj, rfl, HO⟩ := hrel
    by_cases hjl : j < l.length
    · have hjl' : (j : Int) < (l.length : Int) := by omega
      obtain ⟨va, vc, hZ, hO, hrow, hb⟩ := HO.out
      have hzr := hb.size
      have hOlt := hO.lt
      obtain ⟨b0, off, ea, hbl, hC⟩ : ∃ b0 off, a = some ⟨b0, off, none⟩ ∧ b0 < wr.heap.size ∧ FCells wr All b0 off l := by
        rcases HC.out with h | ⟨b0, off, ea, _, hb0, hC⟩
        · rw [h] at hjl; simp at hjl
        · exact ⟨b0, off, ea, Nat.lt_of_lt_of_le hb0 hb.size, FCells.keepAll hC hb hb0⟩
      subst ea
      obtain ⟨lx', fx, hin, hel⟩ := hC.get hjl
      have hxs := HSM.out _ (List.getElem_mem hjl)
      have htk : offF (l.take (j + 1)) nm = offF (l.take j) nm ++ (if (l[j]).1 = nm then [] else [l[j]]) := by
        unfold offF
        rw [List.take_succ_eq_append_getElem hjl, List.filter_append]
        by_cases h : (l[j]).1 = nm <;> simp [h]
      have hn9 : (offF (l.take j) nm).length ≤ 100000 := by
        have h1 := List.length_filter_le (fun p : Fd => !decide (p.1 = nm)) (l.take j)
        rw [List.length_take] at h1
        unfold offF
        omega
      obtain ⟨rows, hrows⟩ : ∃ r, r = offF (l.take j) nm := ⟨_, rfl⟩
      rw [← hrows] at hO hrow htk hn9
      have hWO : ∀ W, WO w l nm (j + 1) W ↔ ∃ va vc, Box W (w.heap.size + 1) 26 #[.int .i64 0, .bool false, .int .i64 0, .string ⟨#[]⟩, .slice none 0 0, .slice none 0 0] ∧ Box W (w.heap.size + 1 + 1) 26 #[.int .i64 5, .bool false, .int .i64 0, .string ⟨#[]⟩, .slice none 0 0, .slice va (offF (l.take (j + 1)) nm).length vc] ∧
        FRow W (w.heap.size + 3) (.slice va (offF (l.take (j + 1)) nm).length vc) (offF (l.take (j + 1)) nm) ∧ Below w.heap.size w W := fun W => Iff.rfl
      rw [htk] at hWO
      obtain ⟨p, hpe⟩ : ∃ y, y = l[j] := ⟨_, rfl⟩
      rw [← hpe] at hin hel hxs hWO
      obtain ⟨nm0, x⟩ := p
      have HWO := Lib.hid hWO
      have HLT0 := Lib.hid hjl
      clear hpe hC htk hWO hrows HO
      replace hel : x.Is wr lx' fx := hel
      replace hin : InAt wr b0 (off + j * 7) (.string nm0 :: x.cells lx' fx) := hin
      replace hxs : x.sm := hxs
      obtain ⟨⟨px, pc, rfl⟩, ⟨py, pd, rfl⟩, _, _⟩ := hel.len
      obtain ⟨p0, p1, p2, p3, p4, p5, p6⟩ := hin.seven
      by_cases hn : nm0 = nm
      · subst hn
        have g1 : (nm0.toList == nm0.toList) = true := by rw [beq_iff_eq]
        have HE : Hid (WO w l nm0 (j + 1) (wr.alloc (.cells #[.string nm0, .int .i64 x.kind, .bool x.yes, .int .i64 x.num, .string x.text, .slice px x.list.length pc, .slice py x.fields.length pd] 30))) := Lib.hid (by
          rw [HWO.out, if_pos rfl, List.append_nil]
          have hb1 : Below wr.heap.size wr (wr.alloc (.cells #[.string nm0, .int .i64 x.kind, .bool x.yes, .int .i64 x.num, .string x.text, .slice px x.list.length pc, .slice py x.fields.length pd] 30)) := (Below.refl _ wr).alloc (Nat.le_refl _) _
          exact ⟨va, vc, hZ.alloc _, hO.alloc _, hrow.belowW hb1, hb.trans (hb1.mono hzr)⟩)
        clear hin hel hrow hO hZ hb hjl HWO
        go_wp2
        go_roundw
        case rel => exact ⟨j + 1, HLT0.out, by have := HLT0.out; go_num, HE⟩
        case measure => have := HLT0.out; simp [intOf]; omega
      · have g1 : (nm0.toList == nm.toList) = false := by
          rw [beq_eq_false_iff_ne, Lib.toList_data, Lib.toList_data]; intro e; exact hn (ByteArray.ext (Array.toList_inj.1 e))
        obtain ⟨n, hnn⟩ : ∃ n, n = rows.length := ⟨_, rfl⟩
        rw [← hnn] at hO hrow hn9
        have hb1 : Below wr.heap.size wr (wr.alloc (.cells #[.string nm0, .int .i64 x.kind, .bool x.yes, .int .i64 x.num, .string x.text, .slice px x.list.length pc, .slice py x.fields.length pd] 30)) := (Below.refl _ wr).alloc (Nat.le_refl _) _
        have esz : (wr.alloc (.cells #[.string nm0, .int .i64 x.kind, .bool x.yes, .int .i64 x.num, .string x.text, .slice px x.list.length pc, .slice py x.fields.length pd] 30)).drew.heap.size = wr.heap.size + 1 := by
          show (wr.alloc (.cells #[.string nm0, .int .i64 x.kind, .bool x.yes, .int .i64 x.num, .string x.text, .slice px x.list.length pc, .slice py x.fields.length pd] 30)).heap.size = _
          simp
        have hcall := cloneFd_any x.dep (clone_all x.dep) nm0 x _ _ (wr.alloc (.cells #[.string nm0, .int .i64 x.kind, .bool x.yes, .int .i64 x.num, .string x.text, .slice px x.list.length pc, .slice py x.fields.length pd] 30)).drew (Nat.le_refl _) hxs (V.At.drew (V.Is.below hel hb1))
        have HCALL := Lib.hid hcall
        have HSL : Hid (∀ w3, Below (wr.alloc (.cells #[.string nm0, .int .i64 x.kind, .bool x.yes, .int .i64 x.num, .string x.text, .slice px x.list.length pc, .slice py x.fields.length pd] 30)).drew.heap.size (wr.alloc (.cells #[.string nm0, .int .i64 x.kind, .bool x.yes, .int .i64 x.num, .string x.text, .slice px x.list.length pc, .slice py x.fields.length pd] 30)).drew w3 → Below wr.heap.size wr w3 ∧ wr.heap.size + 1 ≤ w3.heap.size ∧ Box w3 wr.heap.size 30 #[.string nm0, .int .i64 x.kind, .bool x.yes, .int .i64 x.num, .string x.text, .slice px x.list.length pc, .slice py x.fields.length pd] ∧ Box w3 (w.heap.size + 1 + 1) 26 #[.int .i64 5, .bool false, .int .i64 0, .string ⟨#[]⟩, .slice none 0 0, .slice va n vc]) := Lib.hid (fun w3 hb3 => by
          have h3 : Below wr.heap.size wr w3 := hb1.drew.trans (hb3.mono (by rw [esz]; omega))
          exact ⟨h3, by have := hb3.size; rw [esz] at this; exact this, (hb3.block _ (by rw [esz]; omega)).trans (Box.new wr _ _), (h3.block _ hOlt).trans hO⟩)
        have HK : Hid (∀ w3 lv' fv', x.At w3 (fun q => (wr.alloc (.cells #[.string nm0, .int .i64 x.kind, .bool x.yes, .int .i64 x.num, .string x.text, .slice px x.list.length pc, .slice py x.fields.length pd] 30)).drew.heap.size ≤ q) lv' fv' → Below (wr.alloc (.cells #[.string nm0, .int .i64 x.kind, .bool x.yes, .int .i64 x.num, .string x.text, .slice px x.list.length pc, .slice py x.fields.length pd] 30)).drew.heap.size (wr.alloc (.cells #[.string nm0, .int .i64 x.kind, .bool x.yes, .int .i64 x.num, .string x.text, .slice px x.list.length pc, .slice py x.fields.length pd] 30)).drew w3 →
            ∃ qa qc w4, (Builtin.append_ #[22, 22] 22 #[.slice va n vc, .slice (some ⟨w3.heap.size, 0, none⟩) 1 1]).run Try.prog (w3.alloc (.cells #[.string nm0, .int .i64 x.kind, .bool x.yes, .int .i64 x.num, .string x.text, lv', fv'] 30)) = .ok (.slice qa (n + 1) qc) w4 ∧
              Box w4 (w.heap.size + 1 + 1) 26 #[.int .i64 5, .bool false, .int .i64 0, .string ⟨#[]⟩, .slice none 0 0, .slice va n vc] ∧ WO w l nm (j + 1) (w4.setCell ⟨w.heap.size + 1 + 1, 5, none⟩ (.slice qa (n + 1) qc))) := Lib.hid (fun w3 lv' fv' hat hb3 => by
          obtain ⟨hb3w, hsz, _, hO3⟩ := HSL.out w3 hb3
          have hrow3 := hrow.belowW hb3w
          obtain ⟨vv', w4, hr, hrow4, hup⟩ := run_app_f w3 (w.heap.size + 3) (.slice va n vc) rows hrow3 (nm0, x) lv' fv' hat.is.len.1 hat.is.len.2.1 (hat.wider (fun q hq => ⟨by
            rw [esz] at hq; omega, fun e2 => by
            rw [esz] at hq
            have := (hrow.ownW q e2).2
            omega⟩)) 1 (by omega) (by omega)
          have hne : ∀ q, (Value.slice va n vc).ownBlock = some q → w.heap.size + 3 ≤ q := fun q hq => (hrow.ownW q hq).1
          have hn1 : (rows ++ [(nm0, x)]).length = n + 1 := by rw [List.length_append, ← hnn]; rfl
          obtain ⟨qa, qc, rfl, _, _⟩ := hrow4.form
          rw [hn1] at hr hrow4 hup
          have hZ4 : Box w4 (w.heap.size + 1) 26 #[.int .i64 0, .bool false, .int .i64 0, .string ⟨#[]⟩, .slice none 0 0, .slice none 0 0] := (hup.1.block _ (by omega) (fun e => by have := hne _ e.symm; omega)).trans ((hb3w.block _ (by omega)).trans hZ)
          have hO4 : Box w4 (w.heap.size + 1 + 1) 26 #[.int .i64 5, .bool false, .int .i64 0, .string ⟨#[]⟩, .slice none 0 0, .slice va n vc] := (hup.1.block _ (by omega) (fun e => by have := hne _ e.symm; omega)).trans hO3
          have hb4 : Below w.heap.size w w4 := (hb.trans (hb3w.mono hzr)).grown hup.1 (by omega) (fun q hq => by have := hne q hq; omega)
          refine ⟨qa, qc, w4, hr, hO4, ?_⟩
          rw [HWO.out, if_neg hn, hn1]
          have hset := hO4.setSame 5 (.slice qa (n + 1) qc)
          refine ⟨qa, qc, hZ4.setFar (by show w.heap.size + 1 ≠ w.heap.size + 1 + 1; omega) _, hset, hrow4.keep (fun b hb9 _ => Below.heap_setCell w4 _ _ b (by show b ≠ w.heap.size + 1 + 1; omega)) (by simp [World.setCell]), hb4.setCell (by show w.heap.size ≤ w.heap.size + 1 + 1; omega) _⟩)
        have c5 := (hO.six).1.2.2.2.2.2
        have k5 := (hO.six).2.2.2.2.2.2
        clear hin hel hcall hb1 hrow hZ hb hjl HWO esz hn hnn hn9
        go_wp2_with fail
        go_region_with ((go_at_call 37; refine HCALL.out.mono ?_; rintro e w3 ⟨lv', fv', rfl, hat, hb3⟩; obtain ⟨qa, qc, w4, hr, hO4, hfin⟩ := HK.out w3 lv' fv' hat hb3; have HE := Lib.hid hfin; obtain ⟨⟨l0, l1, rfl⟩, ⟨l2, l3, rfl⟩, _, _⟩ := hat.is.len; obtain ⟨r0, r1, r2, r3, r4, r5, r6⟩ := (HSL.out w3 hb3).2.2.1.seven; have t5 := (HSL.out w3 hb3).2.2.2.six.1.2.2.2.2.2; have v5 := ((HSL.out w3 hb3).2.2.2.alloc (.cells #[.string nm0, .int .i64 x.kind, .bool x.yes, .int .i64 x.num, .string x.text, .slice l0 x.list.length l1, .slice l2 x.fields.length l3] 30)).six.1.2.2.2.2.2; have x5 := hO4.six.1.2.2.2.2.2; have y5 := hO4.six.2.2.2.2.2.2; clear hfin hO4 hat hb3))
        all_goals
          go_wp2
          go_roundw
          case rel => exact ⟨j + 1, HLT0.out, by have := HLT0.out; go_num, HE⟩
          case measure => have := HLT0.out; simp [intOf]; omega
    · have hge : ¬ (j : Int) < (l.length : Int) := by omega
      obtain rfl : j = l.length := by omega
      obtain ⟨va, vc, hZ, hO, hrow, hb⟩ := HO.out
      rw [List.take_of_length_le (Nat.le_refl _)] at hO hrow
      have HEND : Hid (Box wr (w.heap.size + 1) 26 #[.int .i64 0, .bool false, .int .i64 0, .string ⟨#[]⟩, .slice none 0 0, .slice none 0 0] ∧ Box wr (w.heap.size + 1 + 1) 26 #[.int .i64 5, .bool false, .int .i64 0, .string ⟨#[]⟩, .slice none 0 0, .slice va (offF l nm).length vc] ∧ FRow wr (w.heap.size + 3) (.slice va (offF l nm).length vc) (offF l nm) ∧ Below w.heap.size w wr) := Lib.hid ⟨hZ, hO, hrow, hb⟩
      obtain ⟨⟨k0, k1, k2, k3, k4, k5⟩, _⟩ := hO.six
      obtain ⟨_, s0, s1, s2, s3, s4, s5⟩ := hZ.six
      obtain ⟨⟨z0, z1, z2, z3, z4, z5⟩, _⟩ := hZ.six
      have hF := Box.sets [.int .i64 5, .bool false, .int .i64 0, .string ⟨#[]⟩, .slice none 0 0, .slice va (offF l nm).length vc] 0 hZ
      obtain ⟨⟨m0, m1, m2, m3, m4, m5⟩, _⟩ := Box.six (c0 := .int .i64 5) (c1 := .bool false) (c2 := .int .i64 0) (c3 := .string ⟨#[]⟩) (c4 := .slice none 0 0) (c5 := .slice va (offF l nm).length vc) hF
      simp only [sets, Nat.zero_add, Nat.reduceAdd] at m0 m1 m2 m3 m4 m5
      have hb5 := Below.sets [.int .i64 5, .bool false, .int .i64 0, .string ⟨#[]⟩, .slice none 0 0, .slice va (offF l nm).length vc] 0 hb (g := w.heap.size + 1) (Nat.le_succ _)
      have hrow5 : FRow (sets wr (w.heap.size + 1) 0 [.int .i64 5, .bool false, .int .i64 0, .string ⟨#[]⟩, .slice none 0 0, .slice va (offF l nm).length vc]) (w.heap.size + 3) (.slice va (offF l nm).length vc) (offF l nm) := hrow.keep (fun b hb9 _ => sets_far _ _ _ _ (by omega)) (by rw [sets_size]; exact Nat.le_refl _)
      have HO9 : Hid (WithoutP l nm w (.returned (.agg #[.int .i64 5, .bool false, .int .i64 0, .string ⟨#[]⟩, .slice none 0 0, .slice va (offF l nm).length vc])) (sets wr (w.heap.size + 1) 0 [.int .i64 5, .bool false, .int .i64 0, .string ⟨#[]⟩, .slice none 0 0, .slice va (offF l nm).length vc])) :=
        Lib.hid ⟨hb5, _, rfl, hrow5.base (by omega)⟩
      clear hZ hO hrow hb HO hjl hF hb5 hrow5 HEND
      go_wp2
      exact bodyPost_ret (v := .agg #[.int .i64 5, .bool false, .int .i64 0, .string ⟨#[]⟩, .slice none 0 0, .slice va (offF l nm).length vc]) (by simp [results, Try.results16, go_sem, m0, m1, m2, m3, m4, m5]) rfl HO9.out

end Go.Proofs.Ytljhcnlifdmacaa
end

section
namespace Go.Proofs.Ytljhcnlifdmacaa
open Go.RowKit Go.Sort

def layIns_ren : Go.Shelf.Ren := ⟨fun | 20 => 83 | n => n, fun | 22 => 22 | 24 => 30 | 25 => 70 | 0 => 0 | 3 => 3 | 4 => 4 | n => n, fun | n => n⟩
theorem layIns : Go.Proofs.SlLaysF0.n20 Try.prog layIns_ren := {
  mixed := by kernel_rfl
  f20 := ⟨Try.f83.name, by kernel_rfl, Try.func83.trans (congrArg some (by kernel_rfl))⟩
  t0 := Try.underlying0
  a0 := Try.isAgg0
  z0 := Try.sizeOf0
  v0 := Try.zeroValue0
  t3 := Try.underlying3
  a3 := Try.isAgg3
  z3 := Try.sizeOf3
  v3 := Try.zeroValue3
  t4 := Try.underlying4
  a4 := Try.isAgg4
  z4 := Try.sizeOf4
  v4 := Try.zeroValue4
  t22 := Try.underlying22
  a22 := Try.isAgg22
  z22 := Try.sizeOf22
  v22 := Try.zeroValue22
  t25 := Try.underlying70
  a25 := Try.isAgg70
  z25 := Try.sizeOf70
  v25 := Try.zeroValue70
}

/-- a field as it lies in memory -/
structure FC where
  nm : ByteArray
  v : V
  a : Option Addr
  c : Nat
  b : Option Addr
  d : Nat
instance : Inhabited FC := ⟨⟨ByteArray.empty, V.null, none, 0, none, 0⟩⟩

def FC.enc (x : FC) : List Value := [.string x.nm, .int .i64 x.v.kind, .bool x.v.yes, .int .i64 x.v.num, .string x.v.text, .slice x.a x.v.list.length x.c, .slice x.b x.v.fields.length x.d]
def FC.cf (x y : FC) : Int := cmpL x.nm.data.toList y.nm.data.toList

theorem FC.enc7 (x : FC) : x.enc.length = 7 := rfl
theorem FC.one (x : FC) : ∀ v ∈ x.enc, v.oneCell' = true := by
  intro v hv
  simp only [FC.enc, List.mem_cons, List.not_mem_nil, or_false] at hv
  rcases hv with rfl | rfl | rfl | rfl | rfl | rfl | rfl <;> rfl

theorem names_same (x y : FC) (w : World) :
    Calls Try.prog 35 #[.agg x.enc.toArray, .agg y.enc.toArray] w fun e w' => e = .returned (.int .i64 (FC.cf x y)) ∧ w' = Sort.grow w #[.cells x.enc.toArray 30, .cells y.enc.toArray 30] := by
  obtain ⟨nm, v, a, c, b, d⟩ := x
  obtain ⟨nm', v', a', c', b', d'⟩ := y
  simp only [FC.enc, FC.cf]
  go_enter Try.func35, Try.ntmps35
  go_wp2_with fail
  refine (cmpText_any nm nm' _).mono ?_
  rintro e w1 ⟨rfl, rfl⟩
  go_wp2
  go_ret
  exact ⟨rfl, by unfold Sort.grow World.alloc; simp only [World.mk.injEq, and_true]; apply Array.ext'; simp⟩

theorem cmp_lays (blk off size : Nat) (w : World) : CmpLays Try.prog 35 #[] FC.enc 7 FC.cf blk off size w := by
  intro m os dk _ x y
  exact (names_same x y _).mono fun e w' h => ⟨h.1, 0, #[.cells x.enc.toArray 30, .cells y.enc.toArray 30], h.2⟩

theorem insert_any (d : Array FC) (a b cap g : Nat) (w : World) (hH : HoldsK FC.enc 7 w g 0 d) (hg : g < w.heap.size) (hab : a ≤ b) (hb : b ≤ d.size) (hsz : d.size ≤ 1000) :
    Calls Try.prog 83 #[.slice (some ⟨g, 0, none⟩) d.size cap, .int .i64 a, .int .i64 b, .func (.func 35) #[] #[]] w fun e w' =>
      e = .returned (.tuple #[]) ∧ ∃ n os, w' = sortWorldK FC.enc 7 w g 0 n (Sort.insertionSort (ltOf FC.cf) d a b) os :=
  AnyQ.insertionSortCmpFunc (P := Try.prog) (ρ := layIns_ren) layIns 7 Try.isAgg30 Try.sizeOf30 FC.enc FC.enc7 FC.one FC.cf 35 #[] g 0 cap a b d w (fun args w => by kernel_rfl) (cmp_lays _ _ _ _) hH hg hab hb (by omega)

end Go.Proofs.Ytljhcnlifdmacaa
end

section
namespace Go.Proofs.Ytljhcnlifdmacaa
open Go.RowKit Go.Sort

/-- what the sort leaves: the row holds d', the block has its size and what lies behind the row, and all else is as it was -/
def SortW (d' : Array FC) (g : Nat) (w w' : World) : Prop :=
  (∀ T arr, Box w g T arr → ∃ arr', Box w' g T arr' ∧ arr'.size = arr.size ∧ ∀ p, d'.size * 7 ≤ p → arr'[p]? = arr[p]?) ∧ HoldsK FC.enc 7 w' g 0 d' ∧ w.grownBy w' (some g)

theorem SortW.trans {d1 d2 : Array FC} {g : Nat} {w w1 w2 : World} (h : SortW d1 g w w1) (k : SortW d2 g w1 w2) (hs : d2.size = d1.size) : SortW d2 g w w2 := by
  obtain ⟨h1, h2, h3⟩ := h
  obtain ⟨k1, k2, k3⟩ := k
  refine ⟨fun T arr hB => ?_, k2, grown_trans h3 k3 (.inl rfl)⟩
  obtain ⟨a1, b1, c1, e1⟩ := h1 T arr hB
  obtain ⟨a2, b2, c2, e2⟩ := k1 T a1 b1
  exact ⟨a2, b2, c2.trans c1, fun p hp => (e2 p hp).trans (e1 p (by omega))⟩

theorem sortW_of {d d' : Array FC} {g n : Nat} {w : World} {os : Array Obj} (hH : HoldsK FC.enc 7 w g 0 d) (hg : g < w.heap.size) (hs : d'.size = d.size) : SortW d' g w (sortWorldK FC.enc 7 w g 0 n d' os) := by
  refine ⟨fun T arr hB => ?_, holdsK_sortWorldK_c FC.enc 7 w g 0 d d' n os hH hg hs, ?_⟩
  · refine ⟨putCells id 0 (flatK FC.enc 7 d') arr, ?_, by simp [putCells], fun p hp => ?_⟩
    · unfold Box at hB ⊢
      show ((w.heap.modify g (onCells (putCells id 0 (flatK FC.enc 7 d')))) ++ os)[g]? = _
      rw [Array.getElem?_append_left (by simpa using hg), Array.getElem?_modify, if_pos rfl, hB]
      rfl
    · unfold putCells
      rw [Array.getElem?_mapIdx]
      have hn : ¬ (0 ≤ p ∧ p < 0 + (flatK FC.enc 7 d').size) := by rw [size_flatK]; omega
      cases arr[p]? with
      | none => rfl
      | some x => simp only [Option.map_some, if_neg hn]
  · refine ⟨rfl, rfl, rfl, ?_, fun k hk hne => ?_⟩
    · show w.heap.size ≤ ((w.heap.modify g (onCells (putCells id 0 (flatK FC.enc 7 d')))) ++ os).size
      simp
    · show ((w.heap.modify g (onCells (putCells id 0 (flatK FC.enc 7 d')))) ++ os)[k]? = _
      have hgk : g ≠ k := fun e => hne (by rw [e])
      rw [Array.getElem?_append_left (by simpa using hk), Array.getElem?_modify, if_neg hgk]

def SortedP (d : Array FC) (g : Nat) (w : World) (e : Ending) (w' : World) : Prop :=
  e = .returned (.tuple #[]) ∧ SortW (Sort.insertionSort (ltOf FC.cf) d 0 d.size) g w w'

theorem ins_size (lt : FC → FC → Bool) : ∀ (a j : Nat) (d : Array FC), (insInner lt a j d).size = d.size
  | a, 0, d => rfl
  | a, j + 1, d => by
    rw [insInner]
    split
    · rw [ins_size lt a j]; simp [swp]
    · rfl
theorem insOuter_size (lt : FC → FC → Bool) (a b : Nat) : ∀ (k i : Nat) (d : Array FC), b - i ≤ k → (insOuter lt a b i d).size = d.size
  | 0, i, d, h => by rw [insOuter, if_neg (by omega)]
  | k + 1, i, d, h => by
    rw [insOuter]
    split
    · rw [insOuter_size lt a b k (i + 1) _ (by omega), ins_size]
    · rfl
theorem sort_size (lt : FC → FC → Bool) (d : Array FC) (a b : Nat) : (Sort.insertionSort lt d a b).size = d.size := insOuter_size lt a b _ _ d (Nat.le_refl _)
theorem sort_none (lt : FC → FC → Bool) (d : Array FC) (b : Nat) : Sort.insertionSort lt d b b = d := by
  rw [Sort.insertionSort, insOuter, if_neg (by omega)]

set_option maxHeartbeats 2000000 in
theorem stable_any (d : Array FC) (hd : d.size ≤ 20) (cap g : Nat) (w : World) (hH : HoldsK FC.enc 7 w g 0 d) (hg : g < w.heap.size) :
    Calls Try.prog 55 #[.slice (some ⟨g, 0, none⟩) d.size cap, .int .i64 d.size, .func (.func 35) #[] #[]] w (SortedP d g w) := by
  have hss := sort_size (ltOf FC.cf) d 0 d.size
  have hw : ∀ w', (∃ n os, w' = sortWorldK FC.enc 7 w g 0 n (Sort.insertionSort (ltOf FC.cf) d 0 d.size) os) → SortW (Sort.insertionSort (ltOf FC.cf) d 0 d.size) g w w' := fun w' ⟨n, os, h⟩ => by
    rw [h]; exact sortW_of hH hg hss
  have hins := insert_any d 0 d.size cap g w hH hg (Nat.zero_le _) (Nat.le_refl _) (by omega)
  generalize hD : Sort.insertionSort (ltOf FC.cf) d 0 d.size = d' at *
  have HW := Lib.hid hw
  have HD := Lib.hid hD
  have HS := Lib.hid hss
  unfold SortedP
  rw [HD.out]
  by_cases h20 : d.size = 20
  · -- one block of 20, and nothing behind it
    have H20 := Lib.hid h20
    have hrest : ∀ w', SortW d' g w w' → Calls Try.prog 83 #[.slice (some ⟨g, 0, none⟩) 20 cap, .int .i64 20, .int .i64 20, .func (.func 35) #[] #[]] w' fun e w2 => e = .returned (.tuple #[]) ∧ SortW d' g w w2 := fun w' hq => by
      have h1 := insert_any d' 20 20 cap g w' hq.2.1 (Nat.lt_of_lt_of_le hg hq.2.2.size) (Nat.le_refl _) (by omega) (by omega)
      rw [show d'.size = 20 by omega] at h1
      refine h1.mono fun e w2 h2 => ⟨h2.1, ?_⟩
      obtain ⟨_, n, os, h3⟩ := h2
      rw [sort_none] at h3
      rw [h3]
      exact hq.trans (sortW_of hq.2.1 (Nat.lt_of_lt_of_le hg hq.2.2.size) rfl) rfl
    rw [h20] at hins ⊢
    have HR := Lib.hid hrest
    clear hH h20 hrest hd hss hD hw
    go_enter Try.func55, Try.ntmps55
    go_wp2_with fail
    refine wp_loop_rounds 2 ?_
    rw [rounds_succ]
    go_wp2_with fail
    refine hins.mono ?_
    rintro e w1 ⟨rfl, hw1⟩
    have HW1 := Lib.hid (HW.out w1 hw1)
    clear hw1 hins
    go_wp2_with fail
    rw [rounds_succ]
    go_wp2_with fail
    refine (HR.out w1 HW1.out).mono ?_
    rintro e w2 ⟨rfl, hw2⟩
    have HW2 := Lib.hid hw2
    clear hw2
    go_wp2_with fail
    refine wp_loop_rounds 1 ?_
    rw [rounds_succ]
    go_wp2
    go_end0
    exact ⟨rfl, HW2.out⟩
  · have h1 : ¬ (20 : Int) ≤ (d.size : Int) := by omega
    have h2 : ¬ (20 : Int) < (d.size : Int) := by omega
    clear hH hd hss hD hw h20
    go_enter Try.func55, Try.ntmps55
    go_wp2_with fail
    refine wp_loop_rounds 1 ?_
    rw [rounds_succ]
    go_wp2_with fail
    refine hins.mono ?_
    rintro e w1 ⟨rfl, hw1⟩
    have HW1 := Lib.hid (HW.out w1 hw1)
    clear hw1 hins
    go_wp2_with fail
    refine wp_loop_rounds 1 ?_
    rw [rounds_succ]
    go_wp2
    go_end0
    exact ⟨rfl, HW1.out⟩

theorem sort_any (d : Array FC) (hd : d.size ≤ 20) (cap g : Nat) (w : World) (hH : HoldsK FC.enc 7 w g 0 d) (hg : g < w.heap.size) :
    Calls Try.prog 34 #[.slice (some ⟨g, 0, none⟩) d.size cap, .func (.func 35) #[] #[]] w (SortedP d g w) := by
  have hcall := stable_any d hd cap g w hH hg
  clear hH
  go_enter Try.func34, Try.ntmps34
  go_wp2_with fail
  refine hcall.mono ?_
  rintro e w1 ⟨rfl, hw1⟩
  have HW1 := Lib.hid hw1
  clear hw1 hcall
  go_wp2
  go_end0
  exact ⟨rfl, HW1.out⟩

end Go.Proofs.Ytljhcnlifdmacaa
end

section
namespace Go.Proofs.Ytljhcnlifdmacaa
open Go.RowKit Go.Sort

def FC.fd (x : FC) : Fd := (x.nm, x.v)
/-- what the fields lead to lies in blocks of S -/
def RepAt (w : World) (S : Nat → Prop) (d : Array FC) : Prop := ∀ i (h : i < d.size), (d[i]).v.At w S (.slice (d[i]).a (d[i]).v.list.length (d[i]).c) (.slice (d[i]).b (d[i]).v.fields.length (d[i]).d)

/-- the fields of a slice, as they lie there -/
theorem fields_lie {w : World} {fs : List Fd} {fv : Value} (h : FAt w All fs fv) : ∃ (a : Option Addr) (c : Nat) (d : Array FC), fv = .slice a d.size c ∧ fs = (d.map FC.fd).toList ∧ RepAt w All d ∧
    (d.size = 0 ∨ ∃ b off, a = some ⟨b, off, none⟩ ∧ b < w.heap.size ∧ ∀ i (h : i < d.size), InAt w b (off + i * 7) (d[i]).enc) := by
  obtain ⟨a, c, rfl, _, _, hc⟩ := h
  rcases hc with rfl | ⟨b, off, rfl, _, hb, hC⟩
  · exact ⟨a, c, #[], rfl, by simp, fun i hi => by simp at hi, .inl rfl⟩
  · obtain ⟨l, hl, hp⟩ := choose_lists (p := fun i (x : FC) => ∃ (hi : i < fs.length), fs[i] = FC.fd x ∧ InAt w b (off + i * 7) x.enc ∧ x.v.At w All (.slice x.a x.v.list.length x.c) (.slice x.b x.v.fields.length x.d)) fs.length fun i hi => by
      obtain ⟨lv, fv, h1, h2⟩ := hC.get hi
      obtain ⟨⟨ax, cx, rfl⟩, ⟨ay, cy, rfl⟩, _, _⟩ := h2.is.len
      exact ⟨⟨(fs[i]).1, (fs[i]).2, ax, cx, ay, cy⟩, hi, rfl, h1, h2⟩
    refine ⟨some ⟨b, off, none⟩, c, l.toArray, by simp [hl], ?_, fun i hi => ?_, .inr ⟨b, off, rfl, hb, fun i hi => ?_⟩⟩
    · apply List.ext_getElem
      · simp [hl]
      · intro i h1 h2
        obtain ⟨_, h3, _⟩ := hp i (by rw [hl]; exact h1)
        simpa using h3
    · obtain ⟨_, _, _, h4⟩ := hp i (by simpa using hi)
      simpa using h4
    · obtain ⟨_, _, h3, _⟩ := hp i (by simpa using hi)
      simpa using h3

theorem flat_at (d : Array FC) (j : Nat) (h : j < d.size * 7) : ∃ (i q : Nat) (hi : i < d.size), j = i * 7 + q ∧ q < 7 ∧ (flatK FC.enc 7 d)[j]? = ((d[i]).enc)[q]? := by
  refine ⟨j / 7, j % 7, by omega, by omega, by omega, ?_⟩
  have hi : j / 7 < d.size := by omega
  have e := get_flatK FC.enc 7 d j h
  rw [Array.getElem?_eq_getElem (by rw [size_flatK]; exact h)]
  rw [getElem!_pos _ j (by rw [size_flatK]; exact h), getElem!_pos d (j / 7) hi] at e
  rw [e, List.getElem?_eq_getElem (by rw [FC.enc7]; omega), getElem!_pos _ (j % 7) (by rw [FC.enc7]; omega)]

theorem flat_one (d : Array FC) : ∀ u ∈ (flatK FC.enc 7 d).toList, u.oneCell' = true := by
  intro u hu
  obtain ⟨j, hj, rfl⟩ := List.getElem_of_mem hu
  have hj' : j < d.size * 7 := by simpa using hj
  obtain ⟨i, q, hi, _, hq, e⟩ := flat_at d j hj'
  have e2 : (flatK FC.enc 7 d)[j]? = some ((flatK FC.enc 7 d).toList[j]) := by rw [Array.getElem?_eq_getElem (by simpa using hj')]; simp
  rw [e2] at e
  exact FC.one (d[i]) _ (List.mem_of_getElem? e.symm)

/-- what a slice of fields that the call owns holds -/
theorem holds_own {w : World} {g : Nat} {arr : Array Value} {d : Array FC} (hB : Box w g 30 arr) (h : ∀ j, j < d.size * 7 → arr[j]? = (flatK FC.enc 7 d)[j]?) : HoldsK FC.enc 7 w g 0 d := by
  intro j hj
  have hj' : j < d.size * 7 := by simpa using hj
  refine ⟨?_, by rw [Nat.zero_add]; exact hB.free j⟩
  rw [Nat.zero_add, hB.cell, h j hj', Array.getElem?_eq_getElem (by simpa using hj'), getElem!_pos _ j (by simpa using hj')]
  rfl

theorem wpList_app_fs {ops : Array Oper} {rest : List Oper} {o : Oper} {a : Act} {w : World} {Q : Exit → Act → World → Prop} (hgd : o.guard = none) (s x : Operand)
    (ho : o.op = .call { callee := .builtin .append, args := #[s, x], argTypes := #[22, 22] })
    (B : Nat) (v : Value) (hs : a.eval s = v) (hown : w.ownsRow B 30 7 v 0 []) (b off c : Nat) (d : Array FC) (hd0 : 0 < d.size)
    (hx : a.eval x = .slice (some ⟨b, off, none⟩) d.size c) (hin : ∀ i (h : i < d.size), InAt w b (off + i * 7) (d[i]).enc) (hm : d.size ≤ 1000) (hB : B ≤ w.heap.size)
    (h : ∀ g cap arr w', Box w' g 30 arr → arr.size = cap * 7 → d.size ≤ cap → cap ≤ maxLen → HoldsK FC.enc 7 w' g 0 d → B ≤ g → Below B w w' → wpList Try.prog ops Q rest (a.put o.dst (.slice (some ⟨g, 0, none⟩) d.size cap)) w') :
    wpList Try.prog ops Q (o :: rest) a w := by
  obtain ⟨i, hi, hz, hi1, hi2⟩ := info_parts infoF
  refine wpList_plain hgd fun K hK => ?_
  obtain ⟨v', w', hr, ho', hu⟩ := run_app (P := Try.prog) w B 22 o.type 30 i _ 7 104 Try.underlying22 hi hz hi1 hi2 rfl (by decide) v 0 [] hown ⟨b, off, none⟩ d.size c (flatK FC.enc 7 d).toList (by simp)
    (fun j u hj => by
      have hjl : j < d.size * 7 := by have := (List.getElem?_eq_some_iff.1 hj).1; simpa using this
      obtain ⟨p, q, hp, rfl, _, e⟩ := flat_at d j hjl
      have e1 : ((⟨b, off, none⟩ : Addr).add (p * 7 + q)) = ⟨b, off + p * 7 + q, none⟩ := by
        have hn : ∀ n : Nat, (⟨b, off, none⟩ : Addr).add n = ⟨b, off + n, none⟩ := fun n => by unfold Addr.add; by_cases h0 : n = 0 <;> simp [h0]
        rw [hn, Nat.add_assoc]
      rw [e1]
      refine hin p hp q u ?_
      rw [← e]
      simpa using hj)
    (flat_one d) (by unfold maxLen; omega) (by omega) hB
  unfold Oper.wp execOp
  simp only [ho, resolve, invoke, builtin, Sem.run_bind, Sem.run_pure, Result.andThen_ok, List.map_toArray, List.map_cons, List.map_nil, hs, hx, hr]
  have hb : Below B w w' := (Below.refl B w).grown hu.1 hB fun k hk => (World.ownsRow.lt hown k hk).1
  rw [Nat.zero_add, List.nil_append] at ho'
  rcases ho'.2 with ⟨_, h0⟩ | ⟨g, cap, cur, rfl, h1, h2, h3, h4, h5, h6⟩
  · omega
  · refine hK _ _ (h g cap cur w' h2 h5 h3 h4 (holds_own h2 fun j hj => ?_) h1 hb)
    have e : cur.toList[j]? = (cur.toList.take (d.size * 7))[j]? := by rw [List.getElem?_take_of_lt hj]
    rw [← Array.getElem?_toList, e, h6, Array.getElem?_toList]

/-- a clone of some fields: a row of the call's own -/
def FCloneP (d : Array FC) (w : World) (e : Ending) (w' : World) : Prop :=
  ∃ g cap arr, e = .returned (.slice (some ⟨g, 0, none⟩) d.size cap) ∧ Box w' g 30 arr ∧ arr.size = cap * 7 ∧ d.size ≤ cap ∧ cap ≤ maxLen ∧ HoldsK FC.enc 7 w' g 0 d ∧ w.heap.size ≤ g ∧ Below w.heap.size w w'

set_option maxHeartbeats 1000000 in
set_option maxRecDepth 100000 in
theorem fclone_any (b off c : Nat) (d : Array FC) (hd0 : 0 < d.size) (hd : d.size ≤ 1000) (w : World) (hb : b < w.heap.size) (hin : ∀ i (h : i < d.size), InAt w b (off + i * 7) (d[i]).enc) :
    Calls Try.prog 33 #[.slice (some ⟨b, off, none⟩) d.size c] w (FCloneP d w) := by
  have hown := World.ownsRow_lit (base := w.heap.size) (e := 30) (size := 7) w #[] 0 (Nat.le_refl _) (by unfold maxLen; omega) rfl
  have hb0 : Below w.heap.size w (w.alloc (.cells #[] 30)) := (Below.refl _ w).alloc (Nat.le_refl _) _
  have HIN := Lib.hid (show ∀ i (h : i < d.size), InAt (w.alloc (.cells #[] 30)) b (off + i * 7) (d[i]).enc from fun i h => (hin i h).keep (Below.heap_alloc w _ b hb))
  have HB := Lib.hid (And.intro hown hb0)
  have heq := fun w' => Lib.run_eql_slice_nil (P := Try.prog) w' 22 30 (some ⟨b, off, none⟩) d.size c 0 0 Try.underlying22
  clear hin hown hb0
  go_enter Try.func33, Try.ntmps33
  go_wp2_with (at_builtin; refine Mark.out ?_)
  refine Mark.mk ?_
  refine wpList_app_fs rfl (.tmp 5) (.tmp 6) rfl w.heap.size (.slice (some ⟨w.heap.size, 0, none⟩) 0 0) rfl HB.out.1 b off c d hd0 rfl HIN.out hd (by simp) ?_
  intro g cap arr w' h1 h2 h3 h4 h5 h6 h7
  have HH := Lib.hid (And.intro h1 (And.intro h2 (And.intro h3 (And.intro h4 (And.intro h5 (And.intro h6 (HB.out.2.trans h7)))))))
  clear h1 h2 h3 h4 h5 h6 h7
  go_wp2
  go_ret
  exact ⟨g, cap, arr, rfl, HH.out⟩

end Go.Proofs.Ytljhcnlifdmacaa
end

section
namespace Go.Proofs.Ytljhcnlifdmacaa
open Go.RowKit Go.Sort

theorem setCells_sets (g : Nat) : ∀ (cs : List Value) (w : World) (b : Nat), w.setCells g b cs = sets w g b cs
  | [], _, _ => rfl
  | _ :: cs, _, b => setCells_sets g cs _ (b + 1)

/-- one field appended where there is room -/
theorem wpList_app_keep (W : World) (H : Nat) (hH : W.heap.size = H) {ops : Array Oper} {rest : List Oper} {o : Oper} {a : Act} {Q : Exit → Act → World → Prop} (hgd : o.guard = none) (s x : Operand)
    (ho : o.op = .call { callee := .builtin .append, args := #[s, x], argTypes := #[22, 22] })
    (g k cap : Nat) (hs : a.eval s = .slice (some ⟨g, 0, none⟩) k cap) (arr : Array Value) (hB : Box W g 30 arr) (hsz : arr.size = cap * 7) (hk : k < cap) (f : FC)
    (cs : Array Value) (hcs : cs = f.enc.toArray) (c : Nat) (hx : a.eval x = .slice (some ⟨H, 0, none⟩) 1 c)
    (h : wpList Try.prog ops Q rest (a.put o.dst (.slice (some ⟨g, 0, none⟩) (k + 1) cap)) (sets (W.alloc (.cells cs 30)) g (k * 7) f.enc)) :
    wpList Try.prog ops Q (o :: rest) a (W.alloc (.cells cs 30)) := by
  subst hH hcs
  obtain ⟨i, hi, _, hi1, _⟩ := info_parts infoF
  have hB2 : Box (W.alloc (.cells f.enc.toArray 30)) g 30 arr := hB.alloc _
  have hN : Box (W.alloc (.cells f.enc.toArray 30)) W.heap.size 30 f.enc.toArray := Box.new W _ _
  have hroom : k * 7 + 7 ≤ arr.size := by omega
  refine wpList_plain hgd fun K hK => ?_
  have hr := run_append_room_cells (P := Try.prog) (W.alloc (.cells f.enc.toArray 30)) 22 o.type 30 i Try.underlying22 hi g 0 k cap ⟨W.heap.size, 0, none⟩ 1 c f.enc (by rw [hi1, FC.enc7])
    (fun j u hj => by
      have e1 : ((⟨W.heap.size, 0, none⟩ : Addr).add j) = ⟨W.heap.size, j, none⟩ := by unfold Addr.add; by_cases h0 : j = 0 <;> simp [h0]
      rw [e1, hN.cell]; simpa using hj)
    f.one (by omega)
    (fun j hj => by
      rw [FC.enc7] at hj
      rw [hi1, hB2.cell, Array.getElem?_eq_getElem (by omega)]; rfl)
    (fun j _ => hB2.free _)
  rw [hi1, Nat.zero_add, setCells_sets] at hr
  unfold Oper.wp execOp
  simp only [ho, resolve, invoke, builtin, Sem.run_bind, Sem.run_pure, Result.andThen_ok, List.map_toArray, List.map_cons, List.map_nil, hs, hx, hr]
  exact hK _ _ h

/-- of fields that stand by their names, those behind which stands none of the same name -/
def lastsTo (d : Array FC) : Nat → List FC
  | 0 => []
  | i + 1 => if h : i < d.size then (if i + 1 = d.size ∨ ∃ h2 : i + 1 < d.size, (d[i + 1]).nm ≠ (d[i]).nm then lastsTo d i ++ [d[i]] else lastsTo d i) else lastsTo d i

theorem lastsTo_length (d : Array FC) : ∀ i, (lastsTo d i).length ≤ i
  | 0 => Nat.le_refl _
  | i + 1 => by
    have := lastsTo_length d i
    rw [lastsTo]
    split
    · split
      · simp; omega
      · omega
    · omega

theorem lastsTo_mem (d : Array FC) : ∀ i, ∀ x ∈ lastsTo d i, x ∈ d
  | 0, x, h => by cases h
  | i + 1, x, h => by
    rw [lastsTo] at h
    split at h
    · rename_i hi
      split at h
      · rcases List.mem_append.1 h with h | h
        · exact lastsTo_mem d i x h
        · rw [List.mem_singleton.1 h]; exact Array.getElem_mem hi
      · exact lastsTo_mem d i x h
    · exact lastsTo_mem d i x h

/-- a row of fields in a block of its own, as a slice of fields -/
theorem row_fields {w : World} {S : Nat → Prop} {g cap : Nat} {arr : Array Value} {l : List FC} (hB : Box w g 30 arr) (hS : S g) (hc : l.length ≤ cap) (hc2 : cap ≤ maxLen) (hrow : ∀ i (h : i < l.length), ∀ q u, ((l[i]).enc)[q]? = some u → arr[i * 7 + q]? = some u)
    (hat : ∀ x ∈ l, x.v.At w S (.slice x.a x.v.list.length x.c) (.slice x.b x.v.fields.length x.d)) : FAt w S (l.map FC.fd) (.slice (some ⟨g, 0, none⟩) l.length cap) := by
  refine ⟨_, cap, by rw [List.length_map], by rw [List.length_map]; exact hc, hc2, .inr ⟨g, 0, rfl, hS, hB.lt, FCells.mk fun i hi => ?_⟩⟩
  have hi' : i < l.length := by simpa using hi
  refine ⟨.slice (l[i]).a (l[i]).v.list.length (l[i]).c, .slice (l[i]).b (l[i]).v.fields.length (l[i]).d, fun q u hq => ?_, ?_⟩
  · rw [Nat.zero_add, hB.cell]
    refine hrow i hi' q u ?_
    simpa [FC.fd, FC.enc, V.cells] using hq
  · simpa [FC.fd] using hat (l[i]) (List.getElem_mem hi')

end Go.Proofs.Ytljhcnlifdmacaa
end

section
namespace Go.Proofs.Ytljhcnlifdmacaa
open Go.RowKit

theorem run_copy_cellsK {P : Program} (w : World) (dT sT ty elem : TypeId) (k : Nat) (b o dLen dCap : Nat) (a : Addr) (sLen sCap n : Nat) (cs : List Value)
    (hu : P.underlying dT = some (.slice elem)) (hs : (P.info? elem).map (·.size) = some k) (hn : n = Nat.min sLen dLen) (hcl : cs.length = n * k)
    (hsrc : ∀ j v, cs[j]? = some v → w.cell? (a.add j) = some v) (hc : ∀ j, j < cs.length → (w.cell? ⟨b, o + j, none⟩).isSome = true) (hf : ∀ j, j < cs.length → w.frozen? ⟨b, o + j, none⟩ = false) (h1 : ∀ v ∈ cs, v.oneCell' = true) :
    (Builtin.copy_ #[dT, sT] ty #[.slice (some ⟨b, o, none⟩) dLen dCap, .slice (some a) sLen sCap]).run P w = .ok (goInt n) (w.setCells b o cs) := by
  have hl := run_loadCells_list (P := P) w a cs hsrc
  rw [hcl] at hl
  have hst := run_storeCells_cells (P := P) b o cs 0 w (by simpa using hc) (by simpa using hf) h1
  cases hq : P.info? elem with
  | none => simp [hq] at hs
  | some i =>
    have hi : i.size = k := by simpa [hq] using hs
    simp [Builtin.copy_, run_underlying hu, Builtin.lenOf, Builtin.firstCells, sizeOf, typeInfo, hq, hi, ← hn, hl, hst]

/-- a copy as the walk meets it, where its run is known -/
theorem wpList_copy_runK {P : Program} (w : World) {ops : Array Oper} {rest : List Oper} {o : Oper} {a : Act} {Q : Exit → Act → World → Prop} (hgd : o.guard = none) (d s : Operand) (t t' : TypeId)
    (ho : o.op = .call { callee := .builtin .copy, args := #[d, s], argTypes := #[t, t'] }) (v u : Value) (hd : a.eval d = v) (hs : a.eval s = u) {v' : Value} {w' : World}
    (hr : (Builtin.copy_ #[t, t'] o.type #[v, u]).run P w = .ok v' w') (h : wpList P ops Q rest (a.put o.dst v') w') : wpList P ops Q (o :: rest) a w := by
  refine wpList_plain hgd fun K hK => ?_
  unfold Oper.wp execOp
  simp only [ho, resolve, invoke, builtin, Sem.run_bind, Sem.run_pure, Result.andThen_ok, List.map_toArray, List.map_cons, List.map_nil, hd, hs, hr]
  exact hK _ _ h

end Go.Proofs.Ytljhcnlifdmacaa
end

section
namespace Go.Proofs.Ytljhcnlifdmacaa
open Go.RowKit Go.Lib

set_option linter.unusedVariables false

def insF (rows : List Fd) (i : Nat) (f : Fd) : List Fd := rows.take i ++ f :: rows.drop i

theorem insF_length {rows : List Fd} {i : Nat} {f : Fd} (h : i ≤ rows.length) : (insF rows i f).length = rows.length + 1 := by
  unfold insF
  rw [List.length_append, List.length_cons, List.length_take, List.length_drop]
  omega

theorem insF_get {rows : List Fd} {i : Nat} {f : Fd} (hi : i ≤ rows.length) (k : Nat) (hk : k < (insF rows i f).length) :
    (∃ h : k < rows.length, k < i ∧ (insF rows i f)[k] = rows[k]) ∨ (k = i ∧ (insF rows i f)[k] = f) ∨ (∃ h : k - 1 < rows.length, i < k ∧ (insF rows i f)[k] = rows[k - 1]) := by
  have hkl := hk
  rw [insF_length hi] at hkl
  have hl : (rows.take i).length = i := by rw [List.length_take]; omega
  have at' : ∀ x, (insF rows i f)[k]? = some x → (insF rows i f)[k] = x := fun x h => Option.some.inj ((List.getElem?_eq_getElem hk).symm.trans h)
  by_cases h1 : k < i
  · have h : k < rows.length := by omega
    refine .inl ⟨h, h1, at' _ ?_⟩
    unfold insF
    rw [List.getElem?_append_left (by omega), List.getElem?_take, if_pos h1, List.getElem?_eq_getElem h]
  · by_cases h2 : k = i
    · refine .inr (.inl ⟨h2, at' _ ?_⟩)
      unfold insF
      rw [List.getElem?_append_right (by omega), hl, h2, Nat.sub_self]
      rfl
    · have h : k - 1 < rows.length := by omega
      refine .inr (.inr ⟨h, by omega, at' _ ?_⟩)
      unfold insF
      rw [List.getElem?_append_right (by omega), hl]
      obtain ⟨q, hq⟩ : ∃ q, k - i = q + 1 := ⟨k - i - 1, by omega⟩
      rw [hq, List.getElem?_cons_succ, List.getElem?_drop, show i + q = k - 1 by omega, List.getElem?_eq_getElem h]

/-- as FRow; what the values lead to lies in blocks of P -/
def FRowP (w : World) (B : Nat) (P : Nat → Prop) (vv : Value) (vs : List Fd) : Prop :=
  ∃ cs, w.ownsRow B 30 7 vv vs.length cs ∧ ∀ i (h : i < vs.length), ∃ lv fv, (∀ j u, (fcells (vs[i]) lv fv)[j]? = some u → cs[i * 7 + j]? = some u) ∧ (vs[i]).2.At w (fun x => P x ∧ vv.ownBlock ≠ some x) lv fv

theorem FRowP.form {w : World} {B : Nat} {P : Nat → Prop} {vv : Value} {vs : List Fd} (h : FRowP w B P vv vs) : ∃ a c, vv = .slice a vs.length c ∧ vs.length ≤ c ∧ c ≤ maxLen := by
  obtain ⟨cs, h, _⟩ := h
  rcases h.2 with ⟨rfl, h0⟩ | ⟨g, cap, cur, rfl, _, _, h1, h2, _⟩
  · exact ⟨none, 0, by rw [h0], by omega, by unfold maxLen; omega⟩
  · exact ⟨_, _, rfl, h1, h2⟩

theorem FRowP.own {w : World} {B : Nat} {P : Nat → Prop} {vv : Value} {vs : List Fd} (h : FRowP w B P vv vs) : ∀ q, vv.ownBlock = some q → B ≤ q ∧ q < w.heap.size := by
  obtain ⟨cs, h1, _⟩ := h
  exact fun q hq => World.ownsRow.lt h1 q hq

theorem FRowP.keep {w w' : World} {B : Nat} {P P' : Nat → Prop} {vv : Value} {vs : List Fd} (h : FRowP w B P vv vs) (hk : ∀ b, P b → b < w.heap.size → P' b ∧ w'.heap[b]? = w.heap[b]?) (ho : ∀ b, vv.ownBlock = some b → w'.heap[b]? = w.heap[b]?) (hz : w.heap.size ≤ w'.heap.size) : FRowP w' B P' vv vs := by
  obtain ⟨cs, h1, h2⟩ := h
  refine ⟨cs, ⟨h1.1, ?_⟩, fun i hi => ?_⟩
  · rcases h1.2 with h | ⟨g, cap, cur, e1, e2, e3, e4⟩
    · exact .inl h
    · exact .inr ⟨g, cap, cur, e1, e2, (ho g (by rw [e1]; rfl)).trans e3, e4⟩
  · obtain ⟨lv, fv, g1, g2⟩ := h2 i hi
    exact ⟨lv, fv, g1, V.At.move (fun b hS hlt => ⟨⟨(hk b hS.1 hlt).1, hS.2⟩, (hk b hS.1 hlt).2⟩) hz _ (Nat.le_refl _) g2⟩

theorem FRow.toP {w : World} {B : Nat} {vv : Value} {vs : List Fd} (h : FRow w B vv vs) : FRowP w B (fun x => B ≤ x) vv vs := h
theorem FRowP.toRow {w : World} {B B' : Nat} {P : Nat → Prop} {vv : Value} {vs : List Fd} (h : FRowP w B P vv vs) (hB : B' ≤ B) (hP : ∀ x, P x → B' ≤ x) : FRow w B' vv vs := by
  obtain ⟨cs, h1, h2⟩ := h
  exact ⟨cs, ⟨h1.1, h1.2.imp id fun ⟨g, cap, cur, e1, e2, e3⟩ => ⟨g, cap, cur, e1, Nat.le_trans hB e2, e3⟩⟩, fun i hi => by
    obtain ⟨lv, fv, g1, g2⟩ := h2 i hi
    exact ⟨lv, fv, g1, g2.wider fun q hq => ⟨hP q hq.1, hq.2⟩⟩⟩

/-- a row behind an insert, by its block -/
theorem FRowP.inserted {w' : World} {B n i G C : Nat} {P : Nat → Prop} {rows : List Fd} {f : Fd} {lv fv : Value} {cs : List Value} {arr : Array Value} (hn : rows.length = n) (hi : i ≤ n) (hcs : cs.length = n * 7)
    (hbox : Box w' G 30 arr) (hsz : arr.size = C * 7) (hC : n + 1 ≤ C) (hC2 : C ≤ maxLen) (hG : B ≤ G)
    (h1 : ∀ q, q < i * 7 → arr[q]? = cs[q]?) (h2 : ∀ q, q < 7 → arr[i * 7 + q]? = (fcells f lv fv)[q]?) (h3 : ∀ q, q < (n - i) * 7 → arr[(i + 1) * 7 + q]? = cs[i * 7 + q]?)
    (hold : ∀ k (h : k < rows.length), ∃ lv fv, (∀ j u, (fcells (rows[k]) lv fv)[j]? = some u → cs[k * 7 + j]? = some u) ∧ (rows[k]).2.At w' (fun x => P x ∧ x ≠ G) lv fv)
    (hf : f.2.At w' (fun x => P x ∧ x ≠ G) lv fv) : FRowP w' B P (.slice (some ⟨G, 0, none⟩) (n + 1) C) (insF rows i f) := by
  have hl := insF_length (f := f) (i := i) (rows := rows) (by omega)
  rw [hn] at hl
  have h7 : ∀ (p : Fd) a b j u, (fcells p a b)[j]? = some u → j < 7 := fun p a b j u h => (List.getElem?_eq_some_iff.1 h).1
  refine ⟨arr.toList.take ((n + 1) * 7), ⟨?_, .inr ⟨G, C, arr, by rw [hl], hG, hbox, by rw [hl]; exact hC, hC2, hsz, by rw [hl]⟩⟩, fun k hk => ?_⟩
  · rw [List.length_take, Array.length_toList, hsz, hl]
    omega
  · have hget : ∀ q u, arr[q]? = some u → q < (n + 1) * 7 → (arr.toList.take ((n + 1) * 7))[q]? = some u := fun q u h hq => by
      rw [List.getElem?_take, if_pos hq, Array.getElem?_toList, h]
    have hn1 : ∀ x, x ≠ G → (Value.slice (some ⟨G, 0, none⟩) (n + 1) C).ownBlock ≠ some x := fun x hx e => hx (by simpa [Value.ownBlock] using e.symm)
    have hkn : k < n + 1 := by omega
    rcases insF_get (f := f) (i := i) (rows := rows) (by omega) k hk with ⟨h, hki, e⟩ | ⟨rfl, e⟩ | ⟨h, hki, e⟩
    · obtain ⟨a, b, g1, g2⟩ := hold k h
      rw [e]
      refine ⟨a, b, fun j u hj => ?_, V.At.move (fun x hS _ => ⟨⟨hS.1, hn1 x hS.2⟩, rfl⟩) (Nat.le_refl _) _ (Nat.le_refl _) g2⟩
      have hj7 := h7 _ _ _ _ _ hj
      exact hget _ u ((h1 _ (by omega)).trans (g1 j u hj)) (by omega)
    · rw [e]
      refine ⟨lv, fv, fun j u hj => ?_, V.At.move (fun x hS _ => ⟨⟨hS.1, hn1 x hS.2⟩, rfl⟩) (Nat.le_refl _) _ (Nat.le_refl _) hf⟩
      have hj7 := h7 _ _ _ _ _ hj
      exact hget _ u ((h2 j hj7).trans hj) (by omega)
    · obtain ⟨a, b, g1, g2⟩ := hold (k - 1) h
      rw [e]
      refine ⟨a, b, fun j u hj => ?_, V.At.move (fun x hS _ => ⟨⟨hS.1, hn1 x hS.2⟩, rfl⟩) (Nat.le_refl _) _ (Nat.le_refl _) g2⟩
      have hj7 := h7 _ _ _ _ _ hj
      have h9 := h3 ((k - 1 - i) * 7 + j) (by omega)
      rw [show (i + 1) * 7 + ((k - 1 - i) * 7 + j) = k * 7 + j by omega, show i * 7 + ((k - 1 - i) * 7 + j) = (k - 1) * 7 + j by omega] at h9
      exact hget _ u (h9.trans (g1 j u hj)) (by omega)

def InsP (w : World) (B : Nat) (P : Nat → Prop) (vv : Value) (vs : List Fd) (e : Ending) (w' : World) : Prop := ∃ vv', e = .returned vv' ∧ FRowP w' B P vv' vs ∧ Up w vv w' vv'

abbrev FLDS := 22

set_option maxHeartbeats 4000000 in
set_option maxRecDepth 100000 in
/-- at the end -/
theorem ins_end {w : World} {B n vb : Nat} {P : Nat → Prop} {rows : List Fd} {vv : Value} {f : Fd} {lv fv : Value} (hrow : FRowP w B P vv rows) (hn : rows.length = n) (hn9 : n ≤ 100000) (hB : B ≤ w.heap.size)
    (hlv : ∃ a c, lv = .slice a f.2.list.length c) (hfv : ∃ a c, fv = .slice a f.2.fields.length c)
    (hv : Box w vb 30 (fcells f lv fv).toArray) (hat : f.2.At w (fun x => P x ∧ vv.ownBlock ≠ some x) lv fv) :
    Calls Try.prog 40 #[vv, .int .i64 n, .slice (some ⟨vb, 0, none⟩) 1 1] w (InsP w B P vv (insF rows n f)) := by
  obtain ⟨a, c, rfl, hc1, hc2⟩ := hrow.form
  rw [hn] at hrow hat hc1 ⊢
  have hrow0 := hrow
  obtain ⟨i, hi, hz, hi1, hi2⟩ := info_parts infoF
  obtain ⟨old, hown, hold⟩ := hrow
  have hcl := hown.1
  have hnews : ∀ j u, (fcells f lv fv)[j]? = some u → w.cell? ((⟨vb, 0, none⟩ : Addr).add j) = some u := by
    intro j u hj
    have e : ((⟨vb, 0, none⟩ : Addr).add j) = ⟨vb, j, none⟩ := by unfold Addr.add; by_cases h0 : j = 0 <;> simp [h0]
    rw [e, hv.cell]
    simpa using hj
  obtain ⟨al, cl, rfl⟩ := hlv
  obtain ⟨af, cf, rfl⟩ := hfv
  rw [hn] at hown
  obtain ⟨v', w', hr, ho', hu⟩ := run_app (P := Try.prog) w B FLDS FLDS 30 i _ 7 104 Try.underlying22 hi hz hi1 hi2 rfl (by decide) _ n old hown ⟨vb, 0, none⟩ 1 1 (fcells f _ _) rfl hnews (by intro u hu; simp [fcells, V.cells] at hu; rcases hu with rfl | rfl | rfl | rfl | rfl | rfl | rfl <;> rfl) (by unfold maxLen; omega) (by omega) hB
  have hgr := hu.1
  have hne : ∀ b, b < w.heap.size → (Value.slice a n c).ownBlock ≠ some b → v'.ownBlock ≠ some b := fun b hb hnb e => by
    rcases hu.2 with e2 | e2
    · rw [e2] at e; exact hnb e
    · have := e2 b e; omega
  have hins : insF rows n f = rows ++ [f] := by unfold insF; rw [← hn, List.take_length, List.drop_length]
  have hfin : FRowP w' B P v' (insF rows n f) := by
    rw [hins]
    refine ⟨old ++ fcells f _ _, by rw [List.length_append, hn]; exact ho', fun j hj => ?_⟩
    by_cases hjl : j < rows.length
    · obtain ⟨l1, f1, g1, g2⟩ := hold j hjl
      refine ⟨l1, f1, fun q u hq => ?_, ?_⟩
      · rw [List.getElem_append_left hjl] at hq
        have h1 := g1 q u hq
        rw [List.getElem?_append_left (List.getElem?_eq_some_iff.1 h1).1]
        exact h1
      · rw [List.getElem_append_left hjl]
        exact V.At.move (fun b hS hlt => ⟨⟨hS.1, hne b hlt hS.2⟩, hgr.block b hlt (fun e => hS.2 e.symm)⟩) hgr.size _ (Nat.le_refl _) g2
    · obtain rfl : j = rows.length := by simp at hj; omega
      refine ⟨.slice al f.2.list.length cl, .slice af f.2.fields.length cf, fun q u hq => ?_, ?_⟩
      · rw [List.getElem_append_right (Nat.le_refl _)] at hq
        rw [List.getElem?_append_right (by rw [hcl]; omega), hcl]
        simp only [Nat.sub_self, List.getElem_cons_zero] at hq
        rw [show rows.length * 7 + q - rows.length * 7 = q by omega]
        exact hq
      · rw [List.getElem_append_right (Nat.le_refl _)]
        simp only [Nat.sub_self, List.getElem_cons_zero]
        exact V.At.move (fun b hS hlt => ⟨⟨hS.1, hne b hlt hS.2⟩, hgr.block b hlt (fun e => hS.2 e.symm)⟩) hgr.size _ (Nat.le_refl _) hat
  have HF : Hid (InsP w B P (.slice a n c) (insF rows n f) (.returned v') w') := Lib.hid ⟨v', rfl, hfin, hu⟩
  obtain ⟨va, vc, rfl, _, _⟩ := hfin.form
  have h48 : (n : Int) ≤ (c : Int) := by omega
  have hc63 : (c : Int) ≤ 9223372036854775807 := by unfold maxLen at hc2; omega
  have h01 : ¬ ((1 : Int) = 0) := by omega
  clear hfin hu hgr hne hins hold hown hrow0 hcl hat hnews ho' hv
  go_enter Try.func40, Try.ntmps40
  cases a with
  | none =>
    go_wp2_with (at_builtin; refine Lib.wpList_append_run _ rfl _ _ _ _ rfl _ _ rfl rfl _ _ hr ?_)
    go_ret
    exact HF.out
  | some ad =>
    obtain ⟨ab, ao, asp⟩ := ad
    go_wp2_with (at_builtin; refine Lib.wpList_append_run _ rfl _ _ _ _ rfl _ _ rfl rfl _ _ hr ?_)
    all_goals (go_ret; exact HF.out)

end Go.Proofs.Ytljhcnlifdmacaa
end

section
namespace Go.Proofs.Ytljhcnlifdmacaa
open Go.RowKit Go.Sort

theorem cf_swo : SWO (ltOf FC.cf) := by
  have e : ∀ x y : FC, ltOf FC.cf x y = decide (x.nm.data.toList < y.nm.data.toList) := fun x y => by
    unfold ltOf FC.cf cmpL
    by_cases h : x.nm.data.toList < y.nm.data.toList
    · simp [h]
    · by_cases h2 : y.nm.data.toList < x.nm.data.toList <;> simp [h, h2]
  refine ⟨fun x => ?_, fun x y z h1 h2 => ?_, fun x y z h1 h2 => ?_⟩
  · rw [e]; exact decide_eq_false (lt_irr _)
  · rw [e] at *
    exact decide_eq_true (List.lt_trans (of_decide_eq_true h1) (of_decide_eq_true h2))
  · rw [e] at *
    have h1 := of_decide_eq_false h1
    have h2 := of_decide_eq_false h2
    refine decide_eq_false fun h => ?_
    rcases lt_tri x.nm.data.toList y.nm.data.toList with g | g | g
    · exact h1 g
    · rw [g] at h; exact h2 h
    · rcases lt_tri y.nm.data.toList z.nm.data.toList with q | q | q
      · exact h2 q
      · rw [q] at g; exact lt_asym h g
      · exact lt_asym h (List.lt_trans q g)

def sortF (d : Array FC) : Array FC := Sort.insertionSort (ltOf FC.cf) d 0 d.size
theorem sortF_size (d : Array FC) : (sortF d).size = d.size := sort_size _ d 0 d.size
theorem sortF_perm (d : Array FC) : (sortF d).toList.Perm d.toList := by
  have h := (insertionSort_holds (lt := ltOf FC.cf) cf_swo d 0 d.size (Nat.zero_le _) (Nat.le_refl _)).1.2.2
  have e1 : ((sortF d).extract 0 d.size).toList = (sortF d).toList := by simp [← sortF_size d]
  have e2 : (d.extract 0 d.size).toList = d.toList := by simp
  rw [← e1, ← e2]
  exact h
theorem sortF_mem {d : Array FC} {x : FC} (h : x ∈ sortF d) : x ∈ d := by
  have := (sortF_perm d).mem_iff.1 (Array.mem_toList_iff.2 h)
  exact Array.mem_toList_iff.1 this

/-- the row in the middle of the loop: what is kept ahead, what was there from i on -/
def RowR (D : Array FC) (cap : Nat) (arr0 arr : Array Value) (i : Nat) : Prop :=
  arr.size = cap * 7 ∧ (∀ p, i * 7 ≤ p → arr[p]? = arr0[p]?) ∧ ∀ j (h : j < (lastsTo D i).length), ∀ q u, ((lastsTo D i)[j].enc)[q]? = some u → arr[j * 7 + q]? = some u

theorem RowR.skip {D : Array FC} {cap : Nat} {arr0 arr : Array Value} {i : Nat} (h : RowR D cap arr0 arr i) (he : lastsTo D (i + 1) = lastsTo D i) : RowR D cap arr0 arr (i + 1) :=
  ⟨h.1, fun p hp => h.2.1 p (by omega), by rw [he]; exact h.2.2⟩

theorem RowR.keep {D : Array FC} {cap : Nat} {arr0 arr : Array Value} {i : Nat} (h : RowR D cap arr0 arr i) (x : FC) (he : lastsTo D (i + 1) = lastsTo D i ++ [x]) (hc : i < cap) : RowR D cap arr0 (aset arr ((lastsTo D i).length * 7) x.enc) (i + 1) := by
  have hk := lastsTo_length D i
  refine ⟨by rw [aset_size]; exact h.1, fun p hp => ?_, ?_⟩
  · rw [aset_far _ _ _ _ (.inr (by rw [FC.enc7]; omega))]
    exact h.2.1 p (by omega)
  · rw [he]
    intro j hj q u hq
    have hq7 : q < 7 := by have := (List.getElem?_eq_some_iff.1 hq).1; rwa [FC.enc7] at this
    by_cases hjl : j < (lastsTo D i).length
    · rw [List.getElem_append_left hjl] at hq
      rw [aset_far _ _ _ _ (.inl (by omega))]
      exact h.2.2 j hjl q u hq
    · obtain rfl : j = (lastsTo D i).length := by simp at hj; omega
      rw [List.getElem_append_right (Nat.le_refl _)] at hq
      simp only [Nat.sub_self, List.getElem_cons_zero] at hq
      exact aset_get _ _ _ (by rw [FC.enc7, h.1]; omega) q u hq

def OfMapP (f : List Fd) (w : World) (e : Ending) (w' : World) : Prop :=
  ∃ fv, e = .returned (.agg #[.int .i64 5, .bool false, .int .i64 0, .string ⟨#[]⟩, .slice none 0 0, fv]) ∧ (V.ofMap f).At w' (fun q => w.heap.size ≤ q) (.slice none 0 0) fv ∧ RowKit.Below w.heap.size w w'

/-- what of the fields is kept -/
def keptF (d : Array FC) : List FC := lastsTo (sortF d) d.size

set_option maxHeartbeats 4000000 in
set_option maxRecDepth 100000 in
theorem ofMap_some (b off c : Nat) (d : Array FC) (hd0 : 0 < d.size) (hd : d.size ≤ 20) (w : World) (hb : b < w.heap.size) (hin : ∀ i (h : i < d.size), InAt w b (off + i * 7) (d[i]).enc) (hrep : RepAt w All d) (hsm : ∀ x ∈ d, x.v.sm) :
    Calls Try.prog 12 #[.slice (some ⟨b, off, none⟩) d.size c] w (OfMapP ((keptF d).map FC.fd) w) := by
  have hz0 : (w.alloc (.cells #[.int .i64 0, .bool false, .int .i64 0, .string ⟨#[]⟩, .slice none 0 0, .slice none 0 0] 26)).heap.size = w.heap.size + 1 := by simp
  have hb0 : RowKit.Below w.heap.size w (w.alloc (.cells #[.int .i64 0, .bool false, .int .i64 0, .string ⟨#[]⟩, .slice none 0 0, .slice none 0 0] 26)) := (RowKit.Below.refl _ w).alloc (Nat.le_refl _) _
  have hZ : Box (w.alloc (.cells #[.int .i64 0, .bool false, .int .i64 0, .string ⟨#[]⟩, .slice none 0 0, .slice none 0 0] 26)) w.heap.size 26 #[.int .i64 0, .bool false, .int .i64 0, .string ⟨#[]⟩, .slice none 0 0, .slice none 0 0] := Box.new w _ _
  have hcl := fclone_any b off c d hd0 (by omega) (w.alloc (.cells #[.int .i64 0, .bool false, .int .i64 0, .string ⟨#[]⟩, .slice none 0 0, .slice none 0 0] 26)) (by rw [hz0]; omega) (fun i h => (hin i h).keep (hb0.block b hb))
  have HREP := Lib.hid (show ∀ w', RowKit.Below w.heap.size w w' → ∀ x ∈ d, x.v.Is w' (.slice x.a x.v.list.length x.c) (.slice x.b x.v.fields.length x.d) from fun w' hw x hx => by
    obtain ⟨i, hi, rfl⟩ := Array.getElem_of_mem hx
    exact V.Is.below (hrep i hi) hw)
  have HSM := Lib.hid hsm
  have HB := Lib.hid (And.intro hz0 (And.intro hb0 hZ))
  have HD0 := Lib.hid hd0
  clear hz0 hb0 hZ hrep hsm hin hb hd0
  go_enter Try.func12, Try.ntmps12
  go_wp2_with fail
  refine hcl.mono ?_
  rintro e w1 ⟨g, cap, arr, rfl, hBg, hasz, hdc, hcm, hHold, hg1, hb1⟩
  obtain ⟨hz0, hb0, hZ⟩ := HB.out
  rw [hz0] at hg1 hb1
  have hZ1 : Box w1 w.heap.size 26 #[.int .i64 0, .bool false, .int .i64 0, .string ⟨#[]⟩, .slice none 0 0, .slice none 0 0] := (hb1.block _ (by omega)).trans hZ
  have hb1w : RowKit.Below w.heap.size w w1 := hb0.trans (hb1.mono (by omega))
  have hsort := sort_any d hd cap g w1 hHold hBg.lt
  have HX1 := Lib.hid (And.intro hBg (And.intro hZ1 (And.intro hb1w (And.intro hg1 hasz))))
  clear hBg hHold hZ1 hb1w hb1 hz0 hb0 hZ hasz hcl
  go_wp2_with fail
  refine hsort.mono ?_
  rintro e w2 ⟨rfl, hsw, hH2, hgr⟩
  obtain ⟨hBg, hZ1, hb1w, hg1', hasz⟩ := HX1.out
  obtain ⟨arr0, hB2, hsz2, _⟩ := hsw _ _ hBg
  rw [hasz] at hsz2
  have hlt2 := hB2.lt
  have hZ2 : Box w2 w.heap.size 26 #[.int .i64 0, .bool false, .int .i64 0, .string ⟨#[]⟩, .slice none 0 0, .slice none 0 0] := (hgr.block _ hZ1.lt (fun e => by injection e; omega)).trans hZ1
  have hb2w : RowKit.Below w.heap.size w w2 := hb1w.grown hgr hb1w.size (fun k hk => by injection hk; omega)
  have hflat : ∀ i (h : i < (sortF d).size), ∀ q u, (((sortF d)[i]).enc)[q]? = some u → arr0[i * 7 + q]? = some u := fun i h q u hq => by
    have hq7 : q < 7 := by have := (List.getElem?_eq_some_iff.1 hq).1; rwa [FC.enc7] at this
    have hjl : i * 7 + q < (sortF d).size * 7 := by omega
    have h1 := (hH2 (i * 7 + q) (by rw [size_flatK]; exact hjl)).1
    rw [Nat.zero_add, hB2.cell] at h1
    obtain ⟨p, r, hp, he, hr, e⟩ := flat_at (sortF d) (i * 7 + q) hjl
    obtain ⟨rfl, rfl⟩ : p = i ∧ r = q := by omega
    have e2 : (flatK FC.enc 7 (sortF d))[p * 7 + r]? = some ((flatK FC.enc 7 (sortF d))[p * 7 + r]!) := by
      rw [Array.getElem?_eq_getElem (by rw [size_flatK]; exact hjl), getElem!_pos _ _ (by rw [size_flatK]; exact hjl)]
    rw [h1]
    rw [e2, hq] at e
    injection e with e
    rw [← e]
    rfl
  have hns : (sortF d).size = d.size := sortF_size d
  have hmem : ∀ x ∈ sortF d, x ∈ d := fun x hx => sortF_mem hx
  clear hsw hH2 hgr hsort
  generalize hDD : sortF d = D at hflat hns hmem
  have HKF : Hid (keptF d = lastsTo D d.size) := Lib.hid (by rw [← hDD]; rfl)
  clear hDD
  have HF := Lib.hid hflat
  have HN := Lib.hid hns
  have HM := Lib.hid hmem
  have HSZ := Lib.hid hsz2
  have hbase := Lib.hid (And.intro hB2 (And.intro hZ2 hb2w))
  clear hBg hZ1 hb1w hg1' hasz hflat hns hmem hB2 hZ2 hb2w hsz2
  go_wp2_with fail
  go_loopw [4, 15] (fun lv iv wr => ∃ (i : Nat) (arr' : Array Value), i ≤ d.size ∧ iv = .int .i64 i ∧ lv = .slice (some ⟨g, 0, none⟩) (lastsTo D i).length cap ∧ RowKit.Below w.heap.size w wr ∧ Box wr w.heap.size 26 #[.int .i64 0, .bool false, .int .i64 0, .string ⟨#[]⟩, .slice none 0 0, .slice none 0 0] ∧ Box wr g 30 arr' ∧ Hid (RowR D cap arr0 arr' i)) (fun _ iv _ => d.size - (intOf iv).toNat)
  case atStart => exact ⟨0, arr0, Nat.zero_le _, rfl, rfl, hbase.out.2.2, hbase.out.2.1, hbase.out.1, Lib.hid ⟨HSZ.out, fun _ _ => rfl, fun j h => by simp [lastsTo] at h⟩⟩
  case round =>
    obtain ⟨i, arr', hi, rfl, rfl, hbr, hZr, hBr, HR⟩ := hrel
    have hzr := hbr.size
    have hltg := hBr.lt
    have hltR := hZr.lt
    by_cases hid : i < d.size
    · have hid' : (i : Int) < (d.size : Int) := by omega
      have hi0 : (0 : Int) ≤ (i : Int) := by omega
      have hkl := lastsTo_length D i
      have hDi : i < D.size := by rw [HN.out]; exact hid
      -- the field that stands there
      have hcell : ∀ q u, ((D[i]).enc)[q]? = some u → wr.cell? ⟨g, i * 7 + q, none⟩ = some u := fun q u hq => by
        rw [hBr.cell, HR.out.2.1 (i * 7 + q) (by omega)]
        exact HF.out i hDi q u hq
      have hcell2 : i + 1 < d.size → ∃ h2 : i + 1 < D.size, wr.cell? ⟨g, (i + 1) * 7, none⟩ = some (.string (D[i + 1]).nm) := fun h2 => by
        have h3 : i + 1 < D.size := by rw [HN.out]; exact h2
        refine ⟨h3, ?_⟩
        have := HF.out (i + 1) h3 0 (.string (D[i + 1]).nm) rfl
        rw [hBr.cell, HR.out.2.1 ((i + 1) * 7) (by omega)]
        simpa using this
      have q0 := hcell 0 _ rfl
      have q1 := hcell 1 _ rfl
      have q2 := hcell 2 _ rfl
      have q3 := hcell 3 _ rfl
      have q4 := hcell 4 _ rfl
      have q5 := hcell 5 _ rfl
      have q6 := hcell 6 _ rfl
      simp only [Nat.add_zero] at q0
      have hsucc : Hid (lastsTo D (i + 1) = if i + 1 = D.size ∨ ∃ h2 : i + 1 < D.size, (D[i + 1]).nm ≠ (D[i]).nm then lastsTo D i ++ [D[i]] else lastsTo D i) := Lib.hid (by rw [lastsTo, dif_pos hDi])
      clear hcell
      have HI := Lib.hid (show IntKind.i64.wrap ((i : Int) + 1) = (i : Int) + 1 ∧ (0 : Int) ≤ (i : Int) + 1 ∧ ((i : Int) + 1).toNat = i + 1 by rw [IntKind.wrap_i64]; omega)
      generalize D[i] = x at q0 q1 q2 q3 q4 q5 q6 hsucc
      obtain ⟨nm, v, ax, cx, bx, dx⟩ := x
      have HRR := Lib.hid (And.intro hbr (And.intro hZr (And.intro hBr (And.intro hltg (And.intro hltR (And.intro hzr hkl))))))
      by_cases hl : i + 1 = d.size
      · have hE : Hid (lastsTo D (i + 1) = lastsTo D i ++ [⟨nm, v, ax, cx, bx, dx⟩]) := Lib.hid (by rw [hsucc.out, if_pos (.inl (by rw [HN.out]; exact hl))])
        have e0 : (((i : Int) + 1) == (d.size : Int)) = true := by rw [beq_iff_eq]; omega
        obtain ⟨r1, r2, r3⟩ := HI.out
        clear hcell2 hsucc hl hbr hZr hBr hltg hltR hzr hkl
        go_wp2_with fail
        go_quiet (fail)
        go_wp2_with (at_builtin; refine Mark.out ?_)
        refine Mark.mk ?_
        obtain ⟨hbr, hZr, hBr, hltg, hltR, hzr, hkl⟩ := HRR.out
        have hBq : Box ((wr.alloc (.cells #[.string nm, .int .i64 v.kind, .bool v.yes, .int .i64 v.num, .string v.text, .slice ax v.list.length cx, .slice bx v.fields.length dx] 30)).drewN nq) g 30 arr' := hBr.alloc (.cells #[.string nm, .int .i64 v.kind, .bool v.yes, .int .i64 v.num, .string v.text, .slice ax v.list.length cx, .slice bx v.fields.length dx] 30)
        refine wpList_app_keep ((wr.alloc (.cells #[.string nm, .int .i64 v.kind, .bool v.yes, .int .i64 v.num, .string v.text, .slice ax v.list.length cx, .slice bx v.fields.length dx] 30)).drewN nq) (wr.heap.size + 1) (by simp) rfl (.tmp 36) (.tmp 38) rfl g (lastsTo D i).length cap rfl arr' hBq HR.out.1 (by omega) ⟨nm, v, ax, cx, bx, dx⟩ _ rfl 1 rfl ?_
        have hb5 := Go.Proofs.Ytljhcnlifdmacaa.Below.sets (FC.enc ⟨nm, v, ax, cx, bx, dx⟩) ((lastsTo D i).length * 7) ((rowB.below_drewN (hbr.alloc hzr (.cells #[.string nm, .int .i64 v.kind, .bool v.yes, .int .i64 v.num, .string v.text, .slice ax v.list.length cx, .slice bx v.fields.length dx] 30)) nq).alloc (by simp; omega) (.cells #[.string nm, .int .i64 v.kind, .bool v.yes, .int .i64 v.num, .string v.text, .slice ax v.list.length cx, .slice bx v.fields.length dx] 30)) (g := g) (by omega)
        have hZ5 : Box (sets (((wr.alloc (.cells #[.string nm, .int .i64 v.kind, .bool v.yes, .int .i64 v.num, .string v.text, .slice ax v.list.length cx, .slice bx v.fields.length dx] 30)).drewN nq).alloc (.cells #[.string nm, .int .i64 v.kind, .bool v.yes, .int .i64 v.num, .string v.text, .slice ax v.list.length cx, .slice bx v.fields.length dx] 30)) g ((lastsTo D i).length * 7) (FC.enc ⟨nm, v, ax, cx, bx, dx⟩)) w.heap.size 26 #[.int .i64 0, .bool false, .int .i64 0, .string ⟨#[]⟩, .slice none 0 0, .slice none 0 0] := (sets_far _ _ _ _ (by omega)).trans (Box.alloc (show Box ((wr.alloc (.cells #[.string nm, .int .i64 v.kind, .bool v.yes, .int .i64 v.num, .string v.text, .slice ax v.list.length cx, .slice bx v.fields.length dx] 30)).drewN nq) w.heap.size 26 #[.int .i64 0, .bool false, .int .i64 0, .string ⟨#[]⟩, .slice none 0 0, .slice none 0 0] from hZr.alloc (.cells #[.string nm, .int .i64 v.kind, .bool v.yes, .int .i64 v.num, .string v.text, .slice ax v.list.length cx, .slice bx v.fields.length dx] 30)) _)
        have hB5 := Box.sets (FC.enc ⟨nm, v, ax, cx, bx, dx⟩) ((lastsTo D i).length * 7) (hBq.alloc (.cells #[.string nm, .int .i64 v.kind, .bool v.yes, .int .i64 v.num, .string v.text, .slice ax v.list.length cx, .slice bx v.fields.length dx] 30))
        have HE5 := Lib.hid (And.intro hb5 (And.intro hZ5 hB5))
        clear hbr hZr hBr hltg hltR hzr hkl hBq hb5 hZ5 hB5 r1 r2 r3
        go_wp2
        go_roundw
        case rel => exact ⟨i + 1, _, by omega, by go_num, by rw [hE.out]; simp, HE5.out.1, HE5.out.2.1, HE5.out.2.2, Lib.hid (HR.out.keep _ hE.out (by omega))⟩
        case measure => simp [intOf]; omega
      · have hl2 : i + 1 < d.size := by omega
        obtain ⟨h2, p0⟩ := hcell2 hl2
        have p1 : (wr.alloc (.cells #[.string nm, .int .i64 v.kind, .bool v.yes, .int .i64 v.num, .string v.text, .slice ax v.list.length cx, .slice bx v.fields.length dx] 30)).cell? ⟨g, (i + 1) * 7, none⟩ = some (.string (D[i + 1]).nm) := (World.cell?_alloc_lt wr _ ⟨g, (i + 1) * 7, none⟩ hltg).trans p0
        have e0 : (((i : Int) + 1) == (d.size : Int)) = false := by rw [beq_eq_false_iff_ne]; omega
        have hl3 : (i : Int) + 1 < (d.size : Int) := by omega
        obtain ⟨nm2, HNM⟩ : ∃ n, (D[i + 1]).nm = n := ⟨_, rfl⟩
        rw [HNM] at p0 p1
        by_cases hnn : nm2 = nm
        · have hE : Hid (lastsTo D (i + 1) = lastsTo D i) := Lib.hid (by
            rw [hsucc.out, if_neg]
            rintro (h | ⟨_, h⟩)
            · rw [HN.out] at h; omega
            · exact h (HNM.trans hnn))
          have g1 : (nm2.toList == nm.toList) = true := by rw [hnn, beq_iff_eq]
          have g2 : (nm2.toList != nm.toList) = false := by rw [bne, g1]; rfl
          obtain ⟨r1, r2, r3⟩ := HI.out
          clear hcell2 hsucc hl hbr hZr hBr hltg hltR hzr hkl hl2 h2 p0 hnn HNM
          go_wp2_with fail
          go_quiet (fail)
          clear r1 r2 r3
          obtain ⟨hbr, hZr, hBr, hltg, hltR, hzr, hkl⟩ := HRR.out
          have HE5 := Lib.hid (fun n => And.intro (rowB.below_drewN (hbr.alloc hzr (.cells #[.string nm, .int .i64 v.kind, .bool v.yes, .int .i64 v.num, .string v.text, .slice ax v.list.length cx, .slice bx v.fields.length dx] 30)) n) (And.intro (hZr.alloc (.cells #[.string nm, .int .i64 v.kind, .bool v.yes, .int .i64 v.num, .string v.text, .slice ax v.list.length cx, .slice bx v.fields.length dx] 30)) (hBr.alloc (.cells #[.string nm, .int .i64 v.kind, .bool v.yes, .int .i64 v.num, .string v.text, .slice ax v.list.length cx, .slice bx v.fields.length dx] 30))))
          clear hbr hZr hBr hltg hltR hzr hkl
          go_wp2
          go_roundw
          case rel => exact ⟨i + 1, arr', by omega, by go_num, by rw [hE.out], (HE5.out _).1, (HE5.out 0).2.1, (HE5.out 0).2.2, Lib.hid (HR.out.skip hE.out)⟩
          case measure => simp [intOf]; omega
        · have hE : Hid (lastsTo D (i + 1) = lastsTo D i ++ [⟨nm, v, ax, cx, bx, dx⟩]) := Lib.hid (by rw [hsucc.out, if_pos (.inr ⟨h2, by rw [HNM]; exact hnn⟩)])
          have g1 : (nm2.toList == nm.toList) = false := by
            rw [beq_eq_false_iff_ne, Lib.toList_data, Lib.toList_data]; intro e; exact hnn (ByteArray.ext (Array.toList_inj.1 e))
          have g2 : (nm2.toList != nm.toList) = true := by rw [bne, g1]; rfl
          obtain ⟨r1, r2, r3⟩ := HI.out
          clear hcell2 hsucc hl hbr hZr hBr hltg hltR hzr hkl hl2 h2 p0 hnn HNM
          go_wp2_with fail
          go_quiet (fail)
          go_wp2_with (at_builtin; refine Mark.out ?_)
          refine Mark.mk ?_
          obtain ⟨hbr, hZr, hBr, hltg, hltR, hzr, hkl⟩ := HRR.out
          have hBq : Box ((wr.alloc (.cells #[.string nm, .int .i64 v.kind, .bool v.yes, .int .i64 v.num, .string v.text, .slice ax v.list.length cx, .slice bx v.fields.length dx] 30)).drewN nq) g 30 arr' := hBr.alloc (.cells #[.string nm, .int .i64 v.kind, .bool v.yes, .int .i64 v.num, .string v.text, .slice ax v.list.length cx, .slice bx v.fields.length dx] 30)
          refine wpList_app_keep ((wr.alloc (.cells #[.string nm, .int .i64 v.kind, .bool v.yes, .int .i64 v.num, .string v.text, .slice ax v.list.length cx, .slice bx v.fields.length dx] 30)).drewN nq) (wr.heap.size + 1) (by simp) rfl (.tmp 36) (.tmp 38) rfl g (lastsTo D i).length cap rfl arr' hBq HR.out.1 (by omega) ⟨nm, v, ax, cx, bx, dx⟩ _ rfl 1 rfl ?_
          have hb5 := Go.Proofs.Ytljhcnlifdmacaa.Below.sets (FC.enc ⟨nm, v, ax, cx, bx, dx⟩) ((lastsTo D i).length * 7) ((rowB.below_drewN (hbr.alloc hzr (.cells #[.string nm, .int .i64 v.kind, .bool v.yes, .int .i64 v.num, .string v.text, .slice ax v.list.length cx, .slice bx v.fields.length dx] 30)) nq).alloc (by simp; omega) (.cells #[.string nm, .int .i64 v.kind, .bool v.yes, .int .i64 v.num, .string v.text, .slice ax v.list.length cx, .slice bx v.fields.length dx] 30)) (g := g) (by omega)
          have hZ5 : Box (sets (((wr.alloc (.cells #[.string nm, .int .i64 v.kind, .bool v.yes, .int .i64 v.num, .string v.text, .slice ax v.list.length cx, .slice bx v.fields.length dx] 30)).drewN nq).alloc (.cells #[.string nm, .int .i64 v.kind, .bool v.yes, .int .i64 v.num, .string v.text, .slice ax v.list.length cx, .slice bx v.fields.length dx] 30)) g ((lastsTo D i).length * 7) (FC.enc ⟨nm, v, ax, cx, bx, dx⟩)) w.heap.size 26 #[.int .i64 0, .bool false, .int .i64 0, .string ⟨#[]⟩, .slice none 0 0, .slice none 0 0] := (sets_far _ _ _ _ (by omega)).trans (Box.alloc (show Box ((wr.alloc (.cells #[.string nm, .int .i64 v.kind, .bool v.yes, .int .i64 v.num, .string v.text, .slice ax v.list.length cx, .slice bx v.fields.length dx] 30)).drewN nq) w.heap.size 26 #[.int .i64 0, .bool false, .int .i64 0, .string ⟨#[]⟩, .slice none 0 0, .slice none 0 0] from hZr.alloc (.cells #[.string nm, .int .i64 v.kind, .bool v.yes, .int .i64 v.num, .string v.text, .slice ax v.list.length cx, .slice bx v.fields.length dx] 30)) _)
          have hB5 := Box.sets (FC.enc ⟨nm, v, ax, cx, bx, dx⟩) ((lastsTo D i).length * 7) (hBq.alloc (.cells #[.string nm, .int .i64 v.kind, .bool v.yes, .int .i64 v.num, .string v.text, .slice ax v.list.length cx, .slice bx v.fields.length dx] 30))
          have HE5 := Lib.hid (And.intro hb5 (And.intro hZ5 hB5))
          clear hbr hZr hBr hltg hltR hzr hkl hBq hb5 hZ5 hB5 r1 r2 r3
          go_wp2
          go_roundw
          case rel => exact ⟨i + 1, _, by omega, by go_num, by rw [hE.out]; simp, HE5.out.1, HE5.out.2.1, HE5.out.2.2, Lib.hid (HR.out.keep _ hE.out (by omega))⟩
          case measure => simp [intOf]; omega
    · obtain rfl : i = d.size := by omega
      have hkl := lastsTo_length D d.size
      have hall : ∀ x ∈ lastsTo D d.size, x ∈ d := fun x hx => HM.out x (lastsTo_mem D d.size x hx)
      have hF := row_fields (S := All) hBr trivial (Nat.le_trans hkl hdc) hcm HR.out.2.2 (fun x hx => HREP.out wr hbr x (hall x hx))
      have hcl2 := cloneFields_any (depF ((lastsTo D d.size).map FC.fd)) (clone_all _) ((lastsTo D d.size).map FC.fd) (fun p hp => depF_mem hp) (fun p hp => by
        obtain ⟨x, hx, rfl⟩ := List.mem_map.1 hp
        exact HSM.out x (hall x hx)) (by rw [List.length_map]; omega) _ wr hF
      have HX := Lib.hid (And.intro hbr (And.intro hZr hltR))
      clear hF hall hbr hZr hBr hkl hdc hcm
      generalize hLL : (lastsTo D d.size).map FC.fd = L at hcl2
      have HKL : Hid ((keptF d).map FC.fd = L) := Lib.hid (by rw [HKF.out]; exact hLL)
      clear hLL
      go_wp2_with fail
      refine hcl2.mono ?_
      rintro e w5 ⟨lv', rfl, hF5, hb5⟩
      obtain ⟨qx, qc, rfl, _, _, _⟩ := id hF5
      obtain ⟨hbr, hZr, hltR⟩ := HX.out
      have hZ5 : Box w5 w.heap.size 26 #[.int .i64 0, .bool false, .int .i64 0, .string ⟨#[]⟩, .slice none 0 0, .slice none 0 0] := (hb5.block _ hltR).trans hZr
      have hb5w := hbr.trans (hb5.mono hzr)
      have hF6 := Box.sets [.int .i64 5, .bool false, .int .i64 0, .string ⟨#[]⟩, .slice none 0 0, .slice qx L.length qc] 0 hZ5
      obtain ⟨⟨k0, k1, k2, k3, k4, k5⟩, _⟩ := Box.six (c0 := .int .i64 5) (c1 := .bool false) (c2 := .int .i64 0) (c3 := .string ⟨#[]⟩) (c4 := .slice none 0 0) (c5 := .slice qx L.length qc) hF6
      simp only [sets, Nat.zero_add, Nat.reduceAdd] at k0 k1 k2 k3 k4 k5
      have hb6 := Go.Proofs.Ytljhcnlifdmacaa.Below.sets [.int .i64 5, .bool false, .int .i64 0, .string ⟨#[]⟩, .slice none 0 0, .slice qx L.length qc] 0 hb5w (g := w.heap.size) (Nat.le_refl _)
      have hat6 : (V.ofMap L).At (sets w5 w.heap.size 0 [.int .i64 5, .bool false, .int .i64 0, .string ⟨#[]⟩, .slice none 0 0, .slice qx L.length qc]) (fun q => w.heap.size ≤ q) (.slice none 0 0) (.slice qx L.length qc) :=
        V.at_iff.2 ⟨⟨none, 0, rfl, Nat.le_refl _, by unfold maxLen; omega, .inl rfl⟩, FAt.move (fun b hb _ => ⟨by omega, sets_far _ _ _ _ (by omega)⟩) (by rw [sets_size]; exact Nat.le_refl _) hF5⟩
      obtain ⟨⟨z0, z1, z2, z3, z4, z5⟩, s0, s1, s2, s3, s4, s5⟩ := hZ5.six
      have HE := Lib.hid (And.intro hb6 hat6)
      clear hF6 hF5 hb5 hbr hZr hltR hZ5 hb5w hb6 hat6 hcl2
      go_wp2
      refine bodyPost_ret (v := .agg #[.int .i64 5, .bool false, .int .i64 0, .string ⟨#[]⟩, .slice none 0 0, .slice qx L.length qc]) (by simp [results, Try.results12, go_sem, k0, k1, k2, k3, k4, k5]) rfl ⟨_, rfl, by rw [HKL.out]; exact HE.out.2, HE.out.1⟩

end Go.Proofs.Ytljhcnlifdmacaa
end

section
namespace Go.Proofs.Ytljhcnlifdmacaa
open Go.RowKit Go.Sort

theorem kept_none : keptF #[] = [] := rfl

set_option maxHeartbeats 1000000 in
theorem stable_none (a : Option Addr) (cap : Nat) (w : World) :
    Calls Try.prog 34 #[.slice a 0 cap, .func (.func 35) #[] #[]] w fun e w' => e = .returned (.tuple #[]) ∧ w = w' := by
  have hins : ∀ w, Calls Try.prog 83 #[.slice a 0 cap, .int .i64 0, .int .i64 0, .func (.func 35) #[] #[]] w fun e w' => e = .returned (.tuple #[]) ∧ w = w' := fun w => by
    go_enter Try.func83, Try.ntmps83
    go_wp2_with fail
    refine wp_loop_rounds 1 ?_
    rw [rounds_succ]
    go_wp2
    go_end0
    exact ⟨rfl, rfl⟩
  have hst : ∀ w, Calls Try.prog 55 #[.slice a 0 cap, .int .i64 0, .func (.func 35) #[] #[]] w fun e w' => e = .returned (.tuple #[]) ∧ w = w' := fun w => by
    go_enter Try.func55, Try.ntmps55
    go_wp2_with fail
    refine wp_loop_rounds 1 ?_
    rw [rounds_succ]
    go_wp2_with fail
    refine (hins _).mono ?_
    rintro e w1 ⟨rfl, rfl⟩
    go_wp2_with fail
    refine wp_loop_rounds 1 ?_
    rw [rounds_succ]
    go_wp2
    go_end0
    exact ⟨rfl, rfl⟩
  go_enter Try.func34, Try.ntmps34
  go_wp2_with fail
  refine (hst _).mono ?_
  rintro e w1 ⟨rfl, rfl⟩
  go_wp2
  go_end0
  exact ⟨rfl, rfl⟩

theorem wpList_app_zero {ops : Array Oper} {rest : List Oper} {o : Oper} {a : Act} {w : World} {Q : Exit → Act → World → Prop} (hgd : o.guard = none) (s x : Operand)
    (ho : o.op = .call { callee := .builtin .append, args := #[s, x], argTypes := #[22, 22] })
    (g off cap : Nat) (hs : a.eval s = .slice (some ⟨g, off, none⟩) 0 cap) (ad : Addr) (c : Nat) (hx : a.eval x = .slice (some ad) 0 c)
    (h : wpList Try.prog ops Q rest (a.put o.dst (.slice (some ⟨g, off, none⟩) 0 cap)) w) : wpList Try.prog ops Q (o :: rest) a w := by
  obtain ⟨i, hi, _, hi1, _⟩ := info_parts infoF
  refine wpList_plain hgd fun K hK => ?_
  have hr := run_append_room_cells (P := Try.prog) w 22 o.type 30 i Try.underlying22 hi g off 0 cap ad 0 c [] (by simp) (fun j u hj => by simp at hj) (fun u hu => by cases hu) (by omega) (fun j hj => by simp at hj) (fun j hj => by simp at hj)
  rw [setCells_sets] at hr
  unfold Oper.wp execOp
  simp only [ho, resolve, invoke, builtin, Sem.run_bind, Sem.run_pure, Result.andThen_ok, List.map_toArray, List.map_cons, List.map_nil, hs, hx, hr]
  exact hK _ _ h

set_option maxHeartbeats 1000000 in
set_option maxRecDepth 100000 in
theorem fclone_none (a : Option Addr) (c : Nat) (w : World) :
    Calls Try.prog 33 #[.slice a 0 c] w fun e w' => (∃ a', e = .returned (.slice a' 0 0)) ∧ RowKit.Below w.heap.size w w' := by
  have heq := fun w' => Lib.run_eql_slice_nil (P := Try.prog) w' 22 30 a 0 c 0 0 Try.underlying22
  cases a with
  | none =>
    go_enter Try.func33, Try.ntmps33
    go_wp2
    go_ret
    exact ⟨⟨none, rfl⟩, RowKit.Below.refl _ _⟩
  | some ad =>
    go_enter Try.func33, Try.ntmps33
    go_wp2_with (at_builtin; refine Mark.out ?_)
    refine Mark.mk ?_
    refine wpList_app_zero rfl (.tmp 5) (.tmp 6) rfl w.heap.size 0 0 rfl ad c rfl ?_
    go_wp2
    go_ret
    exact ⟨⟨_, rfl⟩, (RowKit.Below.refl _ w).alloc (Nat.le_refl _) _⟩

set_option maxHeartbeats 2000000 in
set_option maxRecDepth 100000 in
theorem ofMap_none (a : Option Addr) (c : Nat) (w : World) : Calls Try.prog 12 #[.slice a 0 c] w (OfMapP [] w) := by
  have hb0 : RowKit.Below w.heap.size w (w.alloc (.cells #[.int .i64 0, .bool false, .int .i64 0, .string ⟨#[]⟩, .slice none 0 0, .slice none 0 0] 26)) := (RowKit.Below.refl _ w).alloc (Nat.le_refl _) _
  have hZ : Box (w.alloc (.cells #[.int .i64 0, .bool false, .int .i64 0, .string ⟨#[]⟩, .slice none 0 0, .slice none 0 0] 26)) w.heap.size 26 #[.int .i64 0, .bool false, .int .i64 0, .string ⟨#[]⟩, .slice none 0 0, .slice none 0 0] := Box.new w _ _
  have HB := Lib.hid (And.intro hb0 hZ)
  clear hb0 hZ
  go_enter Try.func12, Try.ntmps12
  go_wp2_with fail
  refine (fclone_none a c _).mono ?_
  rintro e w1 ⟨⟨a', rfl⟩, hb1⟩
  have hb1w := HB.out.1.trans (hb1.mono (by simp))
  have hZ1 : Box w1 w.heap.size 26 #[.int .i64 0, .bool false, .int .i64 0, .string ⟨#[]⟩, .slice none 0 0, .slice none 0 0] := (hb1.block _ (by simp)).trans HB.out.2
  have HX := Lib.hid (And.intro hb1w hZ1)
  have hcl := cloneFields_any (depF []) (clone_all _) [] (fun x hx => by cases hx) (fun x hx => by cases hx) (by simp) (.slice a' 0 0) w1 ⟨a', 0, rfl, Nat.le_refl _, by unfold maxLen; omega, .inl rfl⟩
  clear hb1 hb1w hZ1
  go_wp2_with fail
  refine (stable_none a' 0 w1).mono ?_
  rintro e w2 ⟨rfl, rfl⟩
  go_wp2_with fail
  refine wp_loop_rounds 1 ?_
  rw [rounds_succ]
  go_wp2_with fail
  refine hcl.mono ?_
  rintro e w5 ⟨lv', rfl, hF5, hb5⟩
  obtain ⟨qx, qc, rfl, _, _, _⟩ := id hF5
  have hz1 := HX.out.2.lt
  have hZ5 : Box w5 w.heap.size 26 #[.int .i64 0, .bool false, .int .i64 0, .string ⟨#[]⟩, .slice none 0 0, .slice none 0 0] := (hb5.block _ hz1).trans HX.out.2
  have hb5w := HX.out.1.trans (hb5.mono (by omega))
  have hF6 := Box.sets [.int .i64 5, .bool false, .int .i64 0, .string ⟨#[]⟩, .slice none 0 0, .slice qx 0 qc] 0 hZ5
  obtain ⟨⟨k0, k1, k2, k3, k4, k5⟩, _⟩ := Box.six (c0 := .int .i64 5) (c1 := .bool false) (c2 := .int .i64 0) (c3 := .string ⟨#[]⟩) (c4 := .slice none 0 0) (c5 := .slice qx 0 qc) hF6
  simp only [sets, Nat.zero_add, Nat.reduceAdd] at k0 k1 k2 k3 k4 k5
  have hb6 := Go.Proofs.Ytljhcnlifdmacaa.Below.sets [.int .i64 5, .bool false, .int .i64 0, .string ⟨#[]⟩, .slice none 0 0, .slice qx 0 qc] 0 hb5w (g := w.heap.size) (Nat.le_refl _)
  have hat6 : (V.ofMap []).At (sets w5 w.heap.size 0 [.int .i64 5, .bool false, .int .i64 0, .string ⟨#[]⟩, .slice none 0 0, .slice qx 0 qc]) (fun q => w.heap.size ≤ q) (.slice none 0 0) (.slice qx 0 qc) :=
    V.at_iff.2 ⟨⟨none, 0, rfl, Nat.le_refl _, by unfold maxLen; omega, .inl rfl⟩, FAt.move (fun b hb _ => ⟨by omega, sets_far _ _ _ _ (by omega)⟩) (by rw [sets_size]; exact Nat.le_refl _) hF5⟩
  obtain ⟨⟨z0, z1, z2, z3, z4, z5⟩, s0, s1, s2, s3, s4, s5⟩ := hZ5.six
  have HE := Lib.hid (And.intro hb6 hat6)
  clear hF6 hF5 hb5 hZ5 hb5w hb6 hat6 hcl hz1
  go_wp2
  refine bodyPost_ret (v := .agg #[.int .i64 5, .bool false, .int .i64 0, .string ⟨#[]⟩, .slice none 0 0, .slice qx 0 qc]) (by simp [results, Try.results12, go_sem, k0, k1, k2, k3, k4, k5]) rfl ⟨_, rfl, HE.out.2, HE.out.1⟩

/-- OfMap of twenty fields at most, however they lie -/
theorem ofMap_any (fs : List Fd) (fv : Value) (w : World) (h : FAt w All fs fv) (hlen : fs.length ≤ 20) (hsm : ∀ p ∈ fs, p.2.sm) :
    ∃ d : Array FC, fs = (d.map FC.fd).toList ∧ Calls Try.prog 12 #[fv] w (OfMapP ((keptF d).map FC.fd) w) := by
  obtain ⟨a, c, d, rfl, hfs, hrep, hd⟩ := fields_lie h
  have hl : d.size = fs.length := by rw [hfs]; simp
  refine ⟨d, hfs, ?_⟩
  by_cases h0 : d.size = 0
  · obtain rfl : d = #[] := Array.eq_empty_of_size_eq_zero h0
    exact ofMap_none a c w
  · rcases hd with hd | ⟨b, off, rfl, hb, hin⟩
    · exact absurd hd h0
    · exact ofMap_some b off c d (by omega) (by omega) w hb hin hrep (fun x hx => hsm (FC.fd x) (by
        rw [hfs]
        exact Array.mem_toList_iff.2 (Array.mem_map.2 ⟨x, hx, rfl⟩)))

end Go.Proofs.Ytljhcnlifdmacaa
end

section
namespace Go.Proofs.Ytljhcnlifdmacaa
open Go.Sort

theorem lastsTo_at (D : Array FC) : ∀ i, ∀ x ∈ lastsTo D i, ∃ (k : Nat) (h : k < D.size), k < i ∧ x = D[k] ∧ (k + 1 = D.size ∨ ∃ h2 : k + 1 < D.size, (D[k + 1]).nm ≠ (D[k]).nm)
  | 0, x, h => by cases h
  | i + 1, x, h => by
    rw [lastsTo] at h
    split at h
    · rename_i hi
      split at h
      · rename_i hk
        rcases List.mem_append.1 h with h | h
        · obtain ⟨k, h1, h2, h3⟩ := lastsTo_at D i x h
          exact ⟨k, h1, by omega, h3⟩
        · exact ⟨i, hi, by omega, List.mem_singleton.1 h, hk⟩
      · obtain ⟨k, h1, h2, h3⟩ := lastsTo_at D i x h
        exact ⟨k, h1, by omega, h3⟩
    · obtain ⟨k, h1, h2, h3⟩ := lastsTo_at D i x h
      exact ⟨k, h1, by omega, h3⟩

theorem sortF_le (d : Array FC) {i j : Nat} (hi : i < (sortF d).size) (hj : j < (sortF d).size) (h : i ≤ j) : ¬ (sortF d)[j].nm.data.toList < (sortF d)[i].nm.data.toList := by
  by_cases e : i = j
  · subst e; exact lt_irr _
  · have hs := sortF_size d
    have h1 := (insertionSort_holds (lt := ltOf FC.cf) cf_swo d 0 d.size (Nat.zero_le _) (Nat.le_refl _)).2 i j (Nat.zero_le _) (by omega) (by omega)
    have h2 : ltOf FC.cf (sortF d)[j]! (sortF d)[i]! = false := h1
    rw [getElem!_pos _ j hj, getElem!_pos _ i hi] at h2
    intro h3
    unfold ltOf FC.cf at h2
    rw [cmpL_lt h3] at h2
    cases h2

def riseFC (x y : FC) : Prop := x.nm.data.toList < y.nm.data.toList

theorem lasts_rise (d : Array FC) : ∀ i, i ≤ (sortF d).size → (lastsTo (sortF d) i).Pairwise riseFC
  | 0, _ => List.Pairwise.nil
  | i + 1, hi => by
    have ih := lasts_rise d i (by omega)
    rw [lastsTo, dif_pos (by omega)]
    split
    · refine List.pairwise_append.2 ⟨ih, List.pairwise_singleton _ _, fun x hx y hy => ?_⟩
      obtain rfl : y = (sortF d)[i] := List.mem_singleton.1 hy
      obtain ⟨k, hk, hki, rfl, hlast | ⟨h2, hne⟩⟩ := lastsTo_at _ _ x hx
      · omega
      · have h3 := sortF_le d (i := k) (j := k + 1) hk h2 (by omega)
        have h4 := sortF_le d (i := k + 1) (j := i) h2 (by omega) (by omega)
        have h5 : (sortF d)[k].nm.data.toList < (sortF d)[k + 1].nm.data.toList := by
          rcases lt_tri (sortF d)[k].nm.data.toList (sortF d)[k + 1].nm.data.toList with g | g | g
          · exact g
          · exact absurd (ByteArray.ext (Array.toList_inj.1 g)).symm hne
          · exact absurd g h3
        show (sortF d)[k].nm.data.toList < (sortF d)[i].nm.data.toList
        rcases lt_tri (sortF d)[k + 1].nm.data.toList (sortF d)[i].nm.data.toList with g | g | g
        · exact List.lt_trans h5 g
        · rw [← g]; exact h5
        · exact absurd g h4
    · exact ih

theorem kept_rise (d : Array FC) : (keptF d).Pairwise riseFC := lasts_rise d d.size (by rw [sortF_size]; exact Nat.le_refl _)

theorem kept_mem {d : Array FC} {x : FC} (h : x ∈ keptF d) : x ∈ d := sortF_mem (lastsTo_mem _ _ x h)

theorem kept_length (d : Array FC) : (keptF d).length ≤ d.size := lastsTo_length _ _

/-- so a map of what is kept is right, where the values are -/
theorem kept_right (d : Array FC) (r : Int) (h : ∀ x ∈ d, x.v.right r = true) : rightF none ((keptF d).map FC.fd) r = true := by
  refine rightF_iff.2 fun i hi => ?_
  have hi' : i < (keptF d).length := by simpa using hi
  simp only [List.getElem_map]
  refine ⟨h _ (kept_mem (List.getElem_mem hi')), ?_⟩
  by_cases h0 : 0 < i
  · rw [dif_pos h0]
    exact decide_eq_true (List.pairwise_iff_getElem.1 (kept_rise d) (i - 1) i (by omega) hi' (by omega))
  · rw [dif_neg h0]
    rfl

end Go.Proofs.Ytljhcnlifdmacaa
end

section
namespace Go.Proofs.Ytljhcnlifdmacaa
open Go.Sort

theorem swap_filter {α : Type} (p : α → Bool) : ∀ (l : List α) (j : Nat) (x y : α), l[j]? = some x → l[j + 1]? = some y → (p x = true → p y = true → False) → ((l.set (j + 1) x).set j y).filter p = l.filter p
  | [], _, _, _, h, _, _ => by simp at h
  | [_], 0, _, _, _, h, _ => by simp at h
  | a :: b :: l, 0, x, y, h1, h2, h => by
    obtain rfl : a = x := by simpa using h1
    obtain rfl : b = y := by simpa using h2
    simp only [List.set_cons_succ, List.set_cons_zero, List.filter_cons]
    cases h3 : p a <;> cases h4 : p b
    · rfl
    · rfl
    · rfl
    · exact absurd h4 (fun h4 => h h3 h4)
  | a :: l, j + 1, x, y, h1, h2, h => by
    have ih := swap_filter p l j x y (by simpa using h1) (by simpa using h2) h
    simp only [List.set_cons_succ, List.filter_cons, ih]

section
variable {α : Type} [Inhabited α] (lt : α → α → Bool) (p : α → Bool) (hp : ∀ x y, p x = true → p y = true → lt x y = false)
include hp

theorem swp_filter (d : Array α) (j : Nat) (hj : j + 1 < d.size) (h : lt d[j + 1]! d[j]! = true) : (swp d (j + 1) j).toList.filter p = d.toList.filter p := by
  unfold swp
  rw [getElem!_pos d (j + 1) hj, getElem!_pos d j (by omega)] at *
  rw [Array.toList_setIfInBounds, Array.toList_setIfInBounds]
  refine swap_filter p _ j _ _ (by simp) (by simp [hj]) fun h1 h2 => ?_
  rw [hp _ _ h2 h1] at h
  cases h

theorem inner_filter (a : Nat) : ∀ (j : Nat) (d : Array α), j < d.size → (insInner lt a j d).toList.filter p = d.toList.filter p
  | 0, _, _ => rfl
  | j + 1, d, hj => by
    rw [insInner]
    split
    · rename_i h
      have h' : lt d[j + 1]! d[j]! = true := by
        have := (Bool.and_eq_true _ _).mp h
        exact this.2
      rw [inner_filter a j (swp d (j + 1) j) (by simp [swp]; omega)]
      exact swp_filter lt p hp d j hj h'
    · rfl

omit hp in
theorem inner_size (a : Nat) : ∀ (j : Nat) (d : Array α), (insInner lt a j d).size = d.size
  | 0, _ => rfl
  | j + 1, d => by
    rw [insInner]
    split
    · rw [inner_size a j]; simp [swp]
    · rfl

theorem outer_filter (a b : Nat) : ∀ (n i : Nat) (d : Array α), b - i = n → b ≤ d.size → (insOuter lt a b i d).toList.filter p = d.toList.filter p
  | n, i, d, hn, hb => by
    rw [insOuter]
    split
    · rename_i h
      match n, hn with
      | 0, hn => omega
      | n + 1, hn =>
        rw [outer_filter a b n (i + 1) _ (by omega) (by rw [inner_size lt]; exact hb)]
        exact inner_filter lt p hp a i d (by omega)
    · rfl
end

def byName (n : ByteArray) (x : FC) : Bool := decide (x.nm = n)

/-- the sort is stable: of one name the fields stay in their order -/
theorem sortF_filter (d : Array FC) (n : ByteArray) : (sortF d).toList.filter (byName n) = d.toList.filter (byName n) := by
  refine outer_filter (ltOf FC.cf) (byName n) (fun x y hx hy => ?_) 0 d.size _ 1 d rfl (Nat.le_refl _)
  have hx' : x.nm = n := of_decide_eq_true hx
  have hy' : y.nm = n := of_decide_eq_true hy
  have h := cf_swo.irrefl x
  unfold ltOf FC.cf at h ⊢
  rw [hx'] at h ⊢
  rw [hy']
  exact h

theorem lastsTo_in (D : Array FC) (k : Nat) (hk : k < D.size) (hl : k + 1 = D.size ∨ ∃ h2 : k + 1 < D.size, (D[k + 1]).nm ≠ (D[k]).nm) : ∀ i, k < i → D[k] ∈ lastsTo D i
  | 0, h => absurd h (Nat.not_lt_zero _)
  | i + 1, h => by
    rw [lastsTo]
    by_cases e : k = i
    · subst e
      rw [dif_pos hk, if_pos hl]
      exact List.mem_append.2 (.inr (List.mem_singleton.2 rfl))
    · have ih := lastsTo_in D k hk hl i (by omega)
      split
      · split
        · exact List.mem_append.2 (.inl ih)
        · exact ih
      · exact ih

theorem last_from (D : Array FC) : ∀ n i (hi : i < D.size), D.size - i = n → ∃ y ∈ lastsTo D D.size, y.nm = D[i].nm
  | 0, i, hi, hn => by omega
  | n + 1, i, hi, hn => by
    by_cases h1 : i + 1 = D.size
    · exact ⟨_, lastsTo_in D i hi (.inl h1) _ hi, rfl⟩
    · have h2 : i + 1 < D.size := by omega
      by_cases h3 : (D[i + 1]).nm = (D[i]).nm
      · obtain ⟨y, hy, e⟩ := last_from D n (i + 1) h2 (by omega)
        exact ⟨y, hy, e.trans h3⟩
      · exact ⟨_, lastsTo_in D i hi (.inr ⟨h2, h3⟩) _ hi, rfl⟩

/-- every name that came is kept -/
theorem kept_has {d : Array FC} {x : FC} (h : x ∈ d) : ∃ y ∈ keptF d, y.nm = x.nm := by
  have h1 : x ∈ sortF d := Array.mem_toList_iff.1 ((sortF_perm d).mem_iff.2 (Array.mem_toList_iff.2 h))
  obtain ⟨i, hi, rfl⟩ := Array.getElem_of_mem h1
  obtain ⟨y, hy, e⟩ := last_from (sortF d) _ i hi rfl
  rw [sortF_size] at hy
  exact ⟨y, hy, e⟩

/-- and of each name the last one that came -/
theorem kept_last {d : Array FC} {x : FC} (h : x ∈ keptF d) : (d.toList.filter (byName x.nm)).getLast? = some x := by
  obtain ⟨k, hk, _, rfl, hl⟩ := lastsTo_at _ _ x h
  rw [← sortF_filter, ← List.take_append_drop (k + 1) (sortF d).toList, List.filter_append]
  have hk' : k < (sortF d).toList.length := by simpa using hk
  have e1 : (sortF d).toList.take (k + 1) = (sortF d).toList.take k ++ [(sortF d)[k]] := by
    rw [List.take_add_one, List.getElem?_eq_getElem hk', Array.getElem_toList]; rfl
  have e2 : ((sortF d).toList.drop (k + 1)).filter (byName (sortF d)[k].nm) = [] := by
    refine List.filter_eq_nil_iff.2 fun y hy hn => ?_
    obtain ⟨i, hi, rfl⟩ := List.getElem_of_mem hy
    have hi' : i < (sortF d).size - (k + 1) := by simpa using hi
    have hn' : ((sortF d).toList.drop (k + 1))[i].nm = (sortF d)[k].nm := of_decide_eq_true hn
    rw [List.getElem_drop, Array.getElem_toList] at hn'
    rcases hl with hl | ⟨h2, hne⟩
    · omega
    · have h3 := sortF_le d (i := k) (j := k + 1) hk h2 (by omega)
      have h4 := sortF_le d (i := k + 1) (j := k + 1 + i) h2 (by omega) (by omega)
      rw [hn'] at h4
      rcases lt_tri (sortF d)[k].nm.data.toList (sortF d)[k + 1].nm.data.toList with g | g | g
      · exact h4 g
      · exact hne (ByteArray.ext (Array.toList_inj.1 g)).symm
      · exact h3 g
  rw [e2, List.append_nil, e1, List.filter_append]
  have e3 : [(sortF d)[k]].filter (byName (sortF d)[k].nm) = [(sortF d)[k]] := by simp [byName]
  rw [e3, List.getLast?_concat]

end Go.Proofs.Ytljhcnlifdmacaa
end

section
namespace Go.Proofs.Ytljhcnlifdmacaa

/-- the last value of a name -/
def lastW (fs : List Fd) (n : ByteArray) : Option V := ((fs.filter (fun p => decide (p.1 = n))).getLast?).map (·.2)

def riseFd (p q : Fd) : Prop := p.1.data.toList < q.1.data.toList

def IsKept (fs out : List Fd) : Prop := out.Pairwise riseFd ∧ ∀ n v, (n, v) ∈ out ↔ lastW fs n = some v

theorem rise_unique : ∀ (a b : List Fd), a.Pairwise riseFd → b.Pairwise riseFd → (∀ x, x ∈ a ↔ x ∈ b) → a = b
  | [], [], _, _, _ => rfl
  | [], y :: b, _, _, h => absurd ((h y).2 (by simp)) (by simp)
  | x :: a, [], _, _, h => absurd ((h x).1 (by simp)) (by simp)
  | x :: a, y :: b, ha, hb, h => by
    rw [List.pairwise_cons] at ha hb
    have hxy : x = y := by
      rcases List.mem_cons.1 ((h x).1 (by simp)) with e | e
      · exact e
      · rcases List.mem_cons.1 ((h y).2 (by simp)) with e2 | e2
        · exact e2.symm
        · exact absurd (List.lt_trans (hb.1 x e) (ha.1 y e2)) (lt_irr _)
    subst hxy
    rw [rise_unique a b ha.2 hb.2 fun z => ?_]
    constructor
    · intro hz
      rcases List.mem_cons.1 ((h z).1 (by simp [hz])) with e | e
      · subst e; exact absurd (ha.1 z hz) (lt_irr _)
      · exact e
    · intro hz
      rcases List.mem_cons.1 ((h z).2 (by simp [hz])) with e | e
      · subst e; exact absurd (hb.1 z hz) (lt_irr _)
      · exact e

theorem IsKept.one {fs a b : List Fd} (ha : IsKept fs a) (hb : IsKept fs b) : a = b :=
  rise_unique a b ha.1 hb.1 fun x => by
    obtain ⟨n, v⟩ := x
    rw [ha.2, hb.2]

theorem filter_fd (d : Array FC) (n : ByteArray) : ((d.map FC.fd).toList).filter (fun p => decide (p.1 = n)) = (d.toList.filter (byName n)).map FC.fd := by
  rw [Array.toList_map, List.filter_map]
  rfl

theorem lastW_of (d : Array FC) (n : ByteArray) : lastW ((d.map FC.fd).toList) n = ((d.toList.filter (byName n)).getLast?).map (·.v) := by
  unfold lastW
  rw [filter_fd, List.getLast?_map]
  cases (d.toList.filter (byName n)).getLast? <;> rfl

theorem kept_isKept (d : Array FC) : IsKept ((d.map FC.fd).toList) ((keptF d).map FC.fd) := by
  refine ⟨List.pairwise_map.2 (kept_rise d), fun n v => ?_⟩
  rw [lastW_of, List.mem_map]
  constructor
  · rintro ⟨x, hx, e⟩
    have e1 : x.nm = n := congrArg Prod.fst e
    have e2 : x.v = v := congrArg Prod.snd e
    rw [← e1, kept_last hx, ← e2]; rfl
  · intro h
    rw [Option.map_eq_some_iff] at h
    obtain ⟨x, hx, e⟩ := h
    have hm := List.mem_of_getLast? hx
    obtain ⟨hm1, hm2⟩ := List.mem_filter.1 hm
    have hn : x.nm = n := of_decide_eq_true hm2
    obtain ⟨y, hy, hyn⟩ := kept_has (Array.mem_toList_iff.1 hm1)
    have hl := kept_last hy
    rw [hyn, hn, hx] at hl
    obtain rfl := Option.some.inj hl
    exact ⟨x, hy, by rw [← hn, ← e]; rfl⟩

/-- a field into a row whose names rise, in place of the one that has its name -/
def insK (p : Fd) : List Fd → List Fd
  | [] => [p]
  | q :: l => if p.1 = q.1 then p :: l else if p.1.data.toList < q.1.data.toList then p :: q :: l else q :: insK p l

def keptL (fs : List Fd) : List Fd := fs.foldl (fun out p => insK p out) []

theorem insK_mem (p : Fd) : ∀ (l : List Fd) (x : Fd), x ∈ insK p l → x = p ∨ x ∈ l
  | [], x, h => by simp [insK] at h; exact .inl h
  | q :: l, x, h => by
    unfold insK at h
    split at h
    · rcases List.mem_cons.1 h with e | e
      · exact .inl e
      · exact .inr (by simp [e])
    · split at h
      · rcases List.mem_cons.1 h with e | e
        · exact .inl e
        · exact .inr e
      · rcases List.mem_cons.1 h with e | e
        · exact .inr (by simp [e])
        · rcases insK_mem p l x e with e | e
          · exact .inl e
          · exact .inr (by simp [e])

theorem insK_rise (p : Fd) : ∀ (l : List Fd), l.Pairwise riseFd → (insK p l).Pairwise riseFd
  | [], _ => by simp [insK]
  | q :: l, h => by
    rw [List.pairwise_cons] at h
    unfold insK
    split
    · rename_i e
      refine List.pairwise_cons.2 ⟨fun x hx => ?_, h.2⟩
      have := h.1 x hx
      unfold riseFd at this ⊢
      rwa [e]
    · split
      · rename_i hlt
        refine List.pairwise_cons.2 ⟨fun x hx => ?_, List.pairwise_cons.2 h⟩
        rcases List.mem_cons.1 hx with rfl | hx
        · exact hlt
        · exact List.lt_trans hlt (h.1 x hx)
      · rename_i hne hnl
        refine List.pairwise_cons.2 ⟨fun x hx => ?_, insK_rise p l h.2⟩
        rcases insK_mem p l x hx with rfl | hx
        · rcases lt_tri x.1.data.toList q.1.data.toList with g | g | g
          · exact absurd g hnl
          · exact absurd (ByteArray.ext (Array.toList_inj.1 g)) hne
          · exact g
        · exact h.1 x hx

theorem insK_iff (p : Fd) : ∀ (l : List Fd), l.Pairwise riseFd → ∀ x, x ∈ insK p l ↔ x = p ∨ (x ∈ l ∧ x.1 ≠ p.1)
  | [], _, x => by simp [insK]
  | q :: l, h, x => by
    rw [List.pairwise_cons] at h
    unfold insK
    split
    · rename_i e
      rw [List.mem_cons, List.mem_cons]
      constructor
      · rintro (h1 | h1)
        · exact .inl h1
        · refine .inr ⟨.inr h1, fun e2 => ?_⟩
          have := h.1 x h1
          unfold riseFd at this
          rw [e2, e] at this
          exact lt_irr _ this
      · rintro (h1 | ⟨h1 | h1, h2⟩)
        · exact .inl h1
        · subst h1; exact absurd e.symm h2
        · exact .inr h1
    · split
      · rename_i hne hlt
        rw [List.mem_cons]
        constructor
        · rintro (h1 | h1)
          · exact .inl h1
          · refine .inr ⟨h1, fun e2 => ?_⟩
            rcases List.mem_cons.1 h1 with rfl | h1
            · exact hne e2.symm
            · have := List.lt_trans hlt (h.1 x h1)
              rw [e2] at this
              exact lt_irr _ this
        · rintro (h1 | ⟨h1, _⟩)
          · exact .inl h1
          · exact .inr h1
      · rename_i hne hnl
        rw [List.mem_cons, List.mem_cons, insK_iff p l h.2 x]
        constructor
        · rintro (h1 | h1 | ⟨h1, h2⟩)
          · subst h1; exact .inr ⟨.inl rfl, fun e => hne e.symm⟩
          · exact .inl h1
          · exact .inr ⟨.inr h1, h2⟩
        · rintro (h1 | ⟨h1 | h1, h2⟩)
          · exact .inr (.inl h1)
          · exact .inl h1
          · exact .inr (.inr ⟨h1, h2⟩)

theorem keptL_append (fs : List Fd) (p : Fd) : keptL (fs ++ [p]) = insK p (keptL fs) := by unfold keptL; rw [List.foldl_append]; rfl

theorem lastW_append (fs : List Fd) (p : Fd) (n : ByteArray) : lastW (fs ++ [p]) n = if p.1 = n then some p.2 else lastW fs n := by
  unfold lastW
  rw [List.filter_append]
  by_cases h : p.1 = n
  · rw [if_pos h]; simp [h]
  · rw [if_neg h]; simp [h]

theorem keptL_isKept' : ∀ (k : Nat) (fs : List Fd), fs.length = k → IsKept fs (keptL fs)
  | 0, fs, h => by
    obtain rfl := List.eq_nil_of_length_eq_zero h
    exact ⟨List.Pairwise.nil, fun n v => by simp [keptL, lastW]⟩
  | k + 1, fs, h => by
    have hne : fs ≠ [] := by intro e; rw [e] at h; cases h
    have e := List.dropLast_concat_getLast hne
    have ih := keptL_isKept' k fs.dropLast (by simp [h])
    generalize fs.dropLast = a at e ih
    generalize fs.getLast hne = p at e
    subst e
    rw [keptL_append]
    refine ⟨insK_rise p _ ih.1, fun n v => ?_⟩
    rw [insK_iff p _ ih.1, lastW_append]
    by_cases hp : p.1 = n
    · rw [if_pos hp]
      constructor
      · rintro (h1 | ⟨_, h2⟩)
        · rw [← h1]
        · exact absurd hp.symm h2
      · intro h1
        refine .inl ?_
        rw [← hp, ← Option.some.inj h1]
    · rw [if_neg hp, ← ih.2]
      constructor
      · rintro (h1 | ⟨h1, _⟩)
        · exact absurd (congrArg Prod.fst h1).symm hp
        · exact h1
      · intro h1
        exact .inr ⟨h1, fun e => hp e.symm⟩

theorem keptL_isKept (fs : List Fd) : IsKept fs (keptL fs) := keptL_isKept' _ fs rfl

theorem kept_is (d : Array FC) : (keptF d).map FC.fd = keptL ((d.map FC.fd).toList) := (kept_isKept d).one (keptL_isKept _)

def rvK (k : Nat) (y : Bool) (n : Int) (t : ByteArray) (l : List V) (f : List Fd) : V :=
  if k = 1 then V.ofBool y else if k = 2 then V.ofInt n else if k = 3 then V.ofText t else if k = 4 then V.ofList l else if k = 5 then V.ofMap (keptL f) else V.null

mutual
/-- what the law's Right makes of a value -/
def V.rv : V → V
  | .mk k y n t l f => rvK ((k % 18446744073709551616).toNat % 6) y n t (rvL l) (rvF f)
def rvL : List V → List V
  | [] => []
  | v :: l => v.rv :: rvL l
def rvF : List (ByteArray × V) → List (ByteArray × V)
  | [] => []
  | p :: l => (p.1, V.rv p.2) :: rvF l
end

theorem rvL_map : ∀ l : List V, rvL l = l.map V.rv
  | [] => rfl
  | v :: l => by rw [rvL, rvL_map l]; rfl
theorem rvF_map : ∀ l : List Fd, rvF l = l.map fun p => (p.1, V.rv p.2)
  | [] => rfl
  | p :: l => by rw [rvF, rvF_map l]; rfl

end Go.Proofs.Ytljhcnlifdmacaa
end

section
namespace Go.Proofs.Ytljhcnlifdmacaa

theorem insK_length (p : Fd) : ∀ l : List Fd, (insK p l).length ≤ l.length + 1
  | [] => by simp [insK]
  | q :: l => by
    unfold insK
    split
    · simp
    · split
      · simp
      · have := insK_length p l
        simp only [List.length_cons]; omega

theorem keptL_length (fs : List Fd) : (keptL fs).length ≤ fs.length := by
  have key : ∀ (k : Nat) (fs : List Fd), fs.length = k → (keptL fs).length ≤ k := by
    intro k
    induction k with
    | zero => intro fs h; obtain rfl := List.eq_nil_of_length_eq_zero h; simp [keptL]
    | succ k ih =>
      intro fs h
      have hne : fs ≠ [] := by intro e; rw [e] at h; cases h
      have e := List.dropLast_concat_getLast hne
      have h1 := ih fs.dropLast (by simp [h])
      rw [← e, keptL_append]
      have := insK_length (fs.getLast hne) (keptL fs.dropLast)
      omega
  exact key _ fs rfl

theorem keptL_mem {fs : List Fd} {x : Fd} (h : x ∈ keptL fs) : x ∈ fs := by
  have key : ∀ (k : Nat) (fs : List Fd), fs.length = k → ∀ x ∈ keptL fs, x ∈ fs := by
    intro k
    induction k with
    | zero => intro fs h x hx; obtain rfl := List.eq_nil_of_length_eq_zero h; simp [keptL] at hx
    | succ k ih =>
      intro fs h x hx
      have hne : fs ≠ [] := by intro e; rw [e] at h; cases h
      have e := List.dropLast_concat_getLast hne
      rw [← e, keptL_append] at hx
      rw [← e]
      rcases insK_mem _ _ x hx with h1 | h1
      · simp [h1]
      · exact List.mem_append.2 (.inl (ih fs.dropLast (by simp [h]) x h1))
  exact key _ fs rfl x h

theorem few_parts {k : Int} {y : Bool} {n : Int} {t : ByteArray} {l : List V} {f : List Fd} {d : Int} (h : (V.mk k y n t l f).few d = true) :
    d ≤ 6 ∧ l.length ≤ 8 ∧ f.length ≤ 8 ∧ t.size ≤ 200 ∧ fewL l (d + 1) = true ∧ fewF f (d + 1) = true := by
  rw [V.few] at h
  simpa only [Bool.and_eq_true, decide_eq_true_eq] using h

theorem few_mk {k : Int} {y : Bool} {n : Int} {t : ByteArray} {l : List V} {f : List Fd} {d : Int} (h : d ≤ 6 ∧ l.length ≤ 8 ∧ f.length ≤ 8 ∧ t.size ≤ 200 ∧ fewL l (d + 1) = true ∧ fewF f (d + 1) = true) : (V.mk k y n t l f).few d = true := by
  rw [V.few]
  simpa only [Bool.and_eq_true, decide_eq_true_eq] using h

theorem rv_few : ∀ (N : Nat) (v : V) (d : Int), v.dep ≤ N → v.few d = true → v.rv.few d = true
  | 0, v, d, hd, _ => by
    cases v
    rw [V.dep] at hd
    omega
  | N + 1, .mk k y n t l f, d, hd, h => by
    have hdl : ∀ x ∈ l, x.dep ≤ N := fun x hx => by have := dep_list (v := .mk k y n t l f) hx; omega
    have hdf : ∀ p ∈ f, p.2.dep ≤ N := fun p hp => by have := dep_fields (v := .mk k y n t l f) hp; omega
    obtain ⟨h1, h2, h3, h4, h5, h6⟩ := few_parts h
    have hL : fewL (rvL l) (d + 1) = true := by
      rw [rvL_map]
      refine fewL_iff.2 fun x hx => ?_
      obtain ⟨z, hz, rfl⟩ := List.mem_map.1 hx
      exact rv_few N z _ (hdl z hz) (fewL_iff.1 h5 z hz)
    have hF : ∀ p ∈ rvF f, p.1.size ≤ 40 ∧ p.2.few (d + 1) = true := by
      rw [rvF_map]
      intro x hx
      obtain ⟨z, hz, rfl⟩ := List.mem_map.1 hx
      obtain ⟨g1, g2⟩ := fewF_iff.1 h6 z hz
      exact ⟨g1, rv_few N z.2 _ (hdf z hz) g2⟩
    have hl : (rvL l).length ≤ 8 := by rw [rvL_map, List.length_map]; exact h2
    have hf : (keptL (rvF f)).length ≤ 8 := by
      have := keptL_length (rvF f)
      rw [rvF_map, List.length_map] at this
      rw [rvF_map]; omega
    rw [V.rv]
    unfold rvK
    have e0 : (⟨#[]⟩ : ByteArray).size ≤ 200 := by decide
    split
    · exact few_mk ⟨h1, by simp, by simp, e0, rfl, rfl⟩
    · split
      · exact few_mk ⟨h1, by simp, by simp, e0, rfl, rfl⟩
      · split
        · exact few_mk ⟨h1, by simp, by simp, h4, rfl, rfl⟩
        · split
          · exact few_mk ⟨h1, hl, by simp, e0, hL, rfl⟩
          · split
            · exact few_mk ⟨h1, by simp, hf, e0, rfl, fewF_iff.2 fun p hp => hF p (keptL_mem hp)⟩
            · exact few_mk ⟨h1, by simp, by simp, e0, rfl, rfl⟩

theorem rv_n64 : ∀ (N : Nat) (v : V), v.dep ≤ N → v.n64 → v.rv.n64
  | 0, v, hd, _ => by
    cases v
    rw [V.dep] at hd
    omega
  | N + 1, .mk k y n t l f, hd, h => by
    have hdl : ∀ x ∈ l, x.dep ≤ N := fun x hx => by have := dep_list (v := .mk k y n t l f) hx; omega
    have hdf : ∀ p ∈ f, p.2.dep ≤ N := fun p hp => by have := dep_fields (v := .mk k y n t l f) hp; omega
    obtain ⟨h1, h2, h3⟩ := h
    have z0 : Is64 0 := by unfold Is64; omega
    have hL : n64L (rvL l) := by
      rw [rvL_map]
      refine n64L_iff.2 fun x hx => ?_
      obtain ⟨z, hz, rfl⟩ := List.mem_map.1 hx
      exact rv_n64 N z (hdl z hz) (n64L_iff.1 h2 z hz)
    have hF : ∀ p ∈ rvF f, p.2.n64 := by
      rw [rvF_map]
      intro x hx
      obtain ⟨z, hz, rfl⟩ := List.mem_map.1 hx
      exact rv_n64 N z.2 (hdf z hz) (n64F_iff.1 h3 z hz)
    rw [V.rv]
    unfold rvK
    split
    · exact ⟨z0, trivial, trivial⟩
    · split
      · exact ⟨h1, trivial, trivial⟩
      · split
        · exact ⟨z0, trivial, trivial⟩
        · split
          · exact ⟨z0, hL, trivial⟩
          · split
            · exact ⟨z0, trivial, n64F_iff.2 fun p hp => hF p (keptL_mem hp)⟩
            · exact ⟨z0, trivial, trivial⟩

end Go.Proofs.Ytljhcnlifdmacaa
end

section
namespace Go.Proofs.Ytljhcnlifdmacaa
open Go.RowKit

/-- what Right answers: the value, read from new blocks -/
def RvP (v : V) (w : World) (e : Ending) (w' : World) : Prop :=
  ∃ lv fv, e = .returned (.agg #[.int .i64 v.kind, .bool v.yes, .int .i64 v.num, .string v.text, lv, fv]) ∧ v.At w' (fun q => w.heap.size ≤ q) lv fv ∧ Below w.heap.size w w'

theorem none_here {w : World} {S : Nat → Prop} (k : Int) (y : Bool) (n : Int) (t : ByteArray) : (V.mk k y n t [] []).At w S (.slice none 0 0) (.slice none 0 0) :=
  V.at_iff.2 ⟨⟨none, 0, rfl, Nat.le_refl _, by unfold maxLen; omega, .inl rfl⟩, ⟨none, 0, rfl, Nat.le_refl _, by unfold maxLen; omega, .inl rfl⟩⟩

theorem kind_mod (k : Int) (m : Nat) (h : (k % 18446744073709551616) % 6 = (m : Int)) : (IntKind.u64.wrap k).tmod 6 = (m : Int) := by
  have e : IntKind.u64.wrap k = k % 18446744073709551616 := by simp [IntKind.wrap, IntKind.bits, IntKind.signed]
  rw [e, Int.tmod_eq_emod_of_nonneg (by omega), h]

theorem kind6 (k : Int) : ∃ m : Nat, m < 6 ∧ (k % 18446744073709551616) % 6 = (m : Int) ∧ (k % 18446744073709551616).toNat % 6 = m :=
  ⟨(k % 18446744073709551616).toNat % 6, by omega, by omega, rfl⟩

set_option maxHeartbeats 4000000 in
set_option maxRecDepth 100000 in
theorem rv_0 (k : Int) (y : Bool) (n : Int) (t : ByteArray) (lv fv : Value) (hm : (k % 18446744073709551616) % 6 = ((0 : Nat) : Int)) (w : World) :
    Calls Try.prog 19 #[.agg #[.int .i64 k, .bool y, .int .i64 n, .string t, lv, fv]] w (RvP (V.null) w) := by
  have hk : (IntKind.u64.wrap k).tmod 6 = 0 := kind_mod k 0 hm
  clear hm
  go_enter Try.func19, Try.ntmps19
  go_wp2
  refine bodyPost_ret (v := .agg #[.int .i64 0, .bool false, .int .i64 0, .string ⟨#[]⟩, .slice none 0 0, .slice none 0 0]) (by simp [results, Try.results19, go_sem]) rfl ⟨_, _, rfl, none_here _ _ _ _, (((Below.refl _ _).alloc (Nat.le_refl _) _).alloc (by simp) _).alloc (by simp; omega) _⟩

set_option maxHeartbeats 4000000 in
set_option maxRecDepth 100000 in
theorem rv_1 (k : Int) (y : Bool) (n : Int) (t : ByteArray) (lv fv : Value) (hm : (k % 18446744073709551616) % 6 = ((1 : Nat) : Int)) (w : World) :
    Calls Try.prog 19 #[.agg #[.int .i64 k, .bool y, .int .i64 n, .string t, lv, fv]] w (RvP (V.ofBool y) w) := by
  have hk : (IntKind.u64.wrap k).tmod 6 = 1 := kind_mod k 1 hm
  clear hm
  go_enter Try.func19, Try.ntmps19
  go_wp2
  refine bodyPost_ret (v := .agg #[.int .i64 1, .bool y, .int .i64 0, .string ⟨#[]⟩, .slice none 0 0, .slice none 0 0]) (by simp [results, Try.results19, go_sem]) rfl ⟨_, _, rfl, none_here _ _ _ _, (((Below.refl _ _).alloc (Nat.le_refl _) _).alloc (by simp) _).alloc (by simp; omega) _⟩

set_option maxHeartbeats 4000000 in
set_option maxRecDepth 100000 in
theorem rv_2 (k : Int) (y : Bool) (n : Int) (t : ByteArray) (lv fv : Value) (hm : (k % 18446744073709551616) % 6 = ((2 : Nat) : Int)) (w : World) :
    Calls Try.prog 19 #[.agg #[.int .i64 k, .bool y, .int .i64 n, .string t, lv, fv]] w (RvP (V.ofInt n) w) := by
  have hk : (IntKind.u64.wrap k).tmod 6 = 2 := kind_mod k 2 hm
  clear hm
  go_enter Try.func19, Try.ntmps19
  go_wp2
  refine bodyPost_ret (v := .agg #[.int .i64 2, .bool false, .int .i64 n, .string ⟨#[]⟩, .slice none 0 0, .slice none 0 0]) (by simp [results, Try.results19, go_sem]) rfl ⟨_, _, rfl, none_here _ _ _ _, (((Below.refl _ _).alloc (Nat.le_refl _) _).alloc (by simp) _).alloc (by simp; omega) _⟩

set_option maxHeartbeats 4000000 in
set_option maxRecDepth 100000 in
theorem rv_3 (k : Int) (y : Bool) (n : Int) (t : ByteArray) (lv fv : Value) (hm : (k % 18446744073709551616) % 6 = ((3 : Nat) : Int)) (w : World) :
    Calls Try.prog 19 #[.agg #[.int .i64 k, .bool y, .int .i64 n, .string t, lv, fv]] w (RvP (V.ofText t) w) := by
  have hk : (IntKind.u64.wrap k).tmod 6 = 3 := kind_mod k 3 hm
  clear hm
  go_enter Try.func19, Try.ntmps19
  go_wp2
  refine bodyPost_ret (v := .agg #[.int .i64 3, .bool false, .int .i64 0, .string t, .slice none 0 0, .slice none 0 0]) (by simp [results, Try.results19, go_sem]) rfl ⟨_, _, rfl, none_here _ _ _ _, (((Below.refl _ _).alloc (Nat.le_refl _) _).alloc (by simp) _).alloc (by simp; omega) _⟩

theorem rv_small (k : Int) (y : Bool) (n : Int) (t : ByteArray) (l : List V) (f : List Fd) (lv fv : Value) (m : Nat) (hm : (k % 18446744073709551616) % 6 = (m : Int)) (hm2 : (k % 18446744073709551616).toNat % 6 = m) (h : m < 4) (w : World) :
    Calls Try.prog 19 #[.agg #[.int .i64 k, .bool y, .int .i64 n, .string t, lv, fv]] w (RvP (V.mk k y n t l f).rv w) := by
  rw [V.rv, hm2]
  match m, hm, h with
  | 0, hm, _ => exact rv_0 k y n t lv fv hm w
  | 1, hm, _ => exact rv_1 k y n t lv fv hm w
  | 2, hm, _ => exact rv_2 k y n t lv fv hm w
  | 3, hm, _ => exact rv_3 k y n t lv fv hm w

end Go.Proofs.Ytljhcnlifdmacaa
end

section
namespace Go.Proofs.Ytljhcnlifdmacaa
open Go.RowKit

def RightOK (N : Nat) : Prop := ∀ (v : V) (d : Int) (lv fv : Value) (w : World), v.dep ≤ N → v.few d = true → v.Is w lv fv →
  Calls Try.prog 19 #[.agg #[.int .i64 v.kind, .bool v.yes, .int .i64 v.num, .string v.text, lv, fv]] w (RvP v.rv w)

attribute [-go_sem] Builtin.append_

theorem VRow.belowR {w w' : World} {B : Nat} {vv : Value} {vs : List V} (h : VRow w B vv vs) (hb : Below w.heap.size w w') : VRow w' B vv vs := h.keep (fun b _ hlt => hb.block b hlt) hb.size

theorem VRow.own {w : World} {B : Nat} {vv : Value} {vs : List V} (h : VRow w B vv vs) : ∀ q, vv.ownBlock = some q → B ≤ q ∧ q < w.heap.size := by
  obtain ⟨cs, h1, _⟩ := h
  exact fun q hq => World.ownsRow.lt h1 q hq

theorem three_boxes (w : World) (a0 a1 a2 : Array Value) (t : TypeId) :
    Box (((w.alloc (.cells a0 t)).alloc (.cells a1 t)).alloc (.cells a2 t)) (w.heap.size + 1) t a1 ∧ Box (((w.alloc (.cells a0 t)).alloc (.cells a1 t)).alloc (.cells a2 t)) (w.heap.size + 1 + 1) t a2 ∧
      Below w.heap.size w (((w.alloc (.cells a0 t)).alloc (.cells a1 t)).alloc (.cells a2 t)) := by
  have h1 := Box.new (w.alloc (.cells a0 t)) t a1
  have h2 := Box.new ((w.alloc (.cells a0 t)).alloc (.cells a1 t)) t a2
  have e1 : (w.alloc (.cells a0 t)).heap.size = w.heap.size + 1 := by simp
  have e2 : ((w.alloc (.cells a0 t)).alloc (.cells a1 t)).heap.size = w.heap.size + 1 + 1 := by simp
  rw [e1] at h1
  rw [e2] at h2
  exact ⟨h1.alloc _, h2, (((Below.refl _ _).alloc (Nat.le_refl _) _).alloc (by rw [e1]; omega) _).alloc (by rw [e2]; omega) _⟩

set_option maxHeartbeats 4000000 in
set_option maxRecDepth 100000 in
theorem rv_list (N : Nat) (ih : RightOK N) (k : Int) (y : Bool) (n : Int) (t : ByteArray) (l : List V) (d : Int) (hd : ∀ x ∈ l, x.dep ≤ N) (hf : ∀ x ∈ l, x.few d = true) (hlen : l.length ≤ 8) (lv fv : Value) (hm : (k % 18446744073709551616) % 6 = ((4 : Nat) : Int)) (w : World) (hl : LAt w All l lv) :
    Calls Try.prog 19 #[.agg #[.int .i64 k, .bool y, .int .i64 n, .string t, lv, fv]] w (RvP (V.ofList (l.map V.rv)) w) := by
  have hk : (IntKind.u64.wrap k).tmod 6 = 4 := kind_mod k 4 hm
  obtain ⟨a, c, rfl, _, _, hcl⟩ := hl
  have HC := Lib.hid hcl
  have HD := Lib.hid hd
  have HF := Lib.hid hf
  have HLEN := Lib.hid hlen
  clear hm hcl hd hf
  go_enter Try.func19, Try.ntmps19
  go_wp2
  clear hk
  go_loopw [37] (fun cc wr => ∃ (j : Nat) (vv : Value), j ≤ l.length ∧ cc = .int .i64 j ∧ Box wr (w.heap.size + 1) 26 #[.int .i64 0, .bool false, .int .i64 0, .string ⟨#[]⟩, .slice none 0 0, .slice none 0 0] ∧
    Box wr (w.heap.size + 1 + 1) 26 #[.int .i64 4, .bool false, .int .i64 0, .string ⟨#[]⟩, vv, .slice none 0 0] ∧ VRow wr (w.heap.size + 3) vv ((l.take j).map V.rv) ∧ Below w.heap.size w wr) (fun cc _ => l.length - (intOf cc).toNat)
  case atStart =>
    obtain ⟨h1, h2, h3⟩ := three_boxes w #[.int .i64 k, .bool y, .int .i64 n, .string t, .slice a l.length c, fv] #[.int .i64 0, .bool false, .int .i64 0, .string ⟨#[]⟩, .slice none 0 0, .slice none 0 0] #[.int .i64 4, .bool false, .int .i64 0, .string ⟨#[]⟩, .slice none 0 0, .slice none 0 0] 26
    exact ⟨0, .slice none 0 0, Nat.zero_le _, rfl, h1, h2, VRow.nil _ _, h3⟩
  case round =>
    obtain ⟨j, vv, hj, rfl, hZ, hO, hrow, hb⟩ := hrel
    have hzr := hb.size
    have hOlt := hO.lt
    have hlen := HLEN.out
    by_cases hjl : j < l.length
    · have hjl' : (j : Int) < (l.length : Int) := by omega
      obtain ⟨b0, off, ea, hbl, hC⟩ : ∃ b0 off, a = some ⟨b0, off, none⟩ ∧ b0 < wr.heap.size ∧ LCells wr All b0 off l := by
        rcases HC.out with h | ⟨b0, off, ea, _, hb0, hC⟩
        · rw [h] at hjl; simp at hjl
        · exact ⟨b0, off, ea, Nat.lt_of_lt_of_le hb0 hb.size, LCells.keepAll hC hb hb0⟩
      subst ea
      obtain ⟨lx, fx, hin, hel⟩ := hC.get hjl
      have hxd := HD.out _ (List.getElem_mem hjl)
      have hxf := HF.out _ (List.getElem_mem hjl)
      have htk : (l.take (j + 1)).map V.rv = (l.take j).map V.rv ++ [(l[j]).rv] := by rw [List.take_succ_eq_append_getElem hjl, List.map_append]; rfl
      obtain ⟨x, hxe⟩ : ∃ y, y = l[j] := ⟨_, rfl⟩
      rw [← hxe] at hin hel hxd hxf htk
      have HTK := Lib.hid htk
      clear hxe hC htk
      replace hel : x.Is wr lx fx := hel
      obtain ⟨⟨px, pc, rfl⟩, ⟨py, pd, rfl⟩, _, _⟩ := hel.len
      obtain ⟨p0, p1, p2, p3, p4, p5⟩ := hin.six
      have hb1 : Below wr.heap.size wr (wr.alloc (.cells #[.int .i64 x.kind, .bool x.yes, .int .i64 x.num, .string x.text, .slice px x.list.length pc, .slice py x.fields.length pd] 26)) := (Below.refl _ wr).alloc (Nat.le_refl _) _
      have hcall := ih x d _ _ _ hxd hxf (V.At.drew (V.Is.below hel hb1))
      have HCALL := Lib.hid hcall
      have HB1 := Lib.hid hb1
      have HBW := Lib.hid hb
      have HROW := Lib.hid hrow
      obtain ⟨⟨o0, o1, o2, o3, o4, o5⟩, _⟩ := hO.six
      have HO := Lib.hid hO
      have HZ := Lib.hid hZ
      have HLT : Hid (w.heap.size + 1 + 1 < wr.heap.size) := Lib.hid hO.lt
      have HSL : Hid (∀ w3, Below (wr.alloc (.cells #[.int .i64 x.kind, .bool x.yes, .int .i64 x.num, .string x.text, .slice px x.list.length pc, .slice py x.fields.length pd] 26)).drew.heap.size (wr.alloc (.cells #[.int .i64 x.kind, .bool x.yes, .int .i64 x.num, .string x.text, .slice px x.list.length pc, .slice py x.fields.length pd] 26)).drew w3 → Below wr.heap.size wr w3 ∧ wr.heap.size + 1 ≤ w3.heap.size) := Lib.hid (fun w3 hb3 => by
        have e : (wr.alloc (.cells #[.int .i64 x.kind, .bool x.yes, .int .i64 x.num, .string x.text, .slice px x.list.length pc, .slice py x.fields.length pd] 26)).drew.heap.size = wr.heap.size + 1 := by
          show (wr.alloc (.cells #[.int .i64 x.kind, .bool x.yes, .int .i64 x.num, .string x.text, .slice px x.list.length pc, .slice py x.fields.length pd] 26)).heap.size = _
          simp
        exact ⟨hb1.drew.trans (hb3.mono (by rw [e]; omega)), by have := hb3.size; rw [e] at this; exact this⟩)
      have HO3 : Hid (∀ w3, Below (wr.alloc (.cells #[.int .i64 x.kind, .bool x.yes, .int .i64 x.num, .string x.text, .slice px x.list.length pc, .slice py x.fields.length pd] 26)).drew.heap.size (wr.alloc (.cells #[.int .i64 x.kind, .bool x.yes, .int .i64 x.num, .string x.text, .slice px x.list.length pc, .slice py x.fields.length pd] 26)).drew w3 → Box w3 (w.heap.size + 1 + 1) 26 #[.int .i64 4, .bool false, .int .i64 0, .string ⟨#[]⟩, vv, .slice none 0 0]) := Lib.hid (fun w3 hb3 => ((HSL.out w3 hb3).1.block _ HLT.out).trans HO.out)
      have HK : Hid (∀ w3 lv' fv', x.rv.At w3 (fun q => (wr.alloc (.cells #[.int .i64 x.kind, .bool x.yes, .int .i64 x.num, .string x.text, .slice px x.list.length pc, .slice py x.fields.length pd] 26)).drew.heap.size ≤ q) lv' fv' → Below (wr.alloc (.cells #[.int .i64 x.kind, .bool x.yes, .int .i64 x.num, .string x.text, .slice px x.list.length pc, .slice py x.fields.length pd] 26)).drew.heap.size (wr.alloc (.cells #[.int .i64 x.kind, .bool x.yes, .int .i64 x.num, .string x.text, .slice px x.list.length pc, .slice py x.fields.length pd] 26)).drew w3 →
          ∃ qa qc w4, (Builtin.append_ #[24, 24] 24 #[vv, .slice (some ⟨w3.heap.size, 0, none⟩) 1 1]).run Try.prog (w3.alloc (.cells #[.int .i64 x.rv.kind, .bool x.rv.yes, .int .i64 x.rv.num, .string x.rv.text, lv', fv'] 26)) = .ok (.slice qa (j + 1) qc) w4 ∧
            Box w4 (w.heap.size + 1) 26 #[.int .i64 0, .bool false, .int .i64 0, .string ⟨#[]⟩, .slice none 0 0, .slice none 0 0] ∧ Box w4 (w.heap.size + 1 + 1) 26 #[.int .i64 4, .bool false, .int .i64 0, .string ⟨#[]⟩, vv, .slice none 0 0] ∧ VRow w4 (w.heap.size + 3) (.slice qa (j + 1) qc) ((l.take j).map V.rv ++ [x.rv]) ∧ Below w.heap.size w w4) := Lib.hid (fun w3 lv' fv' hat hb3 => by
        obtain ⟨hb, hsz⟩ := HSL.out w3 hb3
        have hro := HROW.out
        have hrow3 := hro.belowR hb
        have hlt := HLT.out
        obtain ⟨vv', w4, hr, hrow4, hup⟩ := run_app_v w3 (w.heap.size + 3) vv _ hrow3 x.rv lv' fv' hat.is.len.1 hat.is.len.2.1 (hat.wider (fun q hq => ⟨by
          have e : (wr.alloc (.cells #[.int .i64 x.kind, .bool x.yes, .int .i64 x.num, .string x.text, .slice px x.list.length pc, .slice py x.fields.length pd] 26)).drew.heap.size = wr.heap.size + 1 := by
            show (wr.alloc (.cells #[.int .i64 x.kind, .bool x.yes, .int .i64 x.num, .string x.text, .slice px x.list.length pc, .slice py x.fields.length pd] 26)).heap.size = _
            simp
          rw [e] at hq; omega, fun e2 => by
          have e : (wr.alloc (.cells #[.int .i64 x.kind, .bool x.yes, .int .i64 x.num, .string x.text, .slice px x.list.length pc, .slice py x.fields.length pd] 26)).drew.heap.size = wr.heap.size + 1 := by
            show (wr.alloc (.cells #[.int .i64 x.kind, .bool x.yes, .int .i64 x.num, .string x.text, .slice px x.list.length pc, .slice py x.fields.length pd] 26)).heap.size = _
            simp
          rw [e] at hq
          have := (hro.own q e2).2
          omega⟩)) 1 (by simp; omega) (by omega)
        obtain ⟨qa, qc, rfl, _, _⟩ := hrow4.form
        have hn1 : ((l.take j).map V.rv ++ [x.rv]).length = j + 1 := by rw [List.length_append, List.length_map, List.length_take]; simp; omega
        rw [hn1] at hr hrow4 hup
        have hne : ∀ q, vv.ownBlock = some q → w.heap.size + 3 ≤ q := fun q hq => (hro.own q hq).1
        refine ⟨qa, qc, w4, hr, ?_, ?_, hrow4, ?_⟩
        · exact (hup.1.block _ (by omega) (fun e => by have := hne _ e.symm; omega)).trans ((hb.block _ (by omega)).trans HZ.out)
        · exact (hup.1.block _ (by omega) (fun e => by have := hne _ e.symm; omega)).trans (HO3.out w3 hb3)
        · exact ((HBW.out.trans (hb.mono hzr)).grown hup.1 (by omega) (fun q hq => by have := hne q hq; omega)))
      clear hin hel hcall hb1 hrow hO hZ
      go_wp2_with fail
      go_region_with ((go_at_call 19; refine HCALL.out.mono ?_; rintro e w3 ⟨lv', fv', rfl, hat, hb3⟩; obtain ⟨qa, qc, w4, hr, hZ4, hO4, hrow4, hb4⟩ := HK.out w3 lv' fv' hat hb3; obtain ⟨⟨l0, l1, rfl⟩, ⟨l2, l3, rfl⟩, _, _⟩ := hat.is.len; obtain ⟨⟨q0, q1, q2, q3, q4, q5⟩, f0, f1, f2, f3, f4, f5⟩ := hO4.six; obtain ⟨⟨r0, r1, r2, r3, r4, r5⟩, _⟩ := (HO3.out w3 hb3).six; obtain ⟨⟨s0, s1, s2, s3, s4, s5⟩, _⟩ := ((HO3.out w3 hb3).alloc (.cells #[.int .i64 x.rv.kind, .bool x.rv.yes, .int .i64 x.rv.num, .string x.rv.text, .slice l0 x.rv.list.length l1, .slice l2 x.rv.fields.length l3] 26)).six))
      all_goals
        have HE := Lib.hid (And.intro hZ4 (And.intro hO4 (And.intro hrow4 hb4)))
        clear hZ4 hO4 hrow4 hb4
        go_wp2
        go_roundw
        case rel =>
          obtain ⟨hZ4, hO4, hrow4, hb4⟩ := HE.out
          refine ⟨j + 1, .slice qa (j + 1) qc, by omega, by go_num, hZ4.setFar (by show w.heap.size + 1 ≠ w.heap.size + 1 + 1; omega) _, hO4.setSame 4 _, ?_, hb4.setCell (by show w.heap.size ≤ w.heap.size + 1 + 1; omega) _⟩
          rw [HTK.out]
          exact hrow4.keep (fun q hq _ => Below.heap_setCell _ _ _ q (by show q ≠ w.heap.size + 1 + 1; omega)) (by simp [World.setCell])
        case measure => simp [intOf]; omega
    · have hge : ¬ (j : Int) < (l.length : Int) := by omega
      obtain rfl : j = l.length := by omega
      rw [List.take_of_length_le (Nat.le_refl _)] at hrow
      obtain ⟨va, vc, rfl, _, _⟩ := hrow.form
      rw [List.length_map] at hrow hO
      have hF := Box.sets [.int .i64 4, .bool false, .int .i64 0, .string ⟨#[]⟩, .slice va l.length vc, .slice none 0 0] 0 hZ
      obtain ⟨⟨k0, k1, k2, k3, k4, k5⟩, _⟩ := Box.six (c0 := .int .i64 4) (c1 := .bool false) (c2 := .int .i64 0) (c3 := .string ⟨#[]⟩) (c4 := .slice va l.length vc) (c5 := .slice none 0 0) hF
      simp only [sets, Nat.zero_add, Nat.reduceAdd] at k0 k1 k2 k3 k4 k5
      have hb5 := Below.sets [.int .i64 4, .bool false, .int .i64 0, .string ⟨#[]⟩, .slice va l.length vc, .slice none 0 0] 0 hb (g := w.heap.size + 1) (by omega)
      have hL1 := hrow.at_
      rw [show (Value.slice va l.length vc) = .slice va (l.map V.rv).length vc by rw [List.length_map]] at *
      have hat5 : (V.ofList (l.map V.rv)).At (sets wr (w.heap.size + 1) 0 [.int .i64 4, .bool false, .int .i64 0, .string ⟨#[]⟩, .slice va (l.map V.rv).length vc, .slice none 0 0]) (fun q => w.heap.size ≤ q) (.slice va (l.map V.rv).length vc) (.slice none 0 0) :=
        V.at_iff.2 ⟨LAt.move (fun q hq _ => ⟨by omega, sets_far _ _ _ _ (by omega)⟩) (by rw [sets_size]; exact Nat.le_refl _) hL1, none, 0, rfl, Nat.le_refl _, by unfold maxLen; omega, .inl rfl⟩
      obtain ⟨⟨z0, z1, z2, z3, z4, z5⟩, s0, s1, s2, s3, s4, s5⟩ := hZ.six
      obtain ⟨⟨o0, o1, o2, o3, o4, o5⟩, _⟩ := hO.six
      rw [show (Value.slice va (l.map V.rv).length vc) = .slice va l.length vc by rw [List.length_map]] at *
      have HE := Lib.hid (And.intro hb5 hat5)
      clear hF hL1 hb hZ hO hrow hb5 hat5
      go_wp2
      refine bodyPost_ret (v := .agg #[.int .i64 4, .bool false, .int .i64 0, .string ⟨#[]⟩, .slice va l.length vc, .slice none 0 0]) (by simp [results, Try.results19, go_sem, k0, k1, k2, k3, k4, k5]) rfl ⟨_, _, rfl, HE.out.2, HE.out.1⟩

end Go.Proofs.Ytljhcnlifdmacaa
end

section
namespace Go.Proofs.Ytljhcnlifdmacaa
open Go.RowKit

attribute [-go_sem] Builtin.append_

theorem few_sm : ∀ (N : Nat) (v : V) (d : Int), v.dep ≤ N → v.few d = true → v.sm
  | 0, v, d, hd, _ => by
    cases v
    rw [V.dep] at hd
    omega
  | N + 1, .mk k y n t l f, d, hd, h => by
    have hdl : ∀ x ∈ l, x.dep ≤ N := fun x hx => by have := dep_list (v := .mk k y n t l f) hx; omega
    have hdf : ∀ p ∈ f, p.2.dep ≤ N := fun p hp => by have := dep_fields (v := .mk k y n t l f) hp; omega
    obtain ⟨_, h2, h3, _, h5, h6⟩ := few_parts h
    exact ⟨⟨by omega, by omega⟩, smL_iff.2 fun x hx => few_sm N x _ (hdl x hx) (fewL_iff.1 h5 x hx), smF_iff.2 fun p hp => few_sm N p.2 _ (hdf p hp) (fewF_iff.1 h6 p hp).2⟩

theorem FRow.belowR {w w' : World} {B : Nat} {vv : Value} {vs : List Fd} (h : FRow w B vv vs) (hb : Below w.heap.size w w') : FRow w' B vv vs := h.keep (fun b _ hlt => hb.block b hlt) hb.size

theorem FRow.own {w : World} {B : Nat} {vv : Value} {vs : List Fd} (h : FRow w B vv vs) : ∀ q, vv.ownBlock = some q → B ≤ q ∧ q < w.heap.size := by
  obtain ⟨cs, h1, _⟩ := h
  exact fun q hq => World.ownsRow.lt h1 q hq

theorem FRow.made (w : World) (B : Nat) (hB : B ≤ w.heap.size) : FRow (w.alloc (.cells #[] 30)) B (.slice (some ⟨w.heap.size, 0, none⟩) 0 0) [] :=
  ⟨[], World.ownsRow_made w #[] 0 hB (by decide) rfl, fun i h => by simp at h⟩

set_option maxHeartbeats 4000000 in
set_option maxRecDepth 100000 in
theorem rv_map (N : Nat) (ih : RightOK N) (k : Int) (y : Bool) (n : Int) (t : ByteArray) (f : List Fd) (d : Int) (hd : ∀ p ∈ f, p.2.dep ≤ N) (hf : ∀ p ∈ f, p.2.few d = true) (hlen : f.length ≤ 8) (lv fv : Value) (hm : (k % 18446744073709551616) % 6 = ((5 : Nat) : Int)) (w : World) (hl : FAt w All f fv) :
    Calls Try.prog 19 #[.agg #[.int .i64 k, .bool y, .int .i64 n, .string t, lv, fv]] w (RvP (V.ofMap (keptL (f.map (fun p : Fd => (p.1, p.2.rv))))) w) := by
  have hk : (IntKind.u64.wrap k).tmod 6 = 5 := kind_mod k 5 hm
  obtain ⟨a, c, rfl, _, _, hcl⟩ := hl
  have HC := Lib.hid hcl
  have HD := Lib.hid hd
  have HF := Lib.hid hf
  have HLEN := Lib.hid hlen
  obtain ⟨e1, e2, e3⟩ := three_boxes w #[.int .i64 k, .bool y, .int .i64 n, .string t, lv, .slice a f.length c] #[.int .i64 0, .bool false, .int .i64 0, .string ⟨#[]⟩, .slice none 0 0, .slice none 0 0] #[.int .i64 5, .bool false, .int .i64 0, .string ⟨#[]⟩, .slice none 0 0, .slice none 0 0] 26
  have hz3 : (((w.alloc (.cells #[.int .i64 k, .bool y, .int .i64 n, .string t, lv, .slice a f.length c] 26)).alloc (.cells #[.int .i64 0, .bool false, .int .i64 0, .string ⟨#[]⟩, .slice none 0 0, .slice none 0 0] 26)).alloc (.cells #[.int .i64 5, .bool false, .int .i64 0, .string ⟨#[]⟩, .slice none 0 0, .slice none 0 0] 26)).heap.size = w.heap.size + 1 + 1 + 1 := by simp
  have hmade := FRow.made (((w.alloc (.cells #[.int .i64 k, .bool y, .int .i64 n, .string t, lv, .slice a f.length c] 26)).alloc (.cells #[.int .i64 0, .bool false, .int .i64 0, .string ⟨#[]⟩, .slice none 0 0, .slice none 0 0] 26)).alloc (.cells #[.int .i64 5, .bool false, .int .i64 0, .string ⟨#[]⟩, .slice none 0 0, .slice none 0 0] 26)) (w.heap.size + 3) (by rw [hz3]; omega)
  rw [hz3] at hmade
  have HST := Lib.hid (And.intro (e1.alloc (.cells #[] 30)) (And.intro (e2.alloc (.cells #[] 30)) (And.intro hmade (e3.alloc (by rw [hz3]; omega) (.cells #[] 30)))))
  clear hm hcl hd hf e1 e2 e3 hz3 hmade
  go_enter Try.func19, Try.ntmps19
  go_wp2
  clear hk
  go_loopw [6, 55] (fun vv cc wr => ∃ (j : Nat), j ≤ f.length ∧ cc = .int .i64 j ∧ Box wr (w.heap.size + 1) 26 #[.int .i64 0, .bool false, .int .i64 0, .string ⟨#[]⟩, .slice none 0 0, .slice none 0 0] ∧
    Box wr (w.heap.size + 1 + 1) 26 #[.int .i64 5, .bool false, .int .i64 0, .string ⟨#[]⟩, .slice none 0 0, .slice none 0 0] ∧ FRow wr (w.heap.size + 3) vv ((f.take j).map (fun p : Fd => (p.1, p.2.rv))) ∧ Below w.heap.size w wr) (fun _ cc _ => f.length - (intOf cc).toNat)
  case atStart => exact ⟨0, Nat.zero_le _, rfl, HST.out.1, HST.out.2.1, HST.out.2.2.1, HST.out.2.2.2⟩
  case round =>
    clear HST
    obtain ⟨j, hj, rfl, hZ, hO, hrow, hb⟩ := hrel
    have hzr := hb.size
    have hOlt := hO.lt
    have hlen := HLEN.out
    by_cases hjl : j < f.length
    · have hjl' : (j : Int) < (f.length : Int) := by omega
      obtain ⟨b0, off, ea, hbl, hC⟩ : ∃ b0 off, a = some ⟨b0, off, none⟩ ∧ b0 < wr.heap.size ∧ FCells wr All b0 off f := by
        rcases HC.out with h | ⟨b0, off, ea, _, hb0, hC⟩
        · rw [h] at hjl; simp at hjl
        · exact ⟨b0, off, ea, Nat.lt_of_lt_of_le hb0 hb.size, FCells.keepAll hC hb hb0⟩
      subst ea
      obtain ⟨lx, fx, hin, hel⟩ := hC.get hjl
      have hxd := HD.out _ (List.getElem_mem hjl)
      have hxf := HF.out _ (List.getElem_mem hjl)
      have htk : (f.take (j + 1)).map (fun p : Fd => (p.1, p.2.rv)) = (f.take j).map (fun p : Fd => (p.1, p.2.rv)) ++ [((f[j]).1, (f[j]).2.rv)] := by rw [List.take_succ_eq_append_getElem hjl, List.map_append]; rfl
      obtain ⟨p, hpe⟩ : ∃ y, y = f[j] := ⟨_, rfl⟩
      rw [← hpe] at hin hel hxd hxf htk
      obtain ⟨nm, x⟩ := p
      have HTK := Lib.hid htk
      clear hpe hC htk
      replace hel : x.Is wr lx fx := hel
      replace hin : InAt wr b0 (off + j * 7) (.string nm :: x.cells lx fx) := hin
      replace hxd : x.dep ≤ N := hxd
      replace hxf : x.few d = true := hxf
      obtain ⟨⟨px, pc, rfl⟩, ⟨py, pd, rfl⟩, _, _⟩ := hel.len
      obtain ⟨p0, p1, p2, p3, p4, p5, p6⟩ := hin.seven
      have hb1 : Below wr.heap.size wr (wr.alloc (.cells #[.string nm, .int .i64 x.kind, .bool x.yes, .int .i64 x.num, .string x.text, .slice px x.list.length pc, .slice py x.fields.length pd] 30)) := (Below.refl _ wr).alloc (Nat.le_refl _) _
      have hcall := ih x d _ _ _ hxd hxf (V.At.drew (V.Is.below hel hb1))
      have HCALL := Lib.hid hcall
      have HBW := Lib.hid hb
      have HROW := Lib.hid hrow
      have hN : Box (wr.alloc (.cells #[.string nm, .int .i64 x.kind, .bool x.yes, .int .i64 x.num, .string x.text, .slice px x.list.length pc, .slice py x.fields.length pd] 30)).drew wr.heap.size 30 #[.string nm, .int .i64 x.kind, .bool x.yes, .int .i64 x.num, .string x.text, .slice px x.list.length pc, .slice py x.fields.length pd] := Box.new wr _ _
      have HO := Lib.hid hO
      have HZ := Lib.hid hZ
      have HNB := Lib.hid hN
      have HLT : Hid (w.heap.size + 1 + 1 < wr.heap.size) := Lib.hid hO.lt
      have HSL : Hid (∀ w3, Below (wr.alloc (.cells #[.string nm, .int .i64 x.kind, .bool x.yes, .int .i64 x.num, .string x.text, .slice px x.list.length pc, .slice py x.fields.length pd] 30)).drew.heap.size (wr.alloc (.cells #[.string nm, .int .i64 x.kind, .bool x.yes, .int .i64 x.num, .string x.text, .slice px x.list.length pc, .slice py x.fields.length pd] 30)).drew w3 → Below wr.heap.size wr w3 ∧ wr.heap.size + 1 ≤ w3.heap.size ∧ Box w3 wr.heap.size 30 #[.string nm, .int .i64 x.kind, .bool x.yes, .int .i64 x.num, .string x.text, .slice px x.list.length pc, .slice py x.fields.length pd]) := Lib.hid (fun w3 hb3 => by
        have e : (wr.alloc (.cells #[.string nm, .int .i64 x.kind, .bool x.yes, .int .i64 x.num, .string x.text, .slice px x.list.length pc, .slice py x.fields.length pd] 30)).drew.heap.size = wr.heap.size + 1 := by
          show (wr.alloc (.cells #[.string nm, .int .i64 x.kind, .bool x.yes, .int .i64 x.num, .string x.text, .slice px x.list.length pc, .slice py x.fields.length pd] 30)).heap.size = _
          simp
        exact ⟨hb1.drew.trans (hb3.mono (by rw [e]; omega)), by have := hb3.size; rw [e] at this; exact this, (hb3.block _ (by rw [e]; omega)).trans hN⟩)
      have HK : Hid (∀ w3 lv' fv', x.rv.At w3 (fun q => (wr.alloc (.cells #[.string nm, .int .i64 x.kind, .bool x.yes, .int .i64 x.num, .string x.text, .slice px x.list.length pc, .slice py x.fields.length pd] 30)).drew.heap.size ≤ q) lv' fv' → Below (wr.alloc (.cells #[.string nm, .int .i64 x.kind, .bool x.yes, .int .i64 x.num, .string x.text, .slice px x.list.length pc, .slice py x.fields.length pd] 30)).drew.heap.size (wr.alloc (.cells #[.string nm, .int .i64 x.kind, .bool x.yes, .int .i64 x.num, .string x.text, .slice px x.list.length pc, .slice py x.fields.length pd] 30)).drew w3 →
          ∃ qa qc w4, (Builtin.append_ #[22, 22] 22 #[u6, .slice (some ⟨w3.heap.size, 0, none⟩) 1 1]).run Try.prog (w3.alloc (.cells #[.string nm, .int .i64 x.rv.kind, .bool x.rv.yes, .int .i64 x.rv.num, .string x.rv.text, lv', fv'] 30)) = .ok (.slice qa (j + 1) qc) w4 ∧
            Box w4 (w.heap.size + 1) 26 #[.int .i64 0, .bool false, .int .i64 0, .string ⟨#[]⟩, .slice none 0 0, .slice none 0 0] ∧ Box w4 (w.heap.size + 1 + 1) 26 #[.int .i64 5, .bool false, .int .i64 0, .string ⟨#[]⟩, .slice none 0 0, .slice none 0 0] ∧ FRow w4 (w.heap.size + 3) (.slice qa (j + 1) qc) ((f.take j).map (fun p : Fd => (p.1, p.2.rv)) ++ [(nm, x.rv)]) ∧ Below w.heap.size w w4) := Lib.hid (fun w3 lv' fv' hat hb3 => by
        obtain ⟨hb, hsz, _⟩ := HSL.out w3 hb3
        have hro := HROW.out
        have hrow3 := hro.belowR hb
        have hlt := HLT.out
        have e : (wr.alloc (.cells #[.string nm, .int .i64 x.kind, .bool x.yes, .int .i64 x.num, .string x.text, .slice px x.list.length pc, .slice py x.fields.length pd] 30)).drew.heap.size = wr.heap.size + 1 := by
          show (wr.alloc (.cells #[.string nm, .int .i64 x.kind, .bool x.yes, .int .i64 x.num, .string x.text, .slice px x.list.length pc, .slice py x.fields.length pd] 30)).heap.size = _
          simp
        obtain ⟨vv', w4, hr, hrow4, hup⟩ := run_app_f w3 (w.heap.size + 3) u6 _ hrow3 (nm, x.rv) lv' fv' hat.is.len.1 hat.is.len.2.1 (hat.wider (fun q hq => ⟨by
          rw [e] at hq; omega, fun e2 => by
          rw [e] at hq
          have := (hro.own q e2).2
          omega⟩)) 1 (by simp; omega) (by omega)
        have hne : ∀ q, u6.ownBlock = some q → w.heap.size + 3 ≤ q := fun q hq => (hro.own q hq).1
        have hn1 : ((f.take j).map (fun p : Fd => (p.1, p.2.rv)) ++ [(nm, x.rv)]).length = j + 1 := by rw [List.length_append, List.length_map, List.length_take]; simp; omega
        obtain ⟨qa, qc, rfl, _, _⟩ := hrow4.form
        rw [hn1] at hr hrow4 hup
        refine ⟨qa, qc, w4, hr, ?_, ?_, hrow4, ?_⟩
        · exact (hup.1.block _ (by omega) (fun e => by have := hne _ e.symm; omega)).trans ((hb.block _ (by omega)).trans HZ.out)
        · exact (hup.1.block _ (by omega) (fun e => by have := hne _ e.symm; omega)).trans ((hb.block _ (by omega)).trans HO.out)
        · exact ((HBW.out.trans (hb.mono hzr)).grown hup.1 (by omega) (fun q hq => by have := hne q hq; omega)))
      clear hin hel hcall hb1 hrow hO hZ hN
      go_wp2_with fail
      go_region_with ((go_at_call 19; refine HCALL.out.mono ?_; rintro e w3 ⟨lv', fv', rfl, hat, hb3⟩; obtain ⟨qa, qc, w4, hr, hZ4, hO4, hrow4, hb4⟩ := HK.out w3 lv' fv' hat hb3; obtain ⟨⟨l0, l1, rfl⟩, ⟨l2, l3, rfl⟩, _, _⟩ := hat.is.len; obtain ⟨r0, r1, r2, r3, r4, r5, r6⟩ := (HSL.out w3 hb3).2.2.seven; obtain ⟨s0, s1, s2, s3, s4, s5, s6⟩ := ((HSL.out w3 hb3).2.2.alloc (.cells #[.string nm, .int .i64 x.rv.kind, .bool x.rv.yes, .int .i64 x.rv.num, .string x.rv.text, .slice l0 x.rv.list.length l1, .slice l2 x.rv.fields.length l3] 30)).seven))
      all_goals
        have HE := Lib.hid (And.intro hZ4 (And.intro hO4 (And.intro hrow4 hb4)))
        clear hZ4 hO4 hrow4 hb4
        go_wp2
        go_roundw
        case rel =>
          obtain ⟨hZ4, hO4, hrow4, hb4⟩ := HE.out
          exact ⟨j + 1, by omega, by go_num, hZ4, hO4, by rw [HTK.out]; exact hrow4, hb4⟩
        case measure => simp [intOf]; omega
    · have hge : ¬ (j : Int) < (f.length : Int) := by omega
      obtain rfl : j = f.length := by omega
      rw [List.take_of_length_le (Nat.le_refl _)] at hrow
      have hsm : ∀ p ∈ f.map (fun p : Fd => (p.1, p.2.rv)), p.2.sm := fun p hp => by
        obtain ⟨q, hq, rfl⟩ := List.mem_map.1 hp
        exact few_sm _ _ d (Nat.le_refl _) (rv_few _ q.2 d (Nat.le_refl _) (HF.out q hq))
      have hK8 := keptL_length (f.map (fun p : Fd => (p.1, p.2.rv)))
      rw [List.length_map] at hK8
      obtain ⟨va, vc, rfl, _, _⟩ := hrow.form
      obtain ⟨dd, hdd, hcall⟩ := ofMap_any (f.map (fun p : Fd => (p.1, p.2.rv))) _ wr (FAt.move (fun b _ _ => ⟨trivial, rfl⟩) (Nat.le_refl _) hrow.at_) (by rw [List.length_map]; omega) hsm
      rw [kept_is dd, ← hdd] at hcall
      rw [List.length_map] at hcall
      obtain ⟨KL, hKL⟩ : ∃ KL, KL = keptL (f.map (fun p : Fd => (p.1, p.2.rv))) := ⟨_, rfl⟩
      rw [← hKL] at hcall hK8
      have HKL := Lib.hid hKL
      clear hKL
      have HB := Lib.hid hb
      have HZ := Lib.hid hZ
      have HO := Lib.hid hO
      have HCL := Lib.hid hcall
      have hgl : Hid (w.heap.size + 1 + 1 < wr.heap.size) := Lib.hid hOlt
      clear hrow hsm hdd hb hZ hO hcall
      go_wp2_with fail
      refine HCL.out.mono ?_
      rintro e w5 ⟨fv', rfl, hat, hb5⟩
      obtain ⟨_, ⟨qx, qc, rfl⟩, _, _⟩ := hat.is.len
      obtain ⟨kn, hkn⟩ : ∃ kn, kn = (V.ofMap KL).fields.length := ⟨_, rfl⟩
      rw [← hkn] at hat ⊢
      have hlt := hgl.out
      have hZ5 : Box w5 (w.heap.size + 1) 26 #[.int .i64 0, .bool false, .int .i64 0, .string ⟨#[]⟩, .slice none 0 0, .slice none 0 0] := (hb5.block _ (by omega)).trans HZ.out
      have hO5 : Box w5 (w.heap.size + 1 + 1) 26 #[.int .i64 5, .bool false, .int .i64 0, .string ⟨#[]⟩, .slice none 0 0, .slice none 0 0] := (hb5.block _ (by omega)).trans HO.out
      have hbw5 := HB.out.trans (hb5.mono hzr)
      have hO6 := Box.sets [.int .i64 5, .bool false, .int .i64 0, .string ⟨#[]⟩, .slice none 0 0, .slice qx kn qc] 0 hO5
      have hZ6 : Box (sets w5 (w.heap.size + 1 + 1) 0 [.int .i64 5, .bool false, .int .i64 0, .string ⟨#[]⟩, .slice none 0 0, .slice qx kn qc]) (w.heap.size + 1) 26 #[.int .i64 0, .bool false, .int .i64 0, .string ⟨#[]⟩, .slice none 0 0, .slice none 0 0] := (sets_far _ _ _ _ (by omega)).trans hZ5
      have hF := Box.sets [.int .i64 5, .bool false, .int .i64 0, .string ⟨#[]⟩, .slice none 0 0, .slice qx kn qc] 0 hZ6
      have hb6 := Below.sets [.int .i64 5, .bool false, .int .i64 0, .string ⟨#[]⟩, .slice none 0 0, .slice qx kn qc] 0 (Below.sets [.int .i64 5, .bool false, .int .i64 0, .string ⟨#[]⟩, .slice none 0 0, .slice qx kn qc] 0 hbw5 (g := w.heap.size + 1 + 1) (by omega)) (g := w.heap.size + 1) (by omega)
      have hat6 : (V.ofMap KL).At (sets (sets w5 (w.heap.size + 1 + 1) 0 [.int .i64 5, .bool false, .int .i64 0, .string ⟨#[]⟩, .slice none 0 0, .slice qx kn qc]) (w.heap.size + 1) 0 [.int .i64 5, .bool false, .int .i64 0, .string ⟨#[]⟩, .slice none 0 0, .slice qx kn qc]) (fun q => w.heap.size ≤ q) (.slice none 0 0) (.slice qx kn qc) :=
        V.At.move (fun q hq _ => ⟨by omega, (sets_far _ _ _ _ (by omega)).trans (sets_far _ _ _ _ (by omega))⟩) (by rw [sets_size, sets_size]; exact Nat.le_refl _) _ (Nat.le_refl _) hat
      obtain ⟨⟨m0, m1, m2, m3, m4, m5⟩, g0, g1, g2, g3, g4, g5⟩ := hO5.six
      obtain ⟨⟨a0, a1, a2, a3, a4, a5⟩, _⟩ := Box.six (c0 := .int .i64 5) (c1 := .bool false) (c2 := .int .i64 0) (c3 := .string ⟨#[]⟩) (c4 := .slice none 0 0) (c5 := .slice qx kn qc) hO6
      obtain ⟨⟨z0, z1, z2, z3, z4, z5⟩, s0, s1, s2, s3, s4, s5⟩ := hZ6.six
      obtain ⟨⟨k0, k1, k2, k3, k4, k5⟩, _⟩ := Box.six (c0 := .int .i64 5) (c1 := .bool false) (c2 := .int .i64 0) (c3 := .string ⟨#[]⟩) (c4 := .slice none 0 0) (c5 := .slice qx kn qc) hF
      have HE := Lib.hid (And.intro hb6 hat6)
      clear hb6 hat6 hF hO6 hZ6 hZ5 hO5 hbw5 hb5 hat HZ HO HCL HB hkn hlt hK8 hOlt hlen
      simp only [sets, Nat.zero_add, Nat.reduceAdd] at a0 a1 a2 a3 a4 a5 z0 z1 z2 z3 z4 z5 s0 s1 s2 s3 s4 s5 k0 k1 k2 k3 k4 k5
      go_wp2
      refine bodyPost_ret (v := .agg #[.int .i64 5, .bool false, .int .i64 0, .string ⟨#[]⟩, .slice none 0 0, .slice qx kn qc]) (by simp [results, Try.results19, go_sem, k0, k1, k2, k3, k4, k5]) rfl ⟨_, _, rfl, ?_, HE.out.1⟩
      rw [← HKL.out]
      exact HE.out.2

theorem right_all : ∀ N, RightOK N
  | 0 => fun v d lv fv w hd _ _ => by
    cases v
    rw [V.dep] at hd
    omega
  | N + 1 => fun v d lv fv w hd hf his => by
    obtain ⟨k, y, n, t, l, f⟩ := v
    have hdl : ∀ x ∈ l, x.dep ≤ N := fun x hx => by have := dep_list (v := .mk k y n t l f) hx; omega
    have hdf : ∀ p ∈ f, p.2.dep ≤ N := fun p hp => by have := dep_fields (v := .mk k y n t l f) hp; omega
    obtain ⟨h1, h2, h3, h4, h5, h6⟩ := few_parts hf
    obtain ⟨hL, hF⟩ := V.at_iff.1 his
    obtain ⟨m, hm6, hm1, hm2⟩ := kind6 k
    by_cases hs : m < 4
    · exact rv_small k y n t l f lv fv m hm1 hm2 hs w
    · by_cases h4' : m = 4
      · subst h4'
        rw [V.rv, hm2, rvL_map]
        exact rv_list N (right_all N) k y n t l (d + 1) hdl (fewL_iff.1 h5) h2 lv fv hm1 w hL
      · obtain rfl : m = 5 := by omega
        rw [V.rv, hm2, rvF_map]
        exact rv_map N (right_all N) k y n t f (d + 1) hdf (fun p hp => (fewF_iff.1 h6 p hp).2) h3 lv fv hm1 w hF

/-- the law's Right, of whatever value of few parts -/
theorem lright_any (v : V) (d : Int) (hf : v.few d = true) (lv fv : Value) (w : World) (h : v.Is w lv fv) :
    Calls Try.prog 19 #[.agg #[.int .i64 v.kind, .bool v.yes, .int .i64 v.num, .string v.text, lv, fv]] w (RvP v.rv w) := right_all v.dep v d lv fv w (Nat.le_refl _) hf h

end Go.Proofs.Ytljhcnlifdmacaa
end
