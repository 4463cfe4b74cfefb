/-
  Values and fields appended inside a region that draws its order.
-/
import Derived.Test.YtcocljgafhpdaaaValRow
import Derived.Test.YtcocljgafhpdaaaValFld
namespace Go.Proofs.Ytcocljgafhpdaaa
open Go.RowKit

theorem oper_app_v (W : World) (H : Nat) (hH : W.heap.size = H) {o : Oper} {a : Act} {K : Act → World → Prop} {Q : Exit → Act → World → Prop} (s x : Operand)
    (ho : o.op = .call { callee := .builtin .append, args := #[s, x], argTypes := #[24, 24] })
    (B : Nat) (vv : Value) (vs : List V) (hs : a.eval s = vv) (hrow : VRow W B vv vs) (v : V) (lv fv : Value) (hlv : ∃ a c, lv = .slice a v.list.length c) (hfv : ∃ a c, fv = .slice a v.fields.length c) (hat : v.At W (fun x => B ≤ x ∧ vv.ownBlock ≠ some x) lv fv)
    (cs : Array Value) (hcs : cs = (v.cells lv fv).toArray) (c : Nat) (hx : a.eval x = .slice (some ⟨H, 0, none⟩) 1 c) (h63 : vs.length ≤ 1000000) (hbase : B ≤ W.heap.size)
    (h : ∀ vv' w', VRow w' B vv' (vs ++ [v]) → Up W vv w' vv' → K (a.put o.dst vv') w') :
    o.wp Try.prog a (W.alloc (.cells cs 26)) K Q := by
  subst hH hcs
  obtain ⟨i, hi, hz, hi1, hi2⟩ := info_parts infoV
  obtain ⟨old, hown, hold⟩ := hrow
  have hlen : (v.cells lv fv).length = 6 := rfl
  have hcl := hown.1
  have hn : ∀ j u, (v.cells lv fv)[j]? = some u → (W.alloc (.cells (v.cells lv fv).toArray 26)).cell? ((⟨W.heap.size, 0, none⟩ : Addr).add j) = some u := by
    intro j u hj
    have e : ((⟨W.heap.size, 0, none⟩ : Addr).add j) = ⟨W.heap.size, j, none⟩ := by unfold Addr.add; by_cases h0 : j = 0 <;> simp [h0]
    rw [e, cell_of_row (W.alloc (.cells (v.cells lv fv).toArray 26)) W.heap.size j (v.cells lv fv).toArray 26 (0, 0) (heap_alloc_new W _)]
    simpa using hj
  obtain ⟨al, cl, rfl⟩ := hlv
  obtain ⟨af, cf, rfl⟩ := hfv
  obtain ⟨v', w', hr, ho', hu⟩ := run_app (P := Try.prog) (W.alloc (.cells (v.cells _ _).toArray 26)) B 24 o.type 26 i _ 6 88 Try.underlying24 hi hz hi1 hi2 rfl (by decide) vv vs.length old (hown.alloc _)
    ⟨W.heap.size, 0, none⟩ 1 c (v.cells _ _) hlen hn (by intro u hu; simp [V.cells] at hu; rcases hu with rfl | rfl | rfl | rfl | rfl | rfl <;> rfl) (by unfold maxLen; omega) (by omega) (by simp; omega)
  unfold Oper.wp execOp
  simp only [ho, resolve, invoke, builtin, Sem.run_bind, Sem.run_pure, Result.andThen_ok, List.map_toArray, List.map_cons, List.map_nil, hs, hx, hr]
  have hu' := hu.alloc
  have hgr := hu'.1
  have hne : ∀ b, b < W.heap.size → vv.ownBlock ≠ some b → v'.ownBlock ≠ some b := fun b hb hnb e => by
    rcases hu'.2 with e2 | e2
    · rw [e2] at e; exact hnb e
    · have := e2 b e; omega
  refine (h v' w' ⟨old ++ v.cells _ _, by rw [List.length_append]; exact ho', fun j hj => ?_⟩ hu')
  by_cases hjl : j < vs.length
  · obtain ⟨l1, f1, g1, g2⟩ := hold j hjl
    refine ⟨l1, f1, fun q u hq => ?_, ?_⟩
    · rw [List.getElem_append_left hjl] at hq
      have h1 := g1 q u hq
      rw [List.getElem?_append_left (List.getElem?_eq_some_iff.1 h1).1]
      exact h1
    · rw [List.getElem_append_left hjl]
      exact V.At.move (fun b hS hlt => ⟨⟨hS.1, hne b hlt hS.2⟩, hgr.block b hlt (fun e => hS.2 e.symm)⟩) hgr.size _ (Nat.le_refl _) g2
  · obtain rfl : j = vs.length := by simp at hj; omega
    refine ⟨.slice al v.list.length cl, .slice af v.fields.length cf, fun q u hq => ?_, ?_⟩
    · rw [List.getElem_append_right (Nat.le_refl _)] at hq
      rw [List.getElem?_append_right (by rw [hcl]; omega), hcl]
      simp only [Nat.sub_self, List.getElem_cons_zero] at hq
      rw [show vs.length * 6 + q - vs.length * 6 = q by omega]
      exact hq
    · rw [List.getElem_append_right (Nat.le_refl _)]
      simp only [Nat.sub_self, List.getElem_cons_zero]
      exact V.At.move (fun b hS hlt => ⟨⟨hS.1, hne b hlt hS.2⟩, hgr.block b hlt (fun e => hS.2 e.symm)⟩) hgr.size _ (Nat.le_refl _) hat


theorem oper_app_f (W : World) (H : Nat) (hH : W.heap.size = H) {o : Oper} {a : Act} {K : Act → World → Prop} {Q : Exit → Act → World → Prop} (s x : Operand)
    (ho : o.op = .call { callee := .builtin .append, args := #[s, x], argTypes := #[22, 22] })
    (B : Nat) (vv : Value) (vs : List Fd) (hs : a.eval s = vv) (hrow : FRow W B vv vs) (v : Fd) (lv fv : Value) (hlv : ∃ a c, lv = .slice a v.2.list.length c) (hfv : ∃ a c, fv = .slice a v.2.fields.length c) (hat : v.2.At W (fun x => B ≤ x ∧ vv.ownBlock ≠ some x) lv fv)
    (cs : Array Value) (hcs : cs = (fcells v lv fv).toArray) (c : Nat) (hx : a.eval x = .slice (some ⟨H, 0, none⟩) 1 c) (h63 : vs.length ≤ 1000000) (hbase : B ≤ W.heap.size)
    (h : ∀ vv' w', FRow w' B vv' (vs ++ [v]) → Up W vv w' vv' → K (a.put o.dst vv') w') :
    o.wp Try.prog a (W.alloc (.cells cs 30)) K Q := by
  subst hH hcs
  obtain ⟨i, hi, hz, hi1, hi2⟩ := info_parts infoF
  obtain ⟨old, hown, hold⟩ := hrow
  have hlen : (fcells v lv fv).length = 7 := rfl
  have hcl := hown.1
  have hn : ∀ j u, (fcells v lv fv)[j]? = some u → (W.alloc (.cells (fcells v lv fv).toArray 30)).cell? ((⟨W.heap.size, 0, none⟩ : Addr).add j) = some u := by
    intro j u hj
    have e : ((⟨W.heap.size, 0, none⟩ : Addr).add j) = ⟨W.heap.size, j, none⟩ := by unfold Addr.add; by_cases h0 : j = 0 <;> simp [h0]
    rw [e, cell_of_row (W.alloc (.cells (fcells v lv fv).toArray 30)) W.heap.size j (fcells v lv fv).toArray 30 (0, 0) (heap_alloc_new W _)]
    simpa using hj
  obtain ⟨al, cl, rfl⟩ := hlv
  obtain ⟨af, cf, rfl⟩ := hfv
  obtain ⟨v', w', hr, ho', hu⟩ := run_app (P := Try.prog) (W.alloc (.cells (fcells v _ _).toArray 30)) B 22 o.type 30 i _ 7 104 Try.underlying22 hi hz hi1 hi2 rfl (by decide) vv vs.length old (hown.alloc _)
    ⟨W.heap.size, 0, none⟩ 1 c (fcells v _ _) hlen hn (by intro u hu; simp [fcells, V.cells] at hu; rcases hu with rfl | rfl | rfl | rfl | rfl | rfl | rfl <;> rfl) (by unfold maxLen; omega) (by omega) (by simp; omega)
  unfold Oper.wp execOp
  simp only [ho, resolve, invoke, builtin, Sem.run_bind, Sem.run_pure, Result.andThen_ok, List.map_toArray, List.map_cons, List.map_nil, hs, hx, hr]
  have hu' := hu.alloc
  have hgr := hu'.1
  have hne : ∀ b, b < W.heap.size → vv.ownBlock ≠ some b → v'.ownBlock ≠ some b := fun b hb hnb e => by
    rcases hu'.2 with e2 | e2
    · rw [e2] at e; exact hnb e
    · have := e2 b e; omega
  refine (h v' w' ⟨old ++ fcells v _ _, by rw [List.length_append]; exact ho', fun j hj => ?_⟩ hu')
  by_cases hjl : j < vs.length
  · obtain ⟨l1, f1, g1, g2⟩ := hold j hjl
    refine ⟨l1, f1, fun q u hq => ?_, ?_⟩
    · rw [List.getElem_append_left hjl] at hq
      have h1 := g1 q u hq
      rw [List.getElem?_append_left (List.getElem?_eq_some_iff.1 h1).1]
      exact h1
    · rw [List.getElem_append_left hjl]
      exact V.At.move (fun b hS hlt => ⟨⟨hS.1, hne b hlt hS.2⟩, hgr.block b hlt (fun e => hS.2 e.symm)⟩) hgr.size _ (Nat.le_refl _) g2
  · obtain rfl : j = vs.length := by simp at hj; omega
    refine ⟨.slice al v.2.list.length cl, .slice af v.2.fields.length cf, fun q u hq => ?_, ?_⟩
    · rw [List.getElem_append_right (Nat.le_refl _)] at hq
      rw [List.getElem?_append_right (by rw [hcl]; omega), hcl]
      simp only [Nat.sub_self, List.getElem_cons_zero] at hq
      rw [show vs.length * 7 + q - vs.length * 7 = q by omega]
      exact hq
    · rw [List.getElem_append_right (Nat.le_refl _)]
      simp only [Nat.sub_self, List.getElem_cons_zero]
      exact V.At.move (fun b hS hlt => ⟨⟨hS.1, hne b hlt hS.2⟩, hgr.block b hlt (fun e => hS.2 e.symm)⟩) hgr.size _ (Nat.le_refl _) hat


theorem run_app_v (W : World) (B : Nat) (vv : Value) (vs : List V) (hrow : VRow W B vv vs) (v : V) (lv fv : Value) (hlv : ∃ a c, lv = .slice a v.list.length c) (hfv : ∃ a c, fv = .slice a v.fields.length c) (hat : v.At W (fun x => B ≤ x ∧ vv.ownBlock ≠ some x) lv fv)
    (c : Nat) (h63 : vs.length ≤ 1000000) (hbase : B ≤ W.heap.size) :
    ∃ vv' w', (Builtin.append_ #[24, 24] 24 #[vv, .slice (some ⟨W.heap.size, 0, none⟩) 1 c]).run Try.prog (W.alloc (.cells (v.cells lv fv).toArray 26)) = .ok vv' w' ∧ VRow w' B vv' (vs ++ [v]) ∧ Up W vv w' vv' := by
  obtain ⟨i, hi, hz, hi1, hi2⟩ := info_parts infoV
  obtain ⟨old, hown, hold⟩ := hrow
  have hlen : (v.cells lv fv).length = 6 := rfl
  have hcl := hown.1
  have hn : ∀ j u, (v.cells lv fv)[j]? = some u → (W.alloc (.cells (v.cells lv fv).toArray 26)).cell? ((⟨W.heap.size, 0, none⟩ : Addr).add j) = some u := by
    intro j u hj
    have e : ((⟨W.heap.size, 0, none⟩ : Addr).add j) = ⟨W.heap.size, j, none⟩ := by unfold Addr.add; by_cases h0 : j = 0 <;> simp [h0]
    rw [e, cell_of_row (W.alloc (.cells (v.cells lv fv).toArray 26)) W.heap.size j (v.cells lv fv).toArray 26 (0, 0) (heap_alloc_new W _)]
    simpa using hj
  obtain ⟨al, cl, rfl⟩ := hlv
  obtain ⟨af, cf, rfl⟩ := hfv
  obtain ⟨v', w', hr, ho', hu⟩ := run_app (P := Try.prog) (W.alloc (.cells (v.cells _ _).toArray 26)) B 24 24 26 i _ 6 88 Try.underlying24 hi hz hi1 hi2 rfl (by decide) vv vs.length old (hown.alloc _)
    ⟨W.heap.size, 0, none⟩ 1 c (v.cells _ _) hlen hn (by intro u hu; simp [V.cells] at hu; rcases hu with rfl | rfl | rfl | rfl | rfl | rfl <;> rfl) (by unfold maxLen; omega) (by omega) (by simp; omega)
  have hu' := hu.alloc
  have hgr := hu'.1
  have hne : ∀ b, b < W.heap.size → vv.ownBlock ≠ some b → v'.ownBlock ≠ some b := fun b hb hnb e => by
    rcases hu'.2 with e2 | e2
    · rw [e2] at e; exact hnb e
    · have := e2 b e; omega
  refine ⟨v', w', hr, ⟨old ++ v.cells _ _, by rw [List.length_append]; exact ho', fun j hj => ?_⟩, hu'⟩
  by_cases hjl : j < vs.length
  · obtain ⟨l1, f1, g1, g2⟩ := hold j hjl
    refine ⟨l1, f1, fun q u hq => ?_, ?_⟩
    · rw [List.getElem_append_left hjl] at hq
      have h1 := g1 q u hq
      rw [List.getElem?_append_left (List.getElem?_eq_some_iff.1 h1).1]
      exact h1
    · rw [List.getElem_append_left hjl]
      exact V.At.move (fun b hS hlt => ⟨⟨hS.1, hne b hlt hS.2⟩, hgr.block b hlt (fun e => hS.2 e.symm)⟩) hgr.size _ (Nat.le_refl _) g2
  · obtain rfl : j = vs.length := by simp at hj; omega
    refine ⟨.slice al v.list.length cl, .slice af v.fields.length cf, fun q u hq => ?_, ?_⟩
    · rw [List.getElem_append_right (Nat.le_refl _)] at hq
      rw [List.getElem?_append_right (by rw [hcl]; omega), hcl]
      simp only [Nat.sub_self, List.getElem_cons_zero] at hq
      rw [show vs.length * 6 + q - vs.length * 6 = q by omega]
      exact hq
    · rw [List.getElem_append_right (Nat.le_refl _)]
      simp only [Nat.sub_self, List.getElem_cons_zero]
      exact V.At.move (fun b hS hlt => ⟨⟨hS.1, hne b hlt hS.2⟩, hgr.block b hlt (fun e => hS.2 e.symm)⟩) hgr.size _ (Nat.le_refl _) hat


theorem run_app_f (W : World) (B : Nat) (vv : Value) (vs : List Fd) (hrow : FRow W B vv vs) (v : Fd) (lv fv : Value) (hlv : ∃ a c, lv = .slice a v.2.list.length c) (hfv : ∃ a c, fv = .slice a v.2.fields.length c) (hat : v.2.At W (fun x => B ≤ x ∧ vv.ownBlock ≠ some x) lv fv)
    (c : Nat) (h63 : vs.length ≤ 1000000) (hbase : B ≤ W.heap.size) :
    ∃ vv' w', (Builtin.append_ #[22, 22] 22 #[vv, .slice (some ⟨W.heap.size, 0, none⟩) 1 c]).run Try.prog (W.alloc (.cells (fcells v lv fv).toArray 30)) = .ok vv' w' ∧ FRow w' B vv' (vs ++ [v]) ∧ Up W vv w' vv' := by
  obtain ⟨i, hi, hz, hi1, hi2⟩ := info_parts infoF
  obtain ⟨old, hown, hold⟩ := hrow
  have hlen : (fcells v lv fv).length = 7 := rfl
  have hcl := hown.1
  have hn : ∀ j u, (fcells v lv fv)[j]? = some u → (W.alloc (.cells (fcells v lv fv).toArray 30)).cell? ((⟨W.heap.size, 0, none⟩ : Addr).add j) = some u := by
    intro j u hj
    have e : ((⟨W.heap.size, 0, none⟩ : Addr).add j) = ⟨W.heap.size, j, none⟩ := by unfold Addr.add; by_cases h0 : j = 0 <;> simp [h0]
    rw [e, cell_of_row (W.alloc (.cells (fcells v lv fv).toArray 30)) W.heap.size j (fcells v lv fv).toArray 30 (0, 0) (heap_alloc_new W _)]
    simpa using hj
  obtain ⟨al, cl, rfl⟩ := hlv
  obtain ⟨af, cf, rfl⟩ := hfv
  obtain ⟨v', w', hr, ho', hu⟩ := run_app (P := Try.prog) (W.alloc (.cells (fcells v _ _).toArray 30)) B 22 22 30 i _ 7 104 Try.underlying22 hi hz hi1 hi2 rfl (by decide) vv vs.length old (hown.alloc _)
    ⟨W.heap.size, 0, none⟩ 1 c (fcells v _ _) hlen hn (by intro u hu; simp [fcells, V.cells] at hu; rcases hu with rfl | rfl | rfl | rfl | rfl | rfl | rfl <;> rfl) (by unfold maxLen; omega) (by omega) (by simp; omega)
  have hu' := hu.alloc
  have hgr := hu'.1
  have hne : ∀ b, b < W.heap.size → vv.ownBlock ≠ some b → v'.ownBlock ≠ some b := fun b hb hnb e => by
    rcases hu'.2 with e2 | e2
    · rw [e2] at e; exact hnb e
    · have := e2 b e; omega
  refine ⟨v', w', hr, ⟨old ++ fcells v _ _, by rw [List.length_append]; exact ho', fun j hj => ?_⟩, hu'⟩
  by_cases hjl : j < vs.length
  · obtain ⟨l1, f1, g1, g2⟩ := hold j hjl
    refine ⟨l1, f1, fun q u hq => ?_, ?_⟩
    · rw [List.getElem_append_left hjl] at hq
      have h1 := g1 q u hq
      rw [List.getElem?_append_left (List.getElem?_eq_some_iff.1 h1).1]
      exact h1
    · rw [List.getElem_append_left hjl]
      exact V.At.move (fun b hS hlt => ⟨⟨hS.1, hne b hlt hS.2⟩, hgr.block b hlt (fun e => hS.2 e.symm)⟩) hgr.size _ (Nat.le_refl _) g2
  · obtain rfl : j = vs.length := by simp at hj; omega
    refine ⟨.slice al v.2.list.length cl, .slice af v.2.fields.length cf, fun q u hq => ?_, ?_⟩
    · rw [List.getElem_append_right (Nat.le_refl _)] at hq
      rw [List.getElem?_append_right (by rw [hcl]; omega), hcl]
      simp only [Nat.sub_self, List.getElem_cons_zero] at hq
      rw [show vs.length * 7 + q - vs.length * 7 = q by omega]
      exact hq
    · rw [List.getElem_append_right (Nat.le_refl _)]
      simp only [Nat.sub_self, List.getElem_cons_zero]
      exact V.At.move (fun b hS hlt => ⟨⟨hS.1, hne b hlt hS.2⟩, hgr.block b hlt (fun e => hS.2 e.symm)⟩) hgr.size _ (Nat.le_refl _) hat


end Go.Proofs.Ytcocljgafhpdaaa
