/-
  A row of values that the call owns: what an append does to it; as a value's list.
-/
import Derived.Test.YtacphlceggbfcaaValDec1
namespace Go.Proofs.Ytacphlceggbfcaa
open Go.RowKit

theorem infoV : (Try.prog.info? 26).map (fun i => (i.zero, i.size, i.bytes)) = some (some (.agg #[.int .i64 0, .bool false, .int .i64 0, .string ⟨#[]⟩, .slice none 0 0, .slice none 0 0]), 6, 88) := by kernel_rfl

/-- 'vv' owns the values 'vs', in a block from B on; what these lead to lies from B on, and in no block of the row's own. -/
def VRow (w : World) (B : Nat) (vv : Value) (vs : List V) : Prop :=
  ∃ cs, w.ownsRow B 26 6 vv vs.length cs ∧ ∀ i (h : i < vs.length), ∃ lv fv, (∀ j u, ((vs[i]).cells lv fv)[j]? = some u → cs[i * 6 + j]? = some u) ∧ (vs[i]).At w (fun x => B ≤ x ∧ vv.ownBlock ≠ some x) lv fv

theorem VRow.nil (w : World) (B : Nat) : VRow w B (.slice none 0 0) [] := ⟨[], World.ownsRow_nil w B 26 6, fun i h => by simp at h⟩

theorem VRow.form {w : World} {B : Nat} {vv : Value} {vs : List V} (h : VRow w B vv vs) : ∃ a c, vv = .slice a vs.length c ∧ vs.length ≤ c ∧ c ≤ maxLen := by
  obtain ⟨cs, h, _⟩ := h
  rcases h.2 with ⟨rfl, h0⟩ | ⟨g, cap, cur, rfl, _, _, h1, h2, _⟩
  · exact ⟨none, 0, by rw [h0], by omega, by unfold maxLen; omega⟩
  · exact ⟨_, _, rfl, h1, h2⟩

/-- what keeps a row: its own block, and all blocks from B on that it leads to, are as they were -/
theorem VRow.keep {w w' : World} {B : Nat} {vv : Value} {vs : List V} (h : VRow w B vv vs) (hk : ∀ b, B ≤ b → b < w.heap.size → w'.heap[b]? = w.heap[b]?) (hz : w.heap.size ≤ w'.heap.size) : VRow w' B vv vs := by
  obtain ⟨cs, h1, h2⟩ := h
  refine ⟨cs, ⟨h1.1, ?_⟩, fun i hi => ?_⟩
  · rcases h1.2 with h | ⟨g, cap, cur, e1, e2, e3, e4⟩
    · exact .inl h
    · have hlt : g < w.heap.size := by
        have := (World.ownsRow.lt h1 g (by rw [e1]; rfl)).2
        exact this
      exact .inr ⟨g, cap, cur, e1, e2, (hk g e2 hlt).trans e3, e4⟩
  · obtain ⟨lv, fv, g1, g2⟩ := h2 i hi
    exact ⟨lv, fv, g1, V.At.move (fun b hS hlt => ⟨hS, hk b hS.1 hlt⟩) hz _ (Nat.le_refl _) g2⟩

/-- as a value's list -/
theorem VRow.at_ {w : World} {B : Nat} {vv : Value} {vs : List V} (h : VRow w B vv vs) : LAt w (fun x => B ≤ x) vs vv := by
  obtain ⟨a, c, rfl, hc1, hc2⟩ := h.form
  obtain ⟨cs, h1, h2⟩ := h
  refine ⟨a, c, rfl, hc1, hc2, ?_⟩
  rcases h1.2 with ⟨hv, h0⟩ | ⟨g, cap, cur, e1, e2, e3, e4⟩
  · exact .inl (List.eq_nil_of_length_eq_zero h0)
  · injection e1 with e1 _ _
    subst e1
    have hlt := (World.ownsRow.lt h1 g rfl).2
    have hcell := World.ownsRow.cells h1 (g := g) rfl
    refine .inr ⟨g, 0, rfl, e2, hlt, LCells.mk fun i hi => ?_⟩
    obtain ⟨lv, fv, g1, g2⟩ := h2 i hi
    refine ⟨lv, fv, fun j u hj => ?_, V.At.move (fun b hS _ => ⟨hS.1, rfl⟩) (Nat.le_refl _) _ (Nat.le_refl _) g2⟩
    have := hcell (i * 6 + j) u (g1 j u hj)
    have e : (⟨g, 0, none⟩ : Addr).add (i * 6 + j) = ⟨g, 0 + i * 6 + j, none⟩ := by unfold Addr.add; by_cases h0 : i * 6 + j = 0 <;> simp [h0]; omega
    rw [e] at this
    exact this

/-- one value appended, as the walk meets it -/
theorem wpList_app_v (W : World) (H : Nat) (hH : W.heap.size = H) {ops : Array Oper} {rest : List Oper} {o : Oper} {a : Act} {Q : Exit → Act → World → Prop} (hgd : o.guard = none) (s x : Operand)
    (ho : o.op = .call { callee := .builtin .append, args := #[s, x], argTypes := #[23, 23] })
    (B : Nat) (vv : Value) (vs : List V) (hs : a.eval s = vv) (hrow : VRow W B vv vs) (v : V) (lv fv : Value) (hlv : ∃ a c, lv = .slice a v.list.length c) (hfv : ∃ a c, fv = .slice a v.fields.length c) (hat : v.At W (fun x => B ≤ x ∧ vv.ownBlock ≠ some x) lv fv)
    (cs : Array Value) (hcs : cs = (v.cells lv fv).toArray) (c : Nat) (hx : a.eval x = .slice (some ⟨H, 0, none⟩) 1 c) (h63 : vs.length ≤ 1000000) (hbase : B ≤ W.heap.size)
    (h : ∀ vv' w', VRow w' B vv' (vs ++ [v]) → Up W vv w' vv' → wpList Try.prog ops Q rest (a.put o.dst vv') w') :
    wpList Try.prog ops Q (o :: rest) a (W.alloc (.cells cs 26)) := by
  subst hH hcs
  obtain ⟨i, hi, hz, hi1, hi2⟩ := info_parts infoV
  obtain ⟨old, hown, hold⟩ := hrow
  have hlen : (v.cells lv fv).length = 6 := rfl
  have hcl := hown.1
  have hn : ∀ j u, (v.cells lv fv)[j]? = some u → (W.alloc (.cells (v.cells lv fv).toArray 26)).cell? ((⟨W.heap.size, 0, none⟩ : Addr).add j) = some u := by
    intro j u hj
    have e : ((⟨W.heap.size, 0, none⟩ : Addr).add j) = ⟨W.heap.size, j, none⟩ := by unfold Addr.add; by_cases h0 : j = 0 <;> simp [h0]
    rw [e, cell_of_row (W.alloc (.cells (v.cells lv fv).toArray 26)) W.heap.size j (v.cells lv fv).toArray 26 (0, 0) (heap_alloc_new W _)]
    simpa using hj
  obtain ⟨al, cl, rfl⟩ := hlv
  obtain ⟨af, cf, rfl⟩ := hfv
  refine wpList_plain hgd fun K hK => ?_
  obtain ⟨v', w', hr, ho', hu⟩ := run_app (P := Try.prog) (W.alloc (.cells (v.cells _ _).toArray 26)) B 23 o.type 26 i _ 6 88 Try.underlying23 hi hz hi1 hi2 rfl (by decide) vv vs.length old (hown.alloc _)
    ⟨W.heap.size, 0, none⟩ 1 c (v.cells _ _) hlen hn (by intro u hu; simp [V.cells] at hu; rcases hu with rfl | rfl | rfl | rfl | rfl | rfl <;> rfl) (by unfold maxLen; omega) (by omega) (by simp; omega)
  unfold Oper.wp execOp
  simp only [ho, resolve, invoke, builtin, Sem.run_bind, Sem.run_pure, Result.andThen_ok, List.map_toArray, List.map_cons, List.map_nil, hs, hx, hr]
  have hu' := hu.alloc
  have hgr := hu'.1
  have hne : ∀ b, b < W.heap.size → vv.ownBlock ≠ some b → v'.ownBlock ≠ some b := fun b hb hnb e => by
    rcases hu'.2 with e2 | e2
    · rw [e2] at e; exact hnb e
    · have := e2 b e; omega
  refine hK _ _ (h v' w' ⟨old ++ v.cells _ _, by rw [List.length_append]; exact ho', fun j hj => ?_⟩ hu')
  by_cases hjl : j < vs.length
  · obtain ⟨l1, f1, g1, g2⟩ := hold j hjl
    refine ⟨l1, f1, fun q u hq => ?_, ?_⟩
    · rw [List.getElem_append_left hjl] at hq
      have h1 := g1 q u hq
      rw [List.getElem?_append_left (List.getElem?_eq_some_iff.1 h1).1]
      exact h1
    · rw [List.getElem_append_left hjl]
      exact V.At.move (fun b hS hlt => ⟨⟨hS.1, hne b hlt hS.2⟩, hgr.block b hlt (fun e => hS.2 e.symm)⟩) hgr.size _ (Nat.le_refl _) g2
  · obtain rfl : j = vs.length := by simp at hj; omega
    refine ⟨.slice al v.list.length cl, .slice af v.fields.length cf, fun q u hq => ?_, ?_⟩
    · rw [List.getElem_append_right (Nat.le_refl _)] at hq
      rw [List.getElem?_append_right (by rw [hcl]; omega), hcl]
      simp only [Nat.sub_self, List.getElem_cons_zero] at hq
      rw [show vs.length * 6 + q - vs.length * 6 = q by omega]
      exact hq
    · rw [List.getElem_append_right (Nat.le_refl _)]
      simp only [Nat.sub_self, List.getElem_cons_zero]
      exact V.At.move (fun b hS hlt => ⟨⟨hS.1, hne b hlt hS.2⟩, hgr.block b hlt (fun e => hS.2 e.symm)⟩) hgr.size _ (Nat.le_refl _) hat

end Go.Proofs.Ytacphlceggbfcaa
