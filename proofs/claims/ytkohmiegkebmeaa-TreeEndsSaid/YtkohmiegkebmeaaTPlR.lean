/-
  Rows of pairs, a key and a number each: what the laws of mailbaglaw06 keep beside the tree; appends to them.
-/
import Derived.Test.YtkohmiegkebmeaaTHead
import Derived.Laws.AppendOwnNone
import Derived.Deep.RegionLaw
import Derived.Deep.AppendLies
import Derived.Laws.OwnMore
namespace Go.Proofs.Ytkohmiegkebmeaa.tP
open Go.RowKit Go.Proofs.Ytkohmiegkebmeaa.tI

set_option linter.unusedVariables false

abbrev PI := ByteArray × Int
def fcells (p : PI) : List Value := [.string p.1, .int .i64 p.2]
def rcells (gs : List PI) : List Value := gs.flatMap fcells
theorem rcells_length : ∀ gs : List PI, (rcells gs).length = gs.length * 2
  | [] => rfl
  | f :: r => by
    have := rcells_length r
    unfold rcells at this ⊢
    rw [List.flatMap_cons, List.length_append, this]
    show 2 + _ = _
    simp; omega
theorem rcells_append (a b : List PI) : rcells (a ++ b) = rcells a ++ rcells b := by unfold rcells; rw [List.flatMap_append]
theorem rcells_at : ∀ (gs : List PI) (i j : Nat) (h : i < gs.length), j < 2 → (rcells gs)[i * 2 + j]? = (fcells gs[i])[j]?
  | [], i, j, h, _ => by simp at h
  | f :: r, i, j, h, hj => by
    have ih := rcells_at r
    unfold rcells at ih ⊢
    rw [List.flatMap_cons]
    cases i with
    | zero =>
      rw [List.getElem?_append_left (by show 0 * 2 + j < 2; omega)]
      simp
    | succ i =>
      rw [List.getElem?_append_right (by show 2 ≤ (i + 1) * 2 + j; omega)]
      show (List.flatMap fcells r)[(i + 1) * 2 + j - 2]? = _
      rw [show (i + 1) * 2 + j - 2 = i * 2 + j by omega, ih i j (by simpa using h) hj]
      simp
theorem rcells_take (gs : List PI) (i : Nat) : rcells (gs.take i) = (rcells gs).take (i * 2) := by
  by_cases h : i ≤ gs.length
  · have h1 : rcells gs = rcells (gs.take i) ++ rcells (gs.drop i) := by rw [← rcells_append, List.take_append_drop]
    rw [h1, List.take_left']
    rw [rcells_length, List.length_take]; omega
  · rw [List.take_of_length_le (by omega), List.take_of_length_le (by rw [rcells_length]; omega)]
theorem rcells_one (gs : List PI) : ∀ u ∈ rcells gs, u.oneCell' = true := fun u hu => by
  unfold rcells at hu
  obtain ⟨f, _, hf⟩ := List.mem_flatMap.1 hu
  unfold fcells at hf
  simp at hf
  rcases hf with rfl | rfl <;> rfl

/-- v owns the pairs gs -/
def MRow (w : World) (B : Nat) (v : Value) (gs : List PI) : Prop := w.ownsRow B 33 2 v gs.length (rcells gs)

theorem MRow.form {w : World} {B : Nat} {v : Value} {gs : List PI} (h : MRow w B v gs) : ∃ a c, v = .slice a gs.length c ∧ gs.length ≤ c := by
  rcases h.2 with ⟨rfl, h0⟩ | ⟨g, cap, cur, rfl, _, _, h1, _⟩
  · exact ⟨none, 0, by rw [h0], by omega⟩
  · exact ⟨_, _, rfl, h1⟩

theorem MRow.blk {w : World} {B : Nat} {a : Option Addr} {n c : Nat} {gs : List PI} (h : MRow w B (.slice a n c) gs) (h0 : 0 < gs.length) : ∃ g, a = Option.some ⟨g, 0, none⟩ ∧ B ≤ g ∧ g < w.heap.size := by
  rcases h.2 with ⟨e, h1⟩ | ⟨g, cap, cur, e, _⟩
  · omega
  · injection e with e1
    subst e1
    exact ⟨g, rfl, World.ownsRow.lt h g rfl⟩

/-- a pair's two cells -/
theorem MRow.cell {w : World} {B g n c : Nat} {gs : List PI} (h : MRow w B (.slice (Option.some ⟨g, 0, none⟩) n c) gs) (i : Nat) (hi : i < gs.length) :
    w.cell? ⟨g, i * 2, none⟩ = some (.string (gs[i]).1) ∧ w.cell? ⟨g, i * 2 + 1, none⟩ = some (.int .i64 (gs[i]).2) := by
  have key : ∀ j, j < 2 → w.cell? ⟨g, i * 2 + j, none⟩ = (fcells gs[i])[j]? := fun j hj => by
    have h1 := rcells_at gs i j hi hj
    have h2 : ∃ u, (fcells gs[i])[j]? = some u := by
      match j, hj with
      | 0, _ => exact ⟨_, rfl⟩
      | 1, _ => exact ⟨_, rfl⟩
    obtain ⟨u, hu⟩ := h2
    rw [hu] at h1 ⊢
    have h3 := World.ownsRow.cells h (g := g) rfl (i * 2 + j) u h1
    rwa [addr_at] at h3
  exact ⟨key 0 (by omega), key 1 (by omega)⟩
theorem MRow.keep {w w' : World} {B : Nat} {v : Value} {gs : List PI} (h : MRow w B v gs) (hk : ∀ q, v.ownBlock = Option.some q → w'.heap[q]? = w.heap[q]?) : MRow w' B v gs :=
  ⟨h.1, h.2.imp id fun ⟨g, cap, cur, e1, e2, e3, e4⟩ => ⟨g, cap, cur, e1, e2, (hk g (by rw [e1]; rfl)).trans e3, e4⟩⟩
theorem MRow.mono {w : World} {B B' : Nat} {v : Value} {gs : List PI} (h : MRow w B v gs) (hb : B' ≤ B) : MRow w B' v gs := ⟨h.1, h.2.imp id fun ⟨g, cap, cur, e1, e2, r⟩ => ⟨g, cap, cur, e1, Nat.le_trans hb e2, r⟩⟩

theorem infoFile : (Try.prog.info? 33).map (fun i => (i.zero, i.size, i.bytes)) = some (some (.agg #[.string ⟨#[]⟩, .int .i64 0]), 2, 24) := by kernel_rfl

/-- pairs that can be read at x -/
def RRow (W : World) (x : Value) (hs : List PI) : Prop := (x = .slice none 0 0 ∧ hs = []) ∨ ∃ a c, x = .slice (some a) hs.length c ∧ ∀ j u, (rcells hs)[j]? = some u → W.cell? (a.add j) = some u

theorem MRow.rrow {w : World} {B : Nat} {v : Value} {gs : List PI} (h : MRow w B v gs) : RRow w v gs := by
  rcases h.2 with ⟨e, h0⟩ | ⟨g, cap, cur, e, _⟩
  · exact .inl ⟨e, List.eq_nil_of_length_eq_zero h0⟩
  · exact .inr ⟨⟨g, 0, none⟩, cap, e, World.ownsRow.cells h (by rw [e]; rfl)⟩

/-- an append to pairs that are owned -/
theorem app_own (W : World) (B : Nat) (v : Value) (gs : List PI) (h : MRow W B v gs) (x : Value) (hs : List PI) (hx : RRow W x hs) (hb : B ≤ W.heap.size) (hl : gs.length + hs.length ≤ 1000000) (ty : TypeId) :
    ∃ a c W', (Builtin.append_ #[26, 26] ty #[v, x]).run Try.prog W = .ok (.slice a (gs.length + hs.length) c) W' ∧ MRow W' B (.slice a (gs.length + hs.length) c) (gs ++ hs) ∧ Up W v W' (.slice a (gs.length + hs.length) c) := by
  obtain ⟨i, hi, hz, hi1, hi2⟩ := info_parts infoFile
  rcases hx with ⟨rfl, rfl⟩ | ⟨ad, c, rfl, hc⟩
  · have hr := run_append_owned_none (P := Try.prog) (w := W) B 26 ty 33 i 2 Try.underlying26 hi v gs.length (rcells gs) h
    obtain ⟨a, c, rfl, _⟩ := h.form
    refine ⟨a, c, W, hr, ?_, ?_⟩
    · rw [List.append_nil]; exact h
    · exact Up.refl _ _
  · obtain ⟨v', W', hr, ho, hu⟩ := run_app (P := Try.prog) W B 26 ty 33 i _ 2 24 Try.underlying26 hi hz hi1 hi2 rfl (by decide) v gs.length (rcells gs) h ad hs.length c (rcells hs) (rcells_length hs) hc (rcells_one hs) (by unfold maxLen; omega) (by omega) hb
    have hm : MRow W' B v' (gs ++ hs) := by
      unfold MRow
      rw [rcells_append, List.length_append]
      exact ho
    obtain ⟨a, c', rfl, _⟩ := hm.form
    rw [List.length_append] at hr hm hu
    exact ⟨a, c', W', hr, hm, hu⟩

/-- an append to a part that has no room -/
theorem app_clip (W : World) (a : Option Addr) (i : Nat) (gs hs : List PI) (hgs : gs.length = i) (hv : RRow W (.slice a i i) gs) (x : Value) (hx : RRow W x hs) (h0 : 0 < hs.length) (hl : gs.length + hs.length ≤ 1000000) (ty : TypeId) :
    ∃ a' c W', (Builtin.append_ #[26, 26] ty #[.slice a i i, x]).run Try.prog W = .ok (.slice a' (i + hs.length) c) W' ∧ MRow W' W.heap.size (.slice a' (i + hs.length) c) (gs ++ hs) ∧ W.grownBy W' none := by
  subst hgs
  obtain ⟨t, hi, hz, hi1, hi2⟩ := info_parts infoFile
  rcases hx with ⟨rfl, rfl⟩ | ⟨ad, c, rfl, hc⟩
  · simp at h0
  have fin : ∀ v' W', W'.ownsRow W.heap.size 33 2 v' (gs.length + hs.length) (rcells gs ++ rcells hs) → ∃ a' c', v' = .slice a' (gs.length + hs.length) c' ∧ MRow W' W.heap.size v' (gs ++ hs) := fun v' W' ho => by
    have hm : MRow W' W.heap.size v' (gs ++ hs) := by
      unfold MRow
      rw [rcells_append, List.length_append]
      exact ho
    obtain ⟨a, c', rfl, _⟩ := hm.form
    rw [List.length_append] at hm ⊢
    exact ⟨a, c', rfl, hm⟩
  rcases hv with ⟨e, rfl⟩ | ⟨b, c2, e, hcb⟩
  · injection e with e1
    subst e1
    obtain ⟨v', W', hr, ho, hg, _⟩ := run_append_own (P := Try.prog) W W.heap.size 26 ty 33 t _ 2 24 Try.underlying26 hi hz hi1 hi2 rfl (by decide) (.slice none 0 0) 0 [] (World.ownsRow_nil W _ _ 2) ad hs.length c (rcells hs) (rcells_length hs) hc (rcells_one hs) (by unfold maxLen; simp at hl; omega) (by simp at hl; omega) (Nat.le_refl _)
    obtain ⟨a', c', rfl, hm⟩ := fin v' W' ho
    exact ⟨a', c', W', hr, hm, hg⟩
  · injection e with e1
    subst e1
    obtain ⟨v', W', hr, ho, hg⟩ := run_append_arg_grows (P := Try.prog) W 26 ty 33 t _ 2 24 Try.underlying26 hi hz hi1 hi2 rfl (by decide) b gs.length gs.length (rcells gs) (rcells_length gs) hcb ad hs.length c (rcells hs) (rcells_length hs) hc (by omega) (by unfold maxLen; omega) (by omega)
    obtain ⟨a', c', rfl, hm⟩ := fin v' W' ho
    exact ⟨a', c', W', hr, hm, hg⟩

/-- an operation that is an append whose run is known, at a step of a region that draws -/
theorem step_run {ops : Array Oper} {o : Oper} {a : Act} {w : World} {K : Act → World → Prop} {Q : Exit → Act → World → Prop} {E : Prop} (hgd : o.guard = none) (s x : Operand) (t : TypeId)
    (ho : o.op = .call { callee := .builtin .append, args := #[s, x], argTypes := #[t, t] }) (v u : Value) (hs : a.eval s = v) (hx : a.eval x = u) {v' : Value} {w' : World}
    (hr : (Builtin.append_ #[t, t] o.type #[v, u]).run Try.prog w = .ok v' w') (h : K (a.put o.dst v') w') :
    if Region.wanted o (yielded ops a.tmps) = true then Oper.wp Try.prog o a w K Q else E := by
  have hw : Region.wanted o (yielded ops a.tmps) = true := by simp [Region.wanted, hgd]
  rw [if_pos hw]
  unfold Oper.wp execOp
  simp only [ho, resolve, invoke, builtin, Sem.run_bind, Sem.run_pure, Result.andThen_ok, List.map_toArray, List.map_cons, List.map_nil, hs, hx, hr]
  exact h
/-- .. in a list of operations -/
theorem list_run {ops : Array Oper} {rest : List Oper} {o : Oper} {a : Act} {w : World} {Q : Exit → Act → World → Prop} (hgd : o.guard = none) (s x : Operand) (t : TypeId)
    (ho : o.op = .call { callee := .builtin .append, args := #[s, x], argTypes := #[t, t] }) (v u : Value) (hs : a.eval s = v) (hx : a.eval x = u) {v' : Value} {w' : World}
    (hr : (Builtin.append_ #[t, t] o.type #[v, u]).run Try.prog w = .ok v' w') (h : wpList Try.prog ops Q rest (a.put o.dst v') w') : wpList Try.prog ops Q (o :: rest) a w := by
  refine wpList_plain hgd fun K hK => ?_
  unfold Oper.wp execOp
  simp only [ho, resolve, invoke, builtin, Sem.run_bind, Sem.run_pure, Result.andThen_ok, List.map_toArray, List.map_cons, List.map_nil, hs, hx, hr]
  exact hK _ _ h

/-- the parts of what is owned -/
theorem MRow.take {w : World} {B : Nat} {a : Option Addr} {n c : Nat} {gs : List PI} (h : MRow w B (.slice a n c) gs) (i k : Nat) (hi : i ≤ gs.length) : RRow w (.slice a i k) (gs.take i) ∨ a = none := by
  rcases h.2 with ⟨e, h0⟩ | ⟨g, cap, cur, e, _⟩
  · injection e with e1; exact .inr e1
  · injection e with e1 _ _
    subst e1
    refine .inl (.inr ⟨⟨g, 0, none⟩, k, by rw [List.length_take, Nat.min_eq_left hi], fun j u hj => World.ownsRow.cells h (g := g) rfl j u ?_⟩)
    rw [rcells_take] at hj
    rw [List.getElem?_take] at hj
    split at hj
    · exact hj
    · cases hj

theorem addr_add3 (g i j : Nat) : (⟨g, i, none⟩ : Addr).add j = ⟨g, i + j, none⟩ := by unfold Addr.add; split <;> simp_all

theorem MRow.drop {w : World} {B : Nat} {g n c : Nat} {gs : List PI} (h : MRow w B (.slice (some ⟨g, 0, none⟩) n c) gs) (i k : Nat) (hi : i ≤ gs.length) : RRow w (.slice (some ⟨g, i * 2, none⟩) (gs.length - i) k) (gs.drop i) := by
  refine .inr ⟨⟨g, i * 2, none⟩, k, by rw [List.length_drop], fun j u hj => ?_⟩
  have h1 : rcells gs = rcells (gs.take i) ++ rcells (gs.drop i) := by rw [← rcells_append, List.take_append_drop]
  have h2 : (rcells gs)[i * 2 + j]? = some u := by
    rw [h1, List.getElem?_append_right (by rw [rcells_length, List.length_take]; omega)]
    rw [rcells_length, List.length_take, Nat.min_eq_left hi, Nat.add_sub_cancel_left]
    exact hj
  have h3 := World.ownsRow.cells h (g := g) rfl (i * 2 + j) u h2
  rw [addr_at] at h3
  rw [addr_add3]
  exact h3

theorem slice_hi (W : World) (g n c i : Nat) (h : i ≤ c) : (Instr.slice 26 (.slice (some ⟨g, 0, none⟩) n c) none (some (.int .i64 (i : Int))) none).run Try.prog W = .ok (.slice (some ⟨g, 0, none⟩) i c) W := by
  have h1 : (i : Int) ≤ (c : Int) := by omega
  go_simp
theorem slice_lo (g n c i : Nat) (h : i ≤ n) (h2 : n ≤ c) : ∃ off, (∀ W, (Instr.slice 26 (.slice (some ⟨g, 0, none⟩) n c) (some (.int .i64 (i : Int))) none none).run Try.prog W = .ok (.slice (some ⟨g, off, none⟩) (n - i) (c - i)) W) ∧ (i < n → off = i * 2) := by
  have h1 : (i : Int) ≤ (n : Int) := by omega
  have h3 : (n : Int) ≤ (c : Int) := by omega
  by_cases hc : c = i
  · refine ⟨0, fun W => ?_, fun h => by omega⟩
    subst hc
    go_simp
  · refine ⟨i * 2, fun W => ?_, fun _ => rfl⟩
    go_simp

theorem MRow.dropped {w : World} {B : Nat} {g n c : Nat} {gs : List PI} (h : MRow w B (.slice (some ⟨g, 0, none⟩) n c) gs) (i k off : Nat) (hi : i ≤ gs.length) (ho : i < gs.length → off = i * 2) : RRow w (.slice (some ⟨g, off, none⟩) (gs.length - i) k) (gs.drop i) := by
  by_cases e : i < gs.length
  · rw [ho e]; exact h.drop i k hi
  · have e2 : i = gs.length := by omega
    subst e2
    refine .inr ⟨⟨g, off, none⟩, k, by rw [List.length_drop], fun j u hj => ?_⟩
    rw [List.drop_length] at hj
    simp [rcells] at hj

/-- a row of none, new -/
theorem row_empty (w : World) (B : Nat) (hB : B ≤ w.heap.size) : MRow (w.alloc (.cells #[] 33)) B (.slice (some ⟨w.heap.size, 0, none⟩) 0 0) [] :=
  ⟨rfl, .inr ⟨w.heap.size, 0, #[], rfl, hB, heap_alloc_new w _, by simp, by unfold maxLen; omega, by simp, by simp [rcells]⟩⟩

theorem rcells_set : ∀ (gs : List PI) (i j : Nat) (u : Value) (f : PI) (h : i < gs.length), j < 2 → (fcells gs[i]).set j u = fcells f → (rcells gs).set (i * 2 + j) u = rcells (gs.set i f)
  | [], i, _, _, _, h, _, _ => by simp at h
  | y :: r, i, j, u, f, h, hj, he => by
    have ih := rcells_set r
    unfold rcells at ih ⊢
    rw [List.flatMap_cons]
    cases i with
    | zero =>
      rw [List.set_append_left _ _ (by show 0 * 2 + j < 2; omega)]
      simp only [List.set_cons_zero, List.flatMap_cons, Nat.zero_mul, Nat.zero_add]
      rw [← he]; rfl
    | succ i =>
      rw [List.set_append_right _ _ (by show 2 ≤ (i + 1) * 2 + j; omega)]
      show fcells y ++ (List.flatMap fcells r).set ((i + 1) * 2 + j - 2) u = _
      rw [show (i + 1) * 2 + j - 2 = i * 2 + j by omega, ih i j u f (by simpa using h) hj (by simpa using he)]
      rfl

theorem MRow.set {w : World} {B g n c : Nat} {gs : List PI} (h : MRow w B (.slice (some ⟨g, 0, none⟩) n c) gs) (hn : n = gs.length) (i j : Nat) (u : Value) (f : PI) (hi : i < gs.length) (hj : j < 2) (he : (fcells gs[i]).set j u = fcells f) :
    MRow (w.setCell ⟨g, i * 2 + j, none⟩ u) B (.slice (some ⟨g, 0, none⟩) n c) (gs.set i f) := by
  subst hn
  unfold MRow
  rw [List.length_set, ← rcells_set gs i j u f hi hj he]
  exact (World.ownsRow.stored h (i * 2 + j) u).1

theorem slice_max (g n c i : Nat) (h : i ≤ c) (W : World) : (Instr.slice 26 (.slice (some ⟨g, 0, none⟩) n c) none (some (.int .i64 (i : Int))) (some (.int .i64 (i : Int)))).run Try.prog W = .ok (.slice (some ⟨g, 0, none⟩) i i) W := by
  have h1 : (i : Int) ≤ (c : Int) := by omega
  go_simp

end Go.Proofs.Ytkohmiegkebmeaa.tP
