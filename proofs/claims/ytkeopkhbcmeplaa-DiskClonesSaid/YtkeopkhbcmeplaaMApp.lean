/-
  Appends to rows of files.
-/
import Derived.Test.YtkeopkhbcmeplaaMFind
import Derived.Laws.AppendOwnNone
import Derived.Deep.RegionLaw
import Derived.Deep.AppendLies
namespace Go.Proofs.Ytkeopkhbcmeplaa
open Go.RowKit

theorem infoFile : (Try.prog.info? 45).map (fun i => (i.zero, i.size, i.bytes)) = some (some (.agg #[.string ⟨#[]⟩, .string ⟨#[]⟩, .int .i64 0]), 3, 40) := by kernel_rfl

/-- files that can be read at x -/
def RRow (W : World) (x : Value) (hs : List FileS) : Prop := (x = .slice none 0 0 ∧ hs = []) ∨ ∃ a c, x = .slice (some a) hs.length c ∧ ∀ j u, (rcells hs)[j]? = some u → W.cell? (a.add j) = some u

theorem MRow.rrow {w : World} {B : Nat} {v : Value} {gs : List FileS} (h : MRow w B v gs) : RRow w v gs := by
  rcases h.2 with ⟨e, h0⟩ | ⟨g, cap, cur, e, _⟩
  · exact .inl ⟨e, List.eq_nil_of_length_eq_zero h0⟩
  · exact .inr ⟨⟨g, 0, none⟩, cap, e, World.ownsRow.cells h (by rw [e]; rfl)⟩

/-- an append to files that are owned -/
theorem app_own (W : World) (B : Nat) (v : Value) (gs : List FileS) (h : MRow W B v gs) (x : Value) (hs : List FileS) (hx : RRow W x hs) (hb : B ≤ W.heap.size) (hl : gs.length + hs.length ≤ 1000000) (ty : TypeId) :
    ∃ a c W', (Builtin.append_ #[28, 28] ty #[v, x]).run Try.prog W = .ok (.slice a (gs.length + hs.length) c) W' ∧ MRow W' B (.slice a (gs.length + hs.length) c) (gs ++ hs) ∧ Up W v W' (.slice a (gs.length + hs.length) c) := by
  obtain ⟨i, hi, hz, hi1, hi2⟩ := info_parts infoFile
  rcases hx with ⟨rfl, rfl⟩ | ⟨ad, c, rfl, hc⟩
  · have hr := run_append_owned_none (P := Try.prog) (w := W) B 28 ty 45 i 3 Try.underlying28 hi v gs.length (rcells gs) h
    obtain ⟨a, c, rfl, _⟩ := h.form
    refine ⟨a, c, W, hr, ?_, ?_⟩
    · rw [List.append_nil]; exact h
    · exact Up.refl _ _
  · obtain ⟨v', W', hr, ho, hu⟩ := run_app (P := Try.prog) W B 28 ty 45 i _ 3 40 Try.underlying28 hi hz hi1 hi2 rfl (by decide) v gs.length (rcells gs) h ad hs.length c (rcells hs) (rcells_length hs) hc (rcells_one hs) (by unfold maxLen; omega) (by omega) hb
    have hm : MRow W' B v' (gs ++ hs) := by
      unfold MRow
      rw [rcells_append, List.length_append]
      exact ho
    obtain ⟨a, c', rfl, _⟩ := hm.form
    rw [List.length_append] at hr hm hu
    exact ⟨a, c', W', hr, hm, hu⟩

/-- an append to a part that has no room -/
theorem app_clip (W : World) (a : Option Addr) (i : Nat) (gs hs : List FileS) (hgs : gs.length = i) (hv : RRow W (.slice a i i) gs) (x : Value) (hx : RRow W x hs) (h0 : 0 < hs.length) (hl : gs.length + hs.length ≤ 1000000) (ty : TypeId) :
    ∃ a' c W', (Builtin.append_ #[28, 28] ty #[.slice a i i, x]).run Try.prog W = .ok (.slice a' (i + hs.length) c) W' ∧ MRow W' W.heap.size (.slice a' (i + hs.length) c) (gs ++ hs) ∧ W.grownBy W' none := by
  subst hgs
  obtain ⟨t, hi, hz, hi1, hi2⟩ := info_parts infoFile
  rcases hx with ⟨rfl, rfl⟩ | ⟨ad, c, rfl, hc⟩
  · simp at h0
  have fin : ∀ v' W', W'.ownsRow W.heap.size 45 3 v' (gs.length + hs.length) (rcells gs ++ rcells hs) → ∃ a' c', v' = .slice a' (gs.length + hs.length) c' ∧ MRow W' W.heap.size v' (gs ++ hs) := fun v' W' ho => by
    have hm : MRow W' W.heap.size v' (gs ++ hs) := by
      unfold MRow
      rw [rcells_append, List.length_append]
      exact ho
    obtain ⟨a, c', rfl, _⟩ := hm.form
    rw [List.length_append] at hm ⊢
    exact ⟨a, c', rfl, hm⟩
  rcases hv with ⟨e, rfl⟩ | ⟨b, c2, e, hcb⟩
  · injection e with e1
    subst e1
    obtain ⟨v', W', hr, ho, hg, _⟩ := run_append_own (P := Try.prog) W W.heap.size 28 ty 45 t _ 3 40 Try.underlying28 hi hz hi1 hi2 rfl (by decide) (.slice none 0 0) 0 [] (World.ownsRow_nil W _ _ 3) ad hs.length c (rcells hs) (rcells_length hs) hc (rcells_one hs) (by unfold maxLen; simp at hl; omega) (by simp at hl; omega) (Nat.le_refl _)
    obtain ⟨a', c', rfl, hm⟩ := fin v' W' ho
    exact ⟨a', c', W', hr, hm, hg⟩
  · injection e with e1
    subst e1
    obtain ⟨v', W', hr, ho, hg⟩ := run_append_arg_grows (P := Try.prog) W 28 ty 45 t _ 3 40 Try.underlying28 hi hz hi1 hi2 rfl (by decide) b gs.length gs.length (rcells gs) (rcells_length gs) hcb ad hs.length c (rcells hs) (rcells_length hs) hc (by omega) (by unfold maxLen; omega) (by omega)
    obtain ⟨a', c', rfl, hm⟩ := fin v' W' ho
    exact ⟨a', c', W', hr, hm, hg⟩

/-- an operation that is an append whose run is known, at a step of a region that draws -/
theorem step_run {ops : Array Oper} {o : Oper} {a : Act} {w : World} {K : Act → World → Prop} {Q : Exit → Act → World → Prop} {E : Prop} (hgd : o.guard = none) (s x : Operand) (t : TypeId)
    (ho : o.op = .call { callee := .builtin .append, args := #[s, x], argTypes := #[t, t] }) (v u : Value) (hs : a.eval s = v) (hx : a.eval x = u) {v' : Value} {w' : World}
    (hr : (Builtin.append_ #[t, t] o.type #[v, u]).run Try.prog w = .ok v' w') (h : K (a.put o.dst v') w') :
    if Region.wanted o (yielded ops a.tmps) = true then Oper.wp Try.prog o a w K Q else E := by
  have hw : Region.wanted o (yielded ops a.tmps) = true := by simp [Region.wanted, hgd]
  rw [if_pos hw]
  unfold Oper.wp execOp
  simp only [ho, resolve, invoke, builtin, Sem.run_bind, Sem.run_pure, Result.andThen_ok, List.map_toArray, List.map_cons, List.map_nil, hs, hx, hr]
  exact h
/-- .. in a list of operations -/
theorem list_run {ops : Array Oper} {rest : List Oper} {o : Oper} {a : Act} {w : World} {Q : Exit → Act → World → Prop} (hgd : o.guard = none) (s x : Operand) (t : TypeId)
    (ho : o.op = .call { callee := .builtin .append, args := #[s, x], argTypes := #[t, t] }) (v u : Value) (hs : a.eval s = v) (hx : a.eval x = u) {v' : Value} {w' : World}
    (hr : (Builtin.append_ #[t, t] o.type #[v, u]).run Try.prog w = .ok v' w') (h : wpList Try.prog ops Q rest (a.put o.dst v') w') : wpList Try.prog ops Q (o :: rest) a w := by
  refine wpList_plain hgd fun K hK => ?_
  unfold Oper.wp execOp
  simp only [ho, resolve, invoke, builtin, Sem.run_bind, Sem.run_pure, Result.andThen_ok, List.map_toArray, List.map_cons, List.map_nil, hs, hx, hr]
  exact hK _ _ h

/-- the parts of what is owned -/
theorem MRow.take {w : World} {B : Nat} {a : Option Addr} {n c : Nat} {gs : List FileS} (h : MRow w B (.slice a n c) gs) (i k : Nat) (hi : i ≤ gs.length) : RRow w (.slice a i k) (gs.take i) ∨ a = none := by
  rcases h.2 with ⟨e, h0⟩ | ⟨g, cap, cur, e, _⟩
  · injection e with e1; exact .inr e1
  · injection e with e1 _ _
    subst e1
    refine .inl (.inr ⟨⟨g, 0, none⟩, k, by rw [List.length_take, Nat.min_eq_left hi], fun j u hj => World.ownsRow.cells h (g := g) rfl j u ?_⟩)
    rw [rcells_take] at hj
    rw [List.getElem?_take] at hj
    split at hj
    · exact hj
    · cases hj

theorem addr_add2 (g i j : Nat) : (⟨g, i, none⟩ : Addr).add j = ⟨g, i + j, none⟩ := by unfold Addr.add; split <;> simp_all

theorem MRow.drop {w : World} {B : Nat} {g n c : Nat} {gs : List FileS} (h : MRow w B (.slice (some ⟨g, 0, none⟩) n c) gs) (i k : Nat) (hi : i ≤ gs.length) : RRow w (.slice (some ⟨g, i * 3, none⟩) (gs.length - i) k) (gs.drop i) := by
  refine .inr ⟨⟨g, i * 3, none⟩, k, by rw [List.length_drop], fun j u hj => ?_⟩
  have h1 : rcells gs = rcells (gs.take i) ++ rcells (gs.drop i) := by rw [← rcells_append, List.take_append_drop]
  have h2 : (rcells gs)[i * 3 + j]? = some u := by
    rw [h1, List.getElem?_append_right (by rw [rcells_length, List.length_take]; omega)]
    rw [rcells_length, List.length_take, Nat.min_eq_left hi, Nat.add_sub_cancel_left]
    exact hj
  have h3 := World.ownsRow.cells h (g := g) rfl (i * 3 + j) u h2
  rw [addr_add] at h3
  rw [addr_add2]
  exact h3

theorem RRow.below {w w' : World} {x : Value} {hs : List FileS} (h : RRow w x hs) (hk : ∀ p, (w.cell? p).isSome = true → x.ownBlock = some p.block ∨ x.ownBlock = none → w'.cell? p = w.cell? p) (hx : ∀ a n c, x = .slice (some a) n c → a = ⟨a.block, a.off, none⟩) : RRow w' x hs := by
  rcases h with h | ⟨a, c, rfl, hc⟩
  · exact .inl h
  · exact .inr ⟨a, c, rfl, fun j u hj => by
      have h1 := hc j u hj
      rw [← h1]
      have ha := hx a _ _ rfl
      have hb : (a.add j).block = a.block := by unfold Addr.add; split <;> rfl
      exact hk _ (by rw [h1]; rfl) (by rw [hb]; rw [ha]; simp [Value.ownBlock])⟩

end Go.Proofs.Ytkeopkhbcmeplaa
