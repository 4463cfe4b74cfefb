/-
  A slice of bytes that the call itself made, and what an append does to it: the row, and which blocks may have turned.
-/
import Derived.WalkKit
import Derived.Lib.AppendStr
import Derived.Test.YtcebnoapgceodaaBytes
namespace Go.Proofs.Ytcebnoapgceodaa
open Go.RowKit

/-- 'v' owns the bytes 'l', in a block from B on (or is nil, and owns none). 'E': the number of the type byte. -/
def Bs (E B : Nat) (w : World) (v : Value) (l : List UInt8) : Prop := w.ownsRow B E 1 v l.length (Lib.byteCells l)

theorem ret_bool {b : Bool} (h : b = true) : Ending.returned (.bool b) = .returned (.bool true) := by rw [h]

theorem Bs.nil (E B : Nat) (w : World) : Bs E B w (.slice none 0 0) [] := World.ownsRow_nil w B E 1

/-- From (w, v) to (w', v'): new blocks, and writes to v's own block alone; v' lies in that block, or in a new one. -/
def Up (w : World) (v : Value) (w' : World) (v' : Value) : Prop :=
  w.grownBy w' v.ownBlock ∧ (v'.ownBlock = v.ownBlock ∨ ∀ k, v'.ownBlock = some k → w.heap.size ≤ k)

theorem Up.refl (w : World) (v : Value) : Up w v w v := ⟨World.grownBy.refl w _, .inl rfl⟩

theorem grown_trans {w w1 w2 : World} {r r1 : Option Nat} (h : w.grownBy w1 r) (k : w1.grownBy w2 r1) (hr : r1 = r ∨ ∀ k, r1 = some k → w.heap.size ≤ k) : w.grownBy w2 r :=
  ⟨k.os.trans h.os, k.tape.trans h.tape, k.output.trans h.output, Nat.le_trans h.size k.size, fun j hj hne => by
    have h1 := h.block j hj hne
    have hj1 : j < w1.heap.size := Nat.lt_of_lt_of_le hj h.size
    refine (k.block j hj1 ?_).trans h1
    rcases hr with rfl | hr
    · exact hne
    · intro e
      have := hr j e.symm
      omega⟩

theorem Up.trans {w w1 w2 : World} {v v1 v2 : Value} (h : Up w v w1 v1) (k : Up w1 v1 w2 v2) : Up w v w2 v2 := by
  refine ⟨grown_trans h.1 k.1 ?_, ?_⟩
  · rcases h.2 with e | e
    · exact .inl e
    · exact .inr e
  · rcases k.2 with e | e
    · rw [e]; exact h.2
    · exact .inr fun j hj => Nat.le_trans h.1.size (e j hj)

theorem grown_alloc (w : World) (o : Obj) (r : Option Nat) : w.grownBy (w.alloc o) r := ⟨rfl, rfl, rfl, by simp, fun k hk _ => Below.heap_alloc w o k hk⟩

theorem Up.alloc {w w' : World} {o : Obj} {v v' : Value} (h : Up (w.alloc o) v w' v') : Up w v w' v' := by
  refine ⟨grown_trans (grown_alloc w o _) h.1 (.inl rfl), ?_⟩
  rcases h.2 with e | e
  · exact .inl e
  · exact .inr fun j hj => by have := e j hj; simp at this; omega

theorem Up.below {E B : Nat} {w w' : World} {v v' : Value} {l : List UInt8} (h : Up w v w' v') (hown : Bs E B w v l) (hB : B ≤ w.heap.size) : Below B w w' :=
  (Below.refl B w).grown h.1 hB fun k hk => (World.ownsRow.lt hown k hk).1

/-- What lies elsewhere stays, and still lies elsewhere. -/
theorem Bs.kept {E B : Nat} {w w' : World} {v v' y : Value} {m : List UInt8} (h : Bs E B w y m) (hu : Up w v w' v') (hne : y.ownBlock = none ∨ y.ownBlock ≠ v.ownBlock) :
    Bs E B w' y m ∧ (y.ownBlock = none ∨ y.ownBlock ≠ v'.ownBlock) := by
  refine ⟨World.ownsRow.kept h hu.1 hne, ?_⟩
  rcases hne with e | e
  · exact .inl e
  · by_cases hy : y.ownBlock = none
    · exact .inl hy
    · refine .inr ?_
      rcases hu.2 with f | f
      · rw [f]; exact e
      · intro g
        cases hb : y.ownBlock with
        | none => exact hy hb
        | some k =>
          have h1 := (World.ownsRow.lt h k hb).2
          have h2 := f k (by rw [← g, hb])
          omega

/-- AN APPEND: the bytes behind one another; v' in v's block or in a new one. -/
theorem run_app {P : Program} (w : World) (B : Nat) (t ty e : TypeId) (i : TypeInfo) (z : Value) (size bytes : Nat) (ht : P.underlying t = some (.slice e)) (hi : P.info? e = some i) (hz : i.zero = some z)
    (hsize : i.size = size) (hby : i.bytes = bytes) (hzs : z.cells.size = size) (hsz : 0 < size)
    (v : Value) (n : Nat) (xs : List Value) (hown : w.ownsRow B e size v n xs)
    (a : Addr) (m c : Nat) (news : List Value) (hl : news.length = m * size) (hnews : ∀ j u, news[j]? = some u → w.cell? (a.add j) = some u) (h1 : ∀ u ∈ news, u.oneCell' = true)
    (h63 : n + m ≤ maxLen) (hbytes : (n + m) * bytes ≤ 140737488355328) (hbase : B ≤ w.heap.size) :
    ∃ v' w', (Builtin.append_ #[t, t] ty #[v, .slice (some a) m c]).run P w = .ok v' w' ∧ w'.ownsRow B e size v' (n + m) (xs ++ news) ∧ Up w v w' v' := by
  have up : ∀ (w' : World) (v' : Value), w'.ownsRow w.heap.size e size v' (n + m) (xs ++ news) → w.grownBy w' none → w'.ownsRow B e size v' (n + m) (xs ++ news) ∧ Up w v w' v' := fun w' v' ho hg =>
    ⟨⟨ho.1, ho.2.imp id fun ⟨g, cap, cur, h1, h2, r⟩ => ⟨g, cap, cur, h1, Nat.le_trans hbase h2, r⟩⟩, ⟨hg.os, hg.tape, hg.output, hg.size, fun k hk _ => hg.block k hk (by simp)⟩, .inr fun k hk => (World.ownsRow.lt ho k hk).1⟩
  rcases hown.2 with ⟨rfl, rfl⟩ | ⟨g, cap, cur, rfl, _, _, _, _, _, _⟩
  · obtain ⟨v', w', hr, ho, hg, _⟩ := run_append_own (P := P) w w.heap.size t ty e i z size bytes ht hi hz hsize hby hzs hsz (.slice none 0 0) 0 xs ⟨hown.1, .inl ⟨rfl, rfl⟩⟩ a m c news hl hnews h1 h63 hbytes (Nat.le_refl _)
    exact ⟨v', w', hr, up w' v' ho hg⟩
  · by_cases hroom : n + m ≤ cap
    · obtain ⟨w', hr, ho, hg⟩ := run_append_fits (P := P) w B t ty e i size ht hi hsize g n cap xs hown a m c news hl hnews h1 hroom
      exact ⟨_, w', hr, ho, hg, .inl rfl⟩
    · obtain ⟨v', w', hr, ho, hg⟩ := run_append_arg_grows (P := P) w t ty e i z size bytes ht hi hz hsize hby hzs hsz ⟨g, 0, none⟩ n cap xs hown.1 (hown.cells (g := g) rfl) a m c news hl hnews (by omega) h63 hbytes
      exact ⟨v', w', hr, up w' v' ho hg⟩

/-- ONE BYTE appended, as the walk meets it: the byte lies in a new block of its own. -/
theorem wpList_app1 {P : Program} (w : World) {ops : Array Oper} {rest : List Oper} {o : Oper} {a : Act} {Q : Exit → Act → World → Prop} (hgd : o.guard = none) (s x : Operand) (t : TypeId)
    (ho : o.op = .call { callee := .builtin .append, args := #[s, x], argTypes := #[t, t] })
    (E B : Nat) (ht : P.underlying t = some (.slice E)) (hi : (P.info? E).map (fun i => (i.zero, i.size, i.bytes)) = some (some (.int .u8 0), 1, 1))
    (v : Value) (l : List UInt8) (hs : a.eval s = v) (hown : Bs E B w v l) (b : Int) (c : Nat)
    (hx : a.eval x = .slice (some ⟨w.heap.size, 0, none⟩) 1 c) (h0 : 0 ≤ b) (h1 : b < 256)
    (h63 : l.length < 140737488355328) (hbase : B ≤ w.heap.size)
    (h : ∀ v' w', Bs E B w' v' (l ++ [UInt8.ofNat b.toNat]) → Up w v w' v' → wpList P ops Q rest (a.put o.dst v') w') :
    wpList P ops Q (o :: rest) a (w.alloc (.cells #[.int .u8 b] E)) := by
  obtain ⟨i, hi, hz, hi1, hi2⟩ := info_parts hi
  have hn : ∀ j u, [Value.int .u8 b][j]? = some u → (w.alloc (.cells #[.int .u8 b] E)).cell? ((⟨w.heap.size, 0, none⟩ : Addr).add j) = some u := by
    intro j u hj
    match j, hj with
    | 0, hj => simp at hj; subst hj; simp [Addr.add]
  refine wpList_plain hgd fun K hK => ?_
  obtain ⟨v', w', hr, ho', hu⟩ := run_app (P := P) (w.alloc (.cells #[.int .u8 b] E)) B t o.type E i (.int .u8 0) 1 1 ht hi hz hi1 hi2 rfl (by decide) v l.length (Lib.byteCells l) (hown.alloc _)
    ⟨w.heap.size, 0, none⟩ 1 c [.int .u8 b] rfl hn (by intro u hu; simp at hu; subst hu; rfl) (by unfold maxLen; omega) (by omega) (by simp; omega)
  unfold Oper.wp execOp
  simp only [ho, resolve, invoke, builtin, Sem.run_bind, Sem.run_pure, Result.andThen_ok, List.map_toArray, List.map_cons, List.map_nil, hs, hx, hr]
  refine hK _ _ (h v' w' ?_ hu.alloc)
  have e : Lib.byteCells [UInt8.ofNat b.toNat] = [.int .u8 b] := by
    have : b.toNat % 256 = b.toNat := by omega
    simp [Lib.byteCells, this]; omega
  unfold Bs
  rw [Lib.byteCells_append, List.length_append, e]
  exact ho'

/-- A STRING's BYTES appended. -/
theorem run_app_str {P : Program} (w : World) (B : Nat) (t u ty e : TypeId) (i : TypeInfo) (ht : P.underlying t = some (.slice e)) (hu : P.underlying u = some .string) (hi : P.info? e = some i) (hz : i.zero = some (.int .u8 0))
    (hsize : i.size = 1) (hby : i.bytes = 1) (v : Value) (n : Nat) (xs : List Value) (hown : w.ownsRow B e 1 v n xs) (s : ByteArray)
    (h63 : n + s.size ≤ maxLen) (hbytes : n + s.size ≤ 140737488355328) (hbase : B ≤ w.heap.size) :
    ∃ v' w', (Builtin.append_ #[t, u] ty #[v, .string s]).run P w = .ok v' w' ∧ w'.ownsRow B e 1 v' (n + s.size) (xs ++ Lib.strCells s) ∧ Up w v w' v' := by
  rcases hown.2 with ⟨rfl, rfl⟩ | ⟨g, cap, cur, rfl, _, hg, hnc, _, hcs, _⟩
  · obtain ⟨v', w', hr, ho, hgr, _⟩ := Lib.run_append_own_string (P := P) w w.heap.size t u ty e i ht hu hi hz hsize hby (.slice none 0 0) 0 xs ⟨hown.1, .inl ⟨rfl, rfl⟩⟩ s h63 hbytes (Nat.le_refl _)
    exact ⟨v', w', hr, ⟨ho.1, ho.2.imp id fun ⟨g, cap, cur, h1, h2, r⟩ => ⟨g, cap, cur, h1, Nat.le_trans hbase h2, r⟩⟩, hgr, .inr fun k hk => (World.ownsRow.lt ho k hk).1⟩
  · obtain ⟨v', w', hr, ho, hgr, _⟩ := Lib.run_append_own_string (P := P) w B t u ty e i ht hu hi hz hsize hby _ n xs hown s h63 hbytes hbase
    refine ⟨v', w', hr, ho, hgr, ?_⟩
    by_cases hroom : n + s.size ≤ cap
    · have h2 := Lib.run_append_room_string (P := P) w t u ty e i ht hu hi hsize g n cap cur hg s hroom (by omega)
      rw [hr] at h2
      simp only [Result.ok.injEq] at h2
      exact .inl (by rw [h2.1]; rfl)
    · have h2 := Lib.run_append_grow_string (P := P) w t u ty e i (.int .u8 0) ht hu hi hz ⟨g, 0, none⟩ n cap xs (by rw [hown.1, hsize]) (hown.cells (g := g) rfl) s (by omega) (by unfold maxLen at h63; omega) (growslice_fits (by omega) (by rw [hby]; omega))
      rw [hr] at h2
      simp only [Result.ok.injEq] at h2
      refine .inr fun k hk => ?_
      rw [h2.1] at hk
      simp [Value.ownBlock] at hk
      omega

/-- As the walk meets it. -/
theorem wpList_app_str {P : Program} (w : World) {ops : Array Oper} {rest : List Oper} {o : Oper} {a : Act} {Q : Exit → Act → World → Prop} (hgd : o.guard = none) (s x : Operand) (t u : TypeId)
    (ho : o.op = .call { callee := .builtin .append, args := #[s, x], argTypes := #[t, u] })
    (E B : Nat) (ht : P.underlying t = some (.slice E)) (hu : P.underlying u = some .string) (hi : (P.info? E).map (fun i => (i.zero, i.size, i.bytes)) = some (some (.int .u8 0), 1, 1))
    (v : Value) (l : List UInt8) (hs : a.eval s = v) (hown : Bs E B w v l) (b : ByteArray)
    (hx : a.eval x = .string b) (h63 : l.length + b.size ≤ 140737488355328) (hbase : B ≤ w.heap.size)
    (h : ∀ v' w', Bs E B w' v' (l ++ b.data.toList) → Up w v w' v' → wpList P ops Q rest (a.put o.dst v') w') :
    wpList P ops Q (o :: rest) a w := by
  obtain ⟨i, hi, hz, hi1, hi2⟩ := info_parts hi
  refine wpList_plain hgd fun K hK => ?_
  obtain ⟨v', w', hr, ho', hup⟩ := run_app_str (P := P) w B t u o.type E i ht hu hi hz hi1 hi2 v l.length (Lib.byteCells l) hown b (by unfold maxLen; omega) h63 hbase
  unfold Oper.wp execOp
  simp only [ho, resolve, invoke, builtin, Sem.run_bind, Sem.run_pure, Result.andThen_ok, List.map_toArray, List.map_cons, List.map_nil, hs, hx, hr]
  refine hK _ _ (h v' w' ?_ hup)
  unfold Bs
  rw [Lib.byteCells_append, List.length_append]
  have e : b.data.toList.length = b.size := by rw [Array.length_toList]; rfl
  rw [e]
  exact ho'

end Go.Proofs.Ytcebnoapgceodaa
