/-
  A map from ints to ints that the call owns: a plain list in the keys' order; look-up, store, delete at the operation's run. (Of no package: the map's type is an argument.)
-/
import Derived.WalkKit
import Derived.Maps.Own
import Derived.Maps.OwnOps
import Derived.WideAt
import Derived.WideShapes
import Derived.Sort.KeysCollected
import Derived.Lib.Hide
import Derived.Test.YtookplnegfheeaaProg
namespace Go.Proofs.Ytookplnegfheeaa.iM
open Go.RowKit Go.ChangeMaps Go.MapKept Go.WideMaps
open Go.Maps (Keyed)

def RI (v : Value) : Option (DataW Value × List MemPlace) := some (.held v, [])
abbrev IL := List (Int × Int)
def im (fs : IL) : DataW Value := .map (fs.map fun p => (.int .i64 p.1, .held (.int .i64 p.2)))
def insI (x : Int × Int) : IL → IL
  | [] => [x]
  | y :: r => if decide (x.1 < y.1) then x :: y :: r else y :: insI x r
def delI (k : Int) (fs : IL) : IL := fs.filter fun p => !decide (p.1 = k)
def putI (k v : Int) (fs : IL) : IL := insI (k, v) (delI k fs)
def getI (k : Int) (fs : IL) : Option Int := (fs.find? fun p => decide (p.1 = k)).map (·.2)

theorem same_int (a k : Int) : (Lit.int .i64 a).sameKey (.int .i64 k) = decide (a = k) := by simp [Lit.sameKey]
theorem im_ins (x : Int × Int) : ∀ fs : IL, DataW.insert (Lit.int .i64 x.1, DataW.held (H := Value) (.int .i64 x.2)) (fs.map fun p => (Lit.int .i64 p.1, DataW.held (.int .i64 p.2))) = (insI x fs).map fun p => (Lit.int .i64 p.1, DataW.held (.int .i64 p.2))
  | [] => rfl
  | y :: r => by
    rw [List.map_cons, DataW.insert, insI]
    have e : (Lit.int .i64 x.1).before (Lit.int .i64 y.1) = decide (x.1 < y.1) := rfl
    by_cases h : decide (x.1 < y.1) = true
    · rw [if_pos h, if_pos (e.trans h)]; simp
    · rw [if_neg h, if_neg (fun g => h (e.symm.trans g)), im_ins x r]; simp
theorem im_filter (k : Int) (fs : IL) : (fs.map fun p => (Lit.int .i64 p.1, DataW.held (H := Value) (.int .i64 p.2))).filter (fun p => !p.1.sameKey (.int .i64 k)) = (delI k fs).map fun p => (Lit.int .i64 p.1, DataW.held (.int .i64 p.2)) := by
  unfold delI
  rw [List.filter_map]
  congr 1
  refine List.filter_congr fun p _ => ?_
  show (!(Lit.int .i64 p.1).sameKey (.int .i64 k)) = _
  rw [same_int]
theorem im_put (k v : Int) (fs : IL) : (im fs).put (.int .i64 k) (.held (.int .i64 v)) = im (putI k v fs) := by
  unfold im DataW.put
  simp only
  rw [im_filter, im_ins (k, v)]
  rfl
theorem im_del (k : Int) (fs : IL) : (im fs).del (.int .i64 k) = im (delI k fs) := by
  unfold im DataW.del
  simp only
  rw [im_filter]
theorem im_at (k : Int) (z : DataW Value) : ∀ fs : IL, (im fs).atKey (.int .i64 k) z = match getI k fs with | some v => .held (.int .i64 v) | none => z
  | [] => rfl
  | y :: r => by
    have ih := im_at k z r
    unfold im DataW.atKey getI at ih ⊢
    simp only [List.map_cons, List.find?_cons, same_int] at ih ⊢
    by_cases h : y.1 = k
    · rw [decide_eq_true h]; rfl
    · rw [decide_eq_false h]
      exact ih

/-- block b is a map of the keys and values fs -/
def IAt (k : TypeId) (w : World) (b n : Nat) (fs : IL) : Prop := w.ownsMap Try.prog k RI b n (im fs)
theorem IAt.made (k : TypeId) (w : World) : IAt k (w.alloc (.map #[] 0)) w.heap.size 0 [] := World.ownsMap_made w Try.prog k RI
theorem IAt.lt {k : TypeId} {w : World} {b n : Nat} {fs : IL} (h : IAt k w b n fs) : b < w.heap.size := World.ownsMap.lt h
theorem IAt.kept {k : TypeId} {w w' : World} {b n : Nat} {fs : IL} (h : IAt k w b n fs) (hk : w'.heap[b]? = w.heap[b]?) : IAt k w' b n fs := by
  obtain ⟨es, clock, hb, F, hs, hD⟩ := h
  exact ⟨es, clock, hk.trans hb, F, hs, hD⟩
theorem IAt.mono {k : TypeId} {w : World} {b n m : Nat} {fs : IL} (h : IAt k w b n fs) (hm : n ≤ m) : IAt k w b m fs := World.ownsMap.mono h hm

theorem IAt.look {k t e : TypeId} {w : World} {b n : Nat} {fs : IL} (h : IAt k w b n fs) (hk : Try.prog.underlying k = some (.int .i64)) (ht : Try.prog.underlying t = some (.map k e)) (hz : (zeroValue e).run Try.prog w = .ok (.int .i64 0) w) {x : Int} (hx : (Lit.int .i64 x).wf = true) (c : Bool) :
    (Instr.lookup t (.map (some b)) (.int .i64 x) c).run Try.prog w = .ok (if c then .tuple #[.int .i64 ((getI x fs).getD 0), .bool (getI x fs).isSome] else .int .i64 ((getI x fs).getD 0)) w := by
  obtain ⟨es, clock, hb, F, _, hD⟩ := h
  have key := Maps.keyOf_int_mk (P := Try.prog) hk hx
  rcases Maps.fit_look c (Maps.int_keyed hk) ht hz hb F key with ⟨hrun, _, hat⟩ | ⟨e0, y, _, _, hrun, hRv, hat, _⟩
  · have h1 := hat (.nil)
    rw [← hD, im_at] at h1
    cases hg : getI x fs with
    | none => rw [hrun]; rfl
    | some v => rw [hg] at h1; cases h1
  · have h1 := hat (.nil)
    rw [← hD, im_at] at h1
    obtain rfl : y = (.held e0.val, []) := (Option.some.inj (show some ((DataW.held e0.val : DataW Value), ([] : List MemPlace)) = some y from hRv)).symm
    cases hg : getI x fs with
    | none => rw [hg] at h1; cases h1
    | some v =>
      rw [hg] at h1
      have h2 : .int .i64 v = e0.val := DataW.held.inj h1
      rw [hrun, ← h2]; rfl
theorem IAt.store {k t e : TypeId} {w : World} {b n : Nat} {fs : IL} (h : IAt k w b n fs) (hk : Try.prog.underlying k = some (.int .i64)) (ht : Try.prog.underlying t = some (.map k e)) (hn : n < 1000000) {x : Int} (hx : (Lit.int .i64 x).wf = true) (v : Int) :
    ∃ w', (Instr.mapUpdate t (.map (some b)) (.int .i64 x) (.int .i64 v)).run Try.prog w = .ok () w' ∧ IAt k w' b (n + 1) (putI x v fs) ∧ w.grownBy w' (some b) := by
  obtain ⟨w', h1, h2, h3⟩ := World.ownsMap.update h (Maps.int_keyed hk) ht (by unfold maxLen; omega) (Maps.keyOf_int_mk (P := Try.prog) hk hx) (show RI (.int .i64 v) = some (.held (.int .i64 v), []) from rfl)
  rw [im_put] at h2
  exact ⟨w', h1, h2, h3⟩
theorem IAt.delete {k t e : TypeId} {w : World} {b n : Nat} {fs : IL} (h : IAt k w b n fs) (hk : Try.prog.underlying k = some (.int .i64)) (ht : Try.prog.underlying t = some (.map k e)) {x : Int} (hx : (Lit.int .i64 x).wf = true) (ty : TypeId) :
    ∃ w', (Builtin.delete_ #[t, k] ty #[.map (some b), .int .i64 x]).run Try.prog w = .ok (.tuple #[]) w' ∧ IAt k w' b n (delI x fs) ∧ w.grownBy w' (some b) := by
  obtain ⟨es, clock, hb, F, hsz, hD⟩ := h
  obtain ⟨es', hrun, F', hle, hdel, _⟩ := Maps.fit_drop (ty := ty) (Maps.int_keyed hk) ht hb F (Maps.keyOf_int_mk (P := Try.prog) hk hx)
  refine ⟨_, hrun, ⟨es', clock, heap_setBlock_same hb _, F', Nat.le_trans hle hsz, ?_⟩, ⟨rfl, rfl, rfl, by simp [setBlock], fun i _ hi => heap_setBlock_other hb _ (fun e => hi (by rw [e]))⟩⟩
  rw [← im_del, hD]
  unfold DataW.del
  simp only
  rw [hdel]
  rfl
/-- how many keys there are -/
theorem IAt.len {k t e : TypeId} {w : World} {b n : Nat} {fs : IL} (h : IAt k w b n fs) (ht : Try.prog.underlying t = some (.map k e)) (ty : TypeId) : (Builtin.len_ #[t] ty #[.map (some b)]).run Try.prog w = .ok (.int .i64 (fs.length : Int)) w := by
  have := World.ownsMap.len h ht ty
  rw [this]
  unfold im Maps.size
  simp

/-! the plain list -/
theorem get_ins (k v x : Int) : ∀ {fs : IL}, getI k fs = none → getI x (insI (k, v) fs) = if x = k then some v else getI x fs
  | [], _ => by
    unfold insI getI
    by_cases h : x = k
    · subst h; simp
    · rw [if_neg h]; simp [show ¬ k = x from fun e => h e.symm]
  | y :: r, h => by
    have hy : ¬ y.1 = k := fun e => by unfold getI at h; rw [List.find?_cons, decide_eq_true e] at h; cases h
    have hr : getI k r = none := by unfold getI at h ⊢; rw [List.find?_cons, decide_eq_false hy] at h; exact h
    rw [insI]
    split
    · by_cases hx : x = k
      · subst hx; unfold getI; simp
      · rw [if_neg hx]; unfold getI; rw [List.find?_cons, decide_eq_false (show ¬ k = x from fun e => hx e.symm)]
    · have ih := get_ins k v x hr
      unfold getI at ih ⊢
      rw [List.find?_cons, List.find?_cons]
      by_cases hx : y.1 = x
      · rw [decide_eq_true hx]
        rw [if_neg (show ¬ x = k from fun e => hy (hx.trans e))]
      · rw [decide_eq_false hx]
        exact ih
theorem get_del (k x : Int) (fs : IL) : getI x (delI k fs) = if x = k then none else getI x fs := by
  unfold getI delI
  induction fs with
  | nil => simp
  | cons y r ih =>
    rw [List.filter_cons]
    by_cases hy : y.1 = k
    · rw [decide_eq_true hy]
      simp only [Bool.not_true, Bool.false_eq_true, if_false]
      rw [ih]
      by_cases hx : x = k
      · rw [if_pos hx, if_pos hx]
      · rw [if_neg hx, if_neg hx, List.find?_cons, decide_eq_false (show ¬ y.1 = x from fun e => hx (e.symm.trans hy))]
    · rw [decide_eq_false hy]
      simp only [Bool.not_false, if_true]
      rw [List.find?_cons, List.find?_cons]
      by_cases h2 : y.1 = x
      · rw [decide_eq_true h2, if_neg (fun e => hy (h2.trans e))]
      · rw [decide_eq_false h2]
        exact ih
theorem get_put (k v x : Int) (fs : IL) : getI x (putI k v fs) = if x = k then some v else getI x fs := by
  unfold putI
  rw [get_ins k v x (by rw [get_del, if_pos rfl]), get_del]
  by_cases h : x = k
  · rw [if_pos h, if_pos h]
  · rw [if_neg h, if_neg h, if_neg h]
theorem len_ins (x : Int × Int) : ∀ fs : IL, (insI x fs).length = fs.length + 1
  | [] => rfl
  | y :: r => by
    rw [insI]
    split
    · rfl
    · rw [List.length_cons, len_ins x r]; rfl
theorem del_none {k : Int} {fs : IL} (h : getI k fs = none) : delI k fs = fs := by
  unfold delI
  refine List.filter_eq_self.2 fun p hp => ?_
  unfold getI at h
  have h2 : fs.find? (fun p => decide (p.1 = k)) = none := by simpa using h
  have := List.find?_eq_none.1 h2 p hp
  simp only [decide_eq_true_eq] at this
  simp [this]
theorem len_put_new {k v : Int} {fs : IL} (h : getI k fs = none) : (putI k v fs).length = fs.length + 1 := by
  unfold putI
  rw [len_ins, del_none h]
theorem mem_ins (x z : Int × Int) : ∀ fs : IL, z ∈ insI x fs ↔ z = x ∨ z ∈ fs
  | [] => by simp [insI]
  | y :: r => by
    rw [insI]
    split
    · simp
    · rw [List.mem_cons, List.mem_cons, mem_ins x z r]
      constructor
      · rintro (h | h | h)
        · exact .inr (.inl h)
        · exact .inl h
        · exact .inr (.inr h)
      · rintro (h | h | h)
        · exact .inr (.inl h)
        · exact .inl h
        · exact .inr (.inr h)
theorem mem_del (k : Int) (z : Int × Int) (fs : IL) : z ∈ delI k fs ↔ z ∈ fs ∧ z.1 ≠ k := by
  unfold delI
  rw [List.mem_filter]
  simp
theorem mem_put (k v : Int) (z : Int × Int) (fs : IL) : z ∈ putI k v fs ↔ z = (k, v) ∨ (z ∈ fs ∧ z.1 ≠ k) := by
  unfold putI
  rw [mem_ins, mem_del]
/-- each key once -/
def One (fs : IL) : Prop := (fs.map Prod.fst).Nodup
theorem one_ins {x : Int × Int} : ∀ {fs : IL}, One fs → (∀ p ∈ fs, p.1 ≠ x.1) → One (insI x fs)
  | [], _, _ => by unfold One insI; simp
  | y :: r, h, hx => by
    unfold One at h ⊢
    rw [insI]
    rw [List.map_cons, List.nodup_cons] at h
    split
    · rw [List.map_cons, List.nodup_cons, List.map_cons, List.nodup_cons]
      refine ⟨fun hm => ?_, h⟩
      rcases List.mem_cons.1 hm with hm | hm
      · exact hx y List.mem_cons_self hm.symm
      · obtain ⟨p, hp, e⟩ := List.mem_map.1 hm
        exact hx p (List.mem_cons_of_mem _ hp) e
    · rw [List.map_cons, List.nodup_cons]
      refine ⟨fun hm => ?_, one_ins h.2 fun p hp => hx p (List.mem_cons_of_mem _ hp)⟩
      obtain ⟨p, hp, e⟩ := List.mem_map.1 hm
      rcases (mem_ins x p r).1 hp with rfl | hp
      · exact hx y List.mem_cons_self e.symm
      · exact h.1 (List.mem_map.2 ⟨p, hp, e⟩)
theorem one_del {k : Int} {fs : IL} (h : One fs) : One (delI k fs) := by
  unfold One delI at *
  exact h.sublist (List.filter_sublist.map _)
theorem one_put {k v : Int} {fs : IL} (h : One fs) : One (putI k v fs) := one_ins (one_del h) fun p hp => ((mem_del k p fs).1 hp).2
theorem get_mem {fs : IL} (h : One fs) {k v : Int} : getI k fs = some v ↔ (k, v) ∈ fs := by
  unfold getI
  induction fs with
  | nil => simp
  | cons y r ih =>
    unfold One at h
    rw [List.map_cons, List.nodup_cons] at h
    rw [List.find?_cons]
    by_cases e : y.1 = k
    · rw [decide_eq_true e]
      simp only [Option.map_some, Option.some.injEq, List.mem_cons]
      constructor
      · rintro rfl
        left
        rw [← e]
      · rintro (e2 | e2)
        · rw [← e2]
        · exact absurd (List.mem_map.2 ⟨(k, v), e2, e.symm⟩) h.1
    · rw [decide_eq_false e]
      simp only [List.mem_cons]
      rw [ih h.2]
      constructor
      · exact .inr
      · rintro (e2 | e2)
        · exact absurd (by rw [← e2]) e
        · exact e2

/-- the least of some values, and of most -/
def IsLeast (most : Int) (fs : IL) (x : Int) : Prop := x ≤ most ∧ (∀ p ∈ fs, x ≤ p.2) ∧ (x = most ∨ ∃ p ∈ fs, p.2 = x)
theorem IsLeast.one {most : Int} {fs : IL} {x y : Int} (h : IsLeast most fs x) (k : IsLeast most fs y) : x = y := by
  obtain ⟨h1, h2, h3⟩ := h
  obtain ⟨k1, k2, k3⟩ := k
  have a : x ≤ y := by
    rcases k3 with rfl | ⟨p, hp, rfl⟩
    · exact h1
    · exact h2 p hp
  have b : y ≤ x := by
    rcases h3 with rfl | ⟨p, hp, rfl⟩
    · exact k1
    · exact k2 p hp
  omega
/-- what has been seen of a map while it is gone through -/
def LeastSo (most : Int) (fs : IL) (left : Lit → Bool) (x : Int) : Prop := x ≤ most ∧ (∀ p ∈ fs, left (.int .i64 p.1) = false → x ≤ p.2) ∧ (x = most ∨ ∃ p ∈ fs, p.2 = x)
theorem LeastSo.step {most : Int} {fs : IL} (h1 : One fs) {left : Lit → Bool} {x k v : Int} (h : LeastSo most fs left x) (hv : (k, v) ∈ fs) : LeastSo most fs (fun z => left z && !z.sameKey (.int .i64 k)) (min x v) := by
  obtain ⟨a, b, c⟩ := h
  refine ⟨by omega, fun p hp hl => ?_, ?_⟩
  · simp only [same_int] at hl
    by_cases e : p.1 = k
    · have : p.2 = v := by
        have e1 := (get_mem h1 (k := p.1) (v := p.2)).2 hp
        rw [e, (get_mem h1).2 hv] at e1
        exact (Option.some.inj e1).symm
      omega
    · have := b p hp (by simpa [e] using hl)
      omega
  · rcases Int.le_total x v with hle | hle
    · rw [Int.min_eq_left hle]; exact c
    · rw [Int.min_eq_right hle]; exact .inr ⟨(k, v), hv, rfl⟩

end Go.Proofs.Ytookplnegfheeaa.iM
